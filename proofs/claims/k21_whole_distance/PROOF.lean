import PyProof.Rows.All
import Wide.All
import OpenK.AllK
import Wide.FinOn
import KE.KIsAll
import KE.KExcIs
import HandS.ForMost
import HandS.ForExc
import HandS.TryMany
import HandS.ExcInit
import HandS.ExcValue
import HandS.ExcField
import HandS.IsInst
import HandS.ExcIs
import HandS.Small
import HandS.Wide
import HandS.Flow
import HandS.Evl
import HandS.Conv
import HandS.Walk
import KE.KDictKeyed
import KE.KDictList
import KE.KDictDisplayH
import HandS.SetKeys
import HandS.DictComp
import HandS.NoneIn
import HandS.SortInts
import HandS.SortOrd
import HandS.TupAny
import HandS.ListItems
import HandS.SortRule
import HandS.ExcCtx
import HandS.HotCalls
import HandS.ExcInitHot
import HandS.TupSets
import HandS.SetFor
import HandS.Deep
import PyProof.WalkInts
import PyProof.WalksMore
import KE.GoesMore
import HandS.Zip
import HandS.Style
import HandS.HeadHook3
import HandS.Star
import HandS.MakeKwOnly
import HandS.CallLocal
import HandS.ClsMeth
import HandS.ExcOwn
import HandS.Property
import HandS.More
import HandS.SlotsOwn
import HandS.Defaults
import HandS.Rev
import KE.GoesEnum
import HandS.List
import KE.KRevSl
import KE.SortData
import KE.DataCmp
import PyProof.TupleOfSeq
import KE.KListMore
import HandS.Strs
import HandS.FStr
import KE.DataEq
import PySem.Challenge.RW_peermend_k21_whole_distance
set_option Elab.async false
set_option linter.all false
set_option maxRecDepth 100000
set_option maxHeartbeats 4000000
namespace L2
open PySem PySem.Spec PyProof.Rows

/-- an error object held as a value: without a dict, or with one that holds fields -/
def ErrT (H : Hp) (a C : Addr) : Prop := H a = some (ExO (.ref C) a) ∨ ∃ (dx : Addr) (fs : List (Str × V)), H a = some (exo a C (some dx)) ∧ H dx = some (exd dx fs)
/-- isinstance of such a value -/
def rIsX (K : PySem.W.Frag) : List V → Hp → VK → Prop := fun xs H Q => ∃ (a C : Addr) (c : V) (u : Value) (b : Bool), xs = [.ref a, c] ∧ ErrT H a C ∧ ExcC K C ∧ ClsV c u ∧ PySem.W.kitOne K (.ref C) u = some b ∧ Q (.bl b) H
theorem clsIn_some {K : PySem.W.Frag} {C : Addr} (h : PySem.W.hasDictIn K C = true) : (PySem.W.clsIn K C).isSome = true := by
  obtain ⟨cd, hc, _⟩ := PySem.W.any_some h
  rw [hc]
  rfl
theorem kitX_err {K : PySem.W.Frag} {C a : Addr} {oe : Obj} {od : Option Obj} (D : ExcC K C) : PySem.W.KitX K (.ref a) (.ref C) (fun h => PySem.W.InstAt h a oe C od) :=
  PySem.W.kitx_exc (clsIn_some D.hd) D.hg D.hk D.hs D.ha D.hn D.ht D.hm
theorem call_isX {X : Cx} : CallR X (.builtin "isinstance") (rIsX X.K) := by
  intro pins s σ H xs us Q I r h
  obtain ⟨a, C, c, u, b, rfl, T, D, k, e, q⟩ := h
  obtain ⟨u1, u2, rfl, r1, r2⟩ := vals2 r
  have e2 := k.eq r2
  subst e2
  cases (show u1 = Value.ref a from r1)
  rcases T with ea | ⟨dx, fs, ea, ed⟩
  · have x : ObjOk X.prog X.w H s.heap a (ExO (.ref C) a) := I.hok a _ ea
    obtain ⟨⟨oe, vs, ho, hz, hd, _⟩, _, _⟩ := x
    obtain ⟨oc, odi, oda, osl⟩ := oe
    obtain ⟨h1, h2⟩ := hz
    dsimp only at h1 h2 hd
    subst h1 h2 hd
    exact PySem.W.kia_one (kitX_err (od := none) D) I.kIn ⟨ho, rfl, rfl, trivial⟩ e (fun z => nomatch z) fun tk => ⟨.bl b, H, I.tok tk, rfl, q⟩
  · obtain ⟨t1, ho⟩ := exo_at I.hok ea
    obtain ⟨mA, hns, _⟩ := exd_at I.hok ed
    obtain ⟨od, ho2, _⟩ := lookIn_ns hns
    exact PySem.W.kia_one (kitX_err (od := some od) D) I.kIn ⟨ho, rfl, rfl, ho2⟩ e (fun z => nomatch z) fun tk => ⟨.bl b, H, I.tok tk, rfl, q⟩
/-- isinstance(e, c), e the exception that the suite holds, with its dict -/
def rIsS (K : PySem.W.Frag) (a : Addr) (cls : Value) (d : Option Addr) : List V → Hp → VK → Prop := fun xs H Q => ∃ (C dd : Addr) (fs : List (Str × V)) (c : V) (u : Value) (b : Bool), xs = [.ref a, c] ∧ cls = .ref C ∧ d = some dd ∧ H dd = some (.xd fs) ∧
  ExcC K C ∧ ClsV c u ∧ PySem.W.kitOne K (.ref C) u = some b ∧ Q (.bl b) H
theorem call_isS {X : Cx} {K : PySem.W.Frag} {a : Addr} {cls : Value} {d : Option Addr} {oe : Obj} {pn : List (Addr × Obj)} (hK : X.K = K) (hz : Zc cls d oe) (hf : ∃ vs, oe.data = .fields vs) : CallR (X.suite a ((a, oe) :: pn)) (.builtin "isinstance") (rIsS K a cls d) := by
  subst hK
  intro pins s σ H xs us Q I r h
  obtain ⟨C, dd, fs, c, u, b, rfl, rfl, rfl, ea, D, k, e, q⟩ := h
  obtain ⟨u1, u2, rfl, r1, r2⟩ := vals2 r
  have e2 := k.eq r2
  subst e2
  cases (show u1 = Value.ref a from r1)
  obtain ⟨hget, _⟩ := I.pin (a, oe) (List.mem_append.mpr (.inl List.mem_cons_self))
  obtain ⟨vs, hv⟩ := hf
  have hx : ObjOk X.prog X.w H s.heap dd (.xd fs) := I.hok dd _ ea
  obtain ⟨mA, hns, hr⟩ := hx
  obtain ⟨od, ho, hl⟩ := lookIn_ns hns
  have J : PySem.W.InstAt s.heap a oe C (some od) := ⟨hget, hz.1, by unfold PySem.W.notCls; rw [hv] <;> rfl, by rw [hz.2]; exact ho⟩
  exact PySem.W.kia_one (kitX_err D) I.kIn J e (fun z => nomatch z) fun tk => ⟨.bl b, H, I.kept (t' := tk) fun _ _ z => z, rfl, q⟩

section
variable {X : Cx} {C : Addr} {bmB : List Value} {B newId initId : String} {x : Str} {p pos : Pos}
/-- X(), raised: an own exception class without own __init__ -/
theorem pmk_own0 (F : ExcBaseFacts B newId initId bmB) (q : PySem.W.excIn X.K C bmB newId = true) (gC : X.mg x = some (.ref C)) (kC : PySem.W.keepIn X.K (.ref C) = true) (r : Raises X (.ref C)) (hg : Gl X x)
    (hdb : (x == ("__debug__" : Str)) = false := by decide) : PMk X (.Call (.Name x p) [] [] pos) (fun _ H Q => Q (.ref C) none H) := by
  intro pins s σ H Q I h
  refine wpAny_Call_Name_kw (ld_glob I hg gC ?_ hdb)
  refine PySem.W.callWith_K0 I.kIn kC ?_
  obtain ⟨bm, N, nm, qn, bs, hdct, sn, sub, ab, col, dd, k0, k1, k2, k3, k5, mN, hC, hN, hni, T⟩ := exc_obj I.kIn q
  refine wpAny_call_exc_subT F T hC hN hni (fun h' e hm => ?_) (Nat.zero_le _)
  exact mk_of I hm r h (I.hok.gone hm.new)
/-- X(), as a value -/
theorem pe_exc0 (F : ExcBaseFacts B newId initId bmB) (q : PySem.W.excIn X.K C bmB newId = true) (gC : X.mg x = some (.ref C)) (kC : PySem.W.keepIn X.K (.ref C) = true) (hg : Gl X x)
    (hdb : (x == ("__debug__" : Str)) = false := by decide) : PE X (.Call (.Name x p) [] [] pos) (fun _ H Q => ∀ a, H a = none → Q (.ref a) (upd H a (ExO (.ref C) a))) := by
  refine ⟨fun pins s σ H Q I h => ?_⟩
  refine wpAny_Call_Name_kw (ld_glob I hg gC ?_ hdb)
  refine PySem.W.callWith_K0 I.kIn kC ?_
  obtain ⟨bm, N, nm, qn, bs, hdct, sn, sub, ab, col, dd, k0, k1, k2, k3, k5, mN, hC, hN, hni, T⟩ := exc_obj I.kIn q
  refine wpAny_call_exc_subT F T hC hN hni (fun h' a hm => ?_) (Nat.zero_le _)
  have hn : H a = none := I.hok.gone hm.new
  obtain ⟨t, ht, _, _⟩ := hm.there
  exact ⟨.ref a, upd H a (ExO (.ref C) a), I.laidN hm.keeps hm.new hn (exO_ok ht ⟨rfl, rfl⟩ rfl rfl rfl (show 4 < 6 by decide)), rfl, h a hn⟩
end
/-- X(e, ..) as a value, its own __init__ keeping sp -/
def tMkV (C : Addr) (sp : Sp) (ta : TA) : TE := fun σ H Q => ta σ H fun vs H1 => vs.length ≤ 1000 ∧ ∀ a, H1 a = none → sp (.ref a :: vs) (upd H1 a (exo a C none)) (fun v H2 => v = .non ∧ Q (.ref a) H2) (fun _ _ _ => False)
section
variable {X : Cx} {e : Expr} {es : List Expr} {ta : TA} {p pos : Pos}
theorem pe_oexV {CX : CXT} {x : Str} {C fI : Addr} {k : Nat} {fd : FuncData} {ps : List Str} {sp : Sp} (T : OexC X.K C) (iC : PySem.W.findIn X.K (.ref C) "__init__" = some (some (.ref fI))) (tI : PySem.W.typeIn X.K (.ref fI) = some (.type "function"))
    (F1 : FnOk X.prog X.w X.K X.mg X.base CX k fI fd ps sp) (hr : Room (k + 1) X.A) (hb : Binds X.K fd ps []) (hx : Passes CX X (fun _ _ _ => False)) (hg : Gl X x) (hm : X.mg x = some (.ref C)) (ha : PA X (e :: es) ta)
    (hdb : (x == ("__debug__" : Str)) = false := by decide) (he : starEach (e :: es) X.env = (false, eval e X.env) :: starEach es X.env := by rfl) (hpl : (backTo pos (starEach es X.env)).any (·.1) = false := by rfl) :
    PE X (.Call (.Name x p) (e :: es) [] pos) (tMkV C sp ta) := by
  refine ⟨fun pins s σ H Q I h => ?_⟩
  obtain ⟨nm, q, N, bs, bm, sn, sub, ab, col, dd, k0, k1, k2, k3, k5, hC, hmro⟩ := T.cls
  refine wpAny_Call_Name_kw (ld_glob I hg hm ?_ hdb)
  refine PySem.W.callWith_K (h₀ := X.base) I.ok.mod.kin T.kC (thn (ha.run pos pins s σ H _ I h) fun us s1 ⟨vs, H1, I1, r1, hz, q1⟩ => ⟨I1.kIn, ?_⟩) he hpl
  show wpAny _ _ (call (.ref C) us) _ _ _
  obtain ⟨hh, g, dw, tc, ow⟩ := s1
  have hgt : hh.objs.size ≤ hh.objs.size + 1 := Nat.le_succ _
  have fr1 : H1 (hh.objs.size + 1) = none := I1.hok.fresh hgt
  have pr1 := q1 (hh.objs.size + 1) fr1
  have kp1 : ∀ b o, hh.get? b = some o → ((hh.push (PySem.W.kdv_tup us)).push (PySem.HandSPX.excO C hh.objs.size)).get? b = some o := fun b o e => Heap.get?_push_of_some _ (Heap.get?_push_of_some _ e)
  have ob1 : ((hh.push (PySem.W.kdv_tup us)).push (PySem.HandSPX.excO C hh.objs.size)).get? (hh.objs.size + 1) = some (PySem.HandSPX.excO C hh.objs.size) := by heap_get
  have Iv2 : Inv X pins σ (upd H1 (hh.objs.size + 1) (exo (hh.objs.size + 1) C none)) ⟨(hh.push (PySem.W.kdv_tup us)).push (PySem.HandSPX.excO C hh.objs.size), g, dw, tc, ow⟩ :=
    I1.laid (t' := tc) (a := hh.objs.size + 1) (o := exo (hh.objs.size + 1) C none) (h' := (hh.push (PySem.W.kdv_tup us)).push (PySem.HandSPX.excO C hh.objs.size)) kp1 hgt (exo_ok ob1)
  have rl2 : Vals (V.ref (hh.objs.size + 1) :: vs) (Value.ref (hh.objs.size + 1) :: us) := .cons rfl r1
  have ln1 : (Value.ref (hh.objs.size + 1) :: us).length = ps.length := by
    have e := rl2.length
    rw [F1.len _ _ _ _ pr1] at e
    exact e.symm
  have ln2 : us.length ≤ sizeLine := by
    rw [← Paired.length r1, sizeLine_eq]
    omega
  have b0 := hb ⟨(hh.push (PySem.W.kdv_tup us)).push (PySem.HandSPX.excO C hh.objs.size), g, dw, tc, ow⟩ (Value.ref (hh.objs.size + 1) :: us) Iv2.kIn (by rw [List.append_nil]; exact ln1)
  rw [List.append_nil] at b0
  refine wpAny_call (PySem.HandSPX.call_own F.excBase_ValueError (fun Y => PySem.HandSPX.refsVE_contains Y bm hmro) (I1.kIn _ _ hC) (PySem.W.looks_findIn I1.kIn iC) (fun self => PySem.W.bind_fn I1.kIn self tI) ln2
    (codeAny_mono (F1.run _ X.stack _ _ ⟨Value.ref (hh.objs.size + 1) :: us, []⟩ (Value.ref (hh.objs.size + 1) :: us) _ _ (fun _ _ _ => False) (hr.make C us []) (Iv2.env0.make C us []) b0 rl2 pr1) fun r s' hq' => ?_))
  cases r with
  | error er => exact hx pins σ _ _ er s' Iv2 hq'
  | ok fl =>
    cases fl with
    | ret u =>
      obtain ⟨v, H2, os2, bare2, un2, hok2, rv, ev, q2⟩ := hq'
      subst ev
      exact ⟨rv, .ref (hh.objs.size + 1), H2, Iv2.call' (ch := []) os2 un2 hok2 bare2 (fun b z => absurd z (by simp)), rfl, q2⟩
    | next => exact False.elim hq'
    | brk => exact False.elim hq'
    | cont => exact False.elim hq'
/-- err.f, err an error held as a value -/
def tXa (K : PySem.W.Frag) (f : Str) (te : TE) : TE := fun σ H Q => te σ H fun x H1 => ∃ (a C dx : Addr) (fs : List (Str × V)) (v : V), x = .ref a ∧ H1 a = some (exo a C (some dx)) ∧ H1 dx = some (exd dx fs) ∧ XfC K C ∧ PySem.W.findIn K (.ref C) f = some none ∧ fs.lookup f = some v ∧ Q v H1
theorem pe_xa {te : TE} {n : Str} (he : PE X e te) (hb : attributeBase e n X.env (eval e X.env) = eval e X.env := by rfl) : PE X (.Attribute e n pos) (tXa X.K n te) := by
  refine ⟨fun pins s σ H Q I h => ?_⟩
  refine attr_of hb (thn (he.run pins s σ H _ I h) fun u s1 hh => ?_)
  obtain ⟨x, H1, I1, rx, a, C, dx, fs, v, ex, ea, ed, T, hno, l, q⟩ := hh
  subst ex
  obtain rfl : u = Value.ref a := rx
  obtain ⟨t1, ho⟩ := exo_at I1.hok ea
  obtain ⟨mA, hns, hr⟩ := exd_at I1.hok ed
  obtain ⟨od, ho2, ln1⟩ := lookIn_ns hns
  obtain ⟨u, hu, ru⟩ := RelO.some_of (v := v) (o := mA n) (by rw [← l]; exact hr n)
  have J : PySem.W.InstAt s1.heap a _ C (some od) := ⟨ho, rfl, rfl, ho2⟩
  exact HandSPX.exc_get I1.kIn J T.ga T.gg T.exC (PySem.W.findObj_own T.hdC hno rfl (by rw [ln1, hu])) (handed_of ru) ⟨v, H1, I1.tok _, ru, q⟩
end
theorem ix_listK {X : Cx} {K : PySem.W.Frag} (h : X.K = K) : IxR X (rIxL K) := by
  subst h
  exact ix_list
theorem ix_tupK {X : Cx} {K : PySem.W.Frag} (h : X.K = K) : IxR X (rIxT K) := by
  subst h
  exact ix_tup
/-! several except clauses, some with names -/
/-- what is behind a suite with (slot i) or without a name -/
def goneD (oi : Option Nat) (D : Ends) : Ends := match oi with
  | none => D
  | some i => { nx := fun σ' H' => D.nx (σ'.set i none) H', rt := D.rt, bk := fun σ' H' => D.bk (σ'.set i none) H', ct := fun σ' H' => D.ct (σ'.set i none) H' }
def hadS (oi : Option Nat) (a : Addr) (σ : St) : St := match oi with
  | none => σ
  | some i => σ.set i (some (.ref a))
def wManyN (K : PySem.W.Frag) (Wout : WX) (D : Ends) : List (Value × Option Nat × (Addr → Value → Option Addr → TS)) → WX
  | [] => Wout
  | (c, oi, ts) :: r => fun cls d σ H => ∃ b, PySem.W.exmOne K cls c = some b ∧ (b = true → ∀ a, H a = none → ts a cls d (goneD oi D) (hadS oi a σ) H) ∧ (b = false → wManyN K Wout D r cls d σ H)
inductive HdsN (X : Cx) : List ExceptHandler → List (Value × Option Nat × (Addr → Value → Option Addr → TS)) → Prop
  | nil : HdsN X [] []
  | cons {x : Str} {c : Value} {ts : Addr → Value → Option Addr → TS} {b₀ : Stmt} {suite : List Stmt} {np pos' : Pos} {hds : List ExceptHandler} {l : List (Value × Option Nat × (Addr → Value → Option Addr → TS))} (hc : Names X x c)
      (hsu : ∀ (a : Addr) (oe : Obj) (cls : Value) (d : Option Addr) (pn : List (Addr × Obj)), Zc cls d oe → (∃ vs, oe.data = .fields vs) → PSs (X.suite a ((a, oe) :: pn)) (b₀ :: suite) (ts a cls d)) (r : HdsN X hds l) :
      HdsN X (.ExceptHandler (some (.Name x np)) none (b₀ :: suite) pos' :: hds) ((c, none, ts) :: l)
  | consN {x n : Str} {i : Nat} {c : Value} {ts : Addr → Value → Option Addr → TS} {b₀ : Stmt} {suite : List Stmt} {np pos' : Pos} {hds : List ExceptHandler} {l : List (Value × Option Nat × (Addr → Value → Option Addr → TS))} (hN : X.N.Nodup) (hi : X.N[i]? = some n) (hln : X.env.kindOf n = some .local) (hc : Names X x c)
      (hsu : ∀ (a : Addr) (oe : Obj) (cls : Value) (d : Option Addr) (pn : List (Addr × Obj)), Zc cls d oe → (∃ vs, oe.data = .fields vs) → PSs (X.suite a ((a, oe) :: pn)) (b₀ :: suite) (ts a cls d)) (r : HdsN X hds l) :
      HdsN X (.ExceptHandler (some (.Name x np)) (some n) (b₀ :: suite) pos' :: hds) ((c, some i, ts) :: l)
section
variable {X : Cx} {body : List Stmt} {h₀ : ExceptHandler} {hds : List ExceptHandler} {l : List (Value × Option Nat × (Addr → Value → Option Addr → TS))} {pos : Pos} {tb : WX → TS} {Wout : WX}
theorem ps_try_manyN (hs : X.stack = X.env :: X.outer) (hf : X.env.frame = some X.env.locals) (tk : Takes X Wout)
    (hb : ∀ (W : WX) (pn : List (Addr × Obj)) (xe : Value → Shared → Prop), Takes (X.tr pn xe) W → PassesOwn (model X.prog X.w) X.A X.env xe → PSs (X.tr pn xe) body (tb W))
    (hh : HdsN X (h₀ :: hds) l) : PS X (.Try body (h₀ :: hds) [] [] pos) (fun D σ H => tb (wManyN X.K Wout D l) D σ H) := by
  refine ⟨fun pins s σ H D I h => ?_⟩
  have ok := I.ok
  have frA : X.A.frames = some (X.env :: X.outer) := by rw [ok.frames, hs]
  refine wpAny_Try_except ?_
  refine wpAny_mono ((hb (wManyN X.K Wout D l) (X.pn ++ pins) (fun e s₁ => wpAny (model X.prog X.w) X.A (noteFrame e X.env) (fun _ s₂ => wpAny (model X.prog X.w) X.A (setFlight e none) (fun _ s₃ =>
    wpAny (model X.prog X.w) X.A (handleBy e X.env (h₀ :: hds)) (SP X pins D) X.xe s₃) X.xe s₂) X.xe s₁) (fun u s' xx => ?_) PassesOwn.looking).run [] s σ H D (I.toTry _) h) (fun f s1 back => ?_) (fun e s1 he => he)
  · -- the catch
    obtain ⟨a, B, sI, pins', σ', H', cls, d, rfl, J', nb, up, sky, na, os, ag, w⟩ := xx
    have J : Inv X pins σ' H' sI := J'.ofTry ok
    have skyE : Sky B (X.env :: X.outer) a (Zc cls d) X.env.locals s'.heap := by rw [← hs]; exact sky
    show wpAny (model X.prog X.w) X.A (noteFrame (.ref a) X.env) _ _ _
    refine Sky.land Zc.steady frA hf skyE fun h3 fz3 ut3 => ?_
    have Jn3 : Inv X pins σ' H' { s' with heap := h3 } := J.landed nb fz3.1 (up.trans ut3) os ag
    obtain ⟨ox3, xs3, ob3, zc3, dt3⟩ := fz3.there
    have aside : ∀ {h : Heap} {o : Obj} {vs : Array Value}, h.FunFrames B (X.env :: X.outer) → h.get? a = some o → o.data = .fields vs → a ∉ frs (X.env :: X.outer) := fun {h o vs} ff e dd hm => by
      obtain ⟨_, o', e', hnf⟩ := ff.mem hm
      rw [e] at e'; cases e'
      exact hnf _ dd
    have offF := aside fz3.2.2.1 ob3 dt3
    have offL : a ≠ X.env.locals := fun z => offF (List.mem_filterMap.mpr ⟨X.env, List.mem_cons_self, by rw [hf, z]⟩)
    have offS : a ∉ X.fs := fun hm => by
      obtain ⟨e, he, q⟩ := List.mem_filterMap.mp hm
      exact offF (List.mem_filterMap.mpr ⟨e, List.mem_cons_of_mem _ he, q⟩)
    have In3 := Jn3.suite ob3 dt3 na offL offS
    have go : ∀ {hds' : List ExceptHandler} {l' : List (Value × Option Nat × (Addr → Value → Option Addr → TS))}, HdsN X hds' l' → wManyN X.K Wout D l' cls d σ' H' →
        wpAny (model X.prog X.w) X.A (handleBy (.ref a) X.env hds') (SP X pins D) X.xe { s' with heap := h3 } := by
      intro hds' l' hk
      induction hk with
      | nil =>
        intro w
        refine wpAny_handleBy_nil ?_
        obtain ⟨k1, k2, k3, oe, vs, T, oT, ts', he, hz, hd, h1, hr⟩ := id fz3
        unfold PySem.passOn
        refine wpAny_bind (wpAny_field he hd h1 ?_)
        rw [if_neg (show ¬ ((Value.ref T == Value.none) = true) from by simp)]
        have fin : wpAny (model X.prog X.w) X.A (setFlight (.ref a) X.env.frame) (fun _ s4 => wpAny (model X.prog X.w) X.A (throw (.ref a) : Sem Flow) (SP X pins D) X.xe s4) X.xe { s' with heap := h3 } := by
          rw [hf]
          refine HandSPX.setFlight_upZ fz3 fun h4 hh4 ut4 => wpAny_throw (tk _ _ ?_)
          exact ⟨a, B, sI, pins, σ', H', cls, d, rfl, J, nb, (up.trans ut3).trans ut4, .inr (.inr (by rw [hs]; exact hh4)), na, os, ag, w⟩
        first
          | exact wpAny_bind (wpAny_pure (wpAny_bind fin))
          | exact wpAny_bind fin
      | @cons x c ts b₀ suite np pos' hds2 l2 hc hsu r ih =>
        intro w
        obtain ⟨b, hx1, yes, nay⟩ := w
        refine wpAny_handleBy_cons (codeAny_handlers_test ?_) (by intro q; cases q)
        have lkT : PySem.W.Looks (model X.prog X.w) h3 (typeOf (.ref a)) cls := fun A Q E s k q => wpAny_typeOf_ref (k _ _ ob3) (by rw [zc3.1]; exact q)
        have lkM := PySem.W.exm_one (M := model X.prog X.w) (Jn3.kIn) lkT hx1
        have test : ∀ {Q : Value → Shared → Prop} {E : Value → Shared → Prop}, Q c { s' with heap := h3 } → wpAny (model X.prog X.w) (X.A.mark (some (.ref a))) (eval (.Name x np) X.env) Q E { s' with heap := h3 } := fun {Q E} q => by
          obtain ⟨hg, hdbg, hm | ⟨hm, hv, hnn⟩⟩ := hc
          · exact ld_glob (X := X.suite a ((a, ox3) :: (X.pn ++ pins))) In3 hg hm q hdbg
          · exact ld_blt (X := X.suite a ((a, ox3) :: (X.pn ++ pins))) In3 hg hm hv q hnn hdbg
        refine test (lkM.here ?_)
        cases b with
        | true =>
          refine codeAny_handlers_suite ?_
          refine HandSPX.lands_againZ fz3 fun h4 fz4 ut4 => ?_
          have Jn4 : Inv X pins σ' H' { s' with heap := h4 } := J.landed nb fz4.1 ((up.trans ut3).trans ut4) os ag
          obtain ⟨ox4, xs4, ob4, zc4, dt4⟩ := fz4.there
          have In4 := Jn4.suite ob4 dt4 na offL offS
          refine wpAny_mono ((hsu a ox4 cls d (X.pn ++ pins) zc4 ⟨_, dt4⟩).run [] _ _ H' _ In4 (yes rfl a na)) (fun f t6 back => ?_) (fun _ _ z => False.elim z)
          cases f with
          | next =>
            obtain ⟨σb, Hb, Inb, qb⟩ := back
            exact ⟨_, _, Inb.unsuite ok, qb⟩
          | brk =>
            obtain ⟨σb, Hb, Inb, qb⟩ := back
            exact ⟨_, _, Inb.unsuite ok, qb⟩
          | cont =>
            obtain ⟨σb, Hb, Inb, qb⟩ := back
            exact ⟨_, _, Inb.unsuite ok, qb⟩
          | ret u =>
            obtain ⟨vb, σb, Hb, Inb, rb, qb⟩ := back
            exact ⟨_, _, _, Inb.unsuite ok, rb, qb⟩
        | false =>
          show wpAny _ X.A (handleBy (.ref a) X.env hds2) _ _ _
          exact ih (nay rfl)
      | @consN x n i c ts b₀ suite np pos' hds2 l2 hN hi hln hc hsu r ih =>
        intro w
        obtain ⟨b, hx1, yes, nay⟩ := w
        have hloc : Loc X.env.scope n := .inl hln
        refine wpAny_handleBy_cons (codeAny_handlers_test ?_) (by intro q; cases q)
        have lkT : PySem.W.Looks (model X.prog X.w) h3 (typeOf (.ref a)) cls := fun A Q E s k q => wpAny_typeOf_ref (k _ _ ob3) (by rw [zc3.1]; exact q)
        have lkM := PySem.W.exm_one (M := model X.prog X.w) (Jn3.kIn) lkT hx1
        have test : ∀ {Q : Value → Shared → Prop} {E : Value → Shared → Prop}, Q c { s' with heap := h3 } → wpAny (model X.prog X.w) (X.A.mark (some (.ref a))) (eval (.Name x np) X.env) Q E { s' with heap := h3 } := fun {Q E} q => by
          obtain ⟨hg, hdbg, hm | ⟨hm, hv, hnn⟩⟩ := hc
          · exact ld_glob (X := X.suite a ((a, ox3) :: (X.pn ++ pins))) In3 hg hm q hdbg
          · exact ld_blt (X := X.suite a ((a, ox3) :: (X.pn ++ pins))) In3 hg hm hv q hnn hdbg
        refine test (lkM.here ?_)
        cases b with
        | true =>
          refine codeAny_handlers_suite_as ?_
          refine HandSPX.lands_againZ fz3 fun h4 fz4 ut4 => ?_
          have Jn4 : Inv X pins σ' H' { s' with heap := h4 } := J.landed nb fz4.1 ((up.trans ut3).trans ut4) os ag
          obtain ⟨ox4, xs4, ob4, zc4, dt4⟩ := fz4.there
          have In4 := Jn4.suite ob4 dt4 na offL offS
          refine store_ok (X := X.suite a ((a, ox4) :: (X.pn ++ pins))) (v := .ref a) In4 hN hi hloc rfl (fun t5 In5 => ?_) (.inr hln)
          refine wpAny_mono ((hsu a ox4 cls d (X.pn ++ pins) zc4 ⟨_, dt4⟩).run [] t5 _ H' _ In5 (yes rfl a na)) (fun f t6 back => ?_) (fun _ _ z => False.elim z)
          have gone : ∀ {σb : St} {Hb : Hp} {Q : Shared → Prop}, Inv (X.suite a ((a, ox4) :: (X.pn ++ pins))) [] σb Hb t6 → (∀ s7, Inv X pins (σb.set i none) Hb s7 → Q s7) →
              wpAny (model X.prog X.w) X.A (do bindName X.env n .none; unbindBehindTheSuite X.env n pos') (fun _ s7 => Q s7) X.xe t6 := fun {σb Hb Q} Inb hq => gone_ok (Inb.unsuite ok) hN hi hln hq
          cases f with
          | next =>
            obtain ⟨σb, Hb, Inb, qb⟩ := back
            exact gone Inb fun s7 J7 => ⟨_, _, J7, qb⟩
          | brk =>
            obtain ⟨σb, Hb, Inb, qb⟩ := back
            exact gone Inb fun s7 J7 => ⟨_, _, J7, qb⟩
          | cont =>
            obtain ⟨σb, Hb, Inb, qb⟩ := back
            exact gone Inb fun s7 J7 => ⟨_, _, J7, qb⟩
          | ret u =>
            obtain ⟨vb, σb, Hb, Inb, rb, qb⟩ := back
            exact gone Inb fun s7 J7 => ⟨_, _, _, J7, rb, qb⟩
        | false =>
          show wpAny _ X.A (handleBy (.ref a) X.env hds2) _ _ _
          exact ih (nay rfl)
    exact go hh w
  · cases f with
    | next =>
      obtain ⟨σ', H', J', q⟩ := back
      exact wpAny_execs_nil ⟨σ', H', J'.ofTry ok, q⟩
    | brk =>
      obtain ⟨σ', H', J', q⟩ := back
      exact ⟨σ', H', J'.ofTry ok, q⟩
    | cont =>
      obtain ⟨σ', H', J', q⟩ := back
      exact ⟨σ', H', J'.ofTry ok, q⟩
    | ret u =>
      obtain ⟨v, σ', H', J', r, q⟩ := back
      exact ⟨v, σ', H', J'.ofTry ok, r, q⟩
end
end L2

namespace Pm
/-! ### forms and blocks -/
def form : Nat → List Nat
  | 0 => [0] | 1 => [1, 0] | 2 => [1, 1] | 3 => [1, 2, 1] | 4 => [1, 2, 2] | 5 => [1, 2, 1, 2] | 6 => [1, 2, 3, 2] | _ => [1, 2, 3, 0]
abbrev Bk := Nat × List Nat
structure Blk (ys : List Nat) (b : Bk) : Prop where
  w : b.1 < 8
  len : b.2.length = (form b.1).length
  sh : ∀ k, k < b.2.length → ys.getD (b.2.getD k 0) 0 = b.2.getD ((form b.1).getD k 0) 0
structure Built (ys : List Nat) (bs : List Bk) : Prop where
  blk : ∀ b ∈ bs, Blk ys b
  perm : (bs.flatMap (·.2)).Perm (List.range ys.length)
theorem form_len (w : Nat) : 0 < (form w).length := by
  unfold form
  split <;> decide
theorem form_lt (w k : Nat) (h : k < (form w).length) : (form w).getD k 0 < (form w).length := by
  unfold form at h ⊢
  split at h <;> (simp at h ⊢; rcases k with _ | _ | _ | _ | k <;> simp at h ⊢ <;> omega)
/-- the least of a list -/
def mn : List Nat → Nat
  | [] => 0
  | [a] => a
  | a :: b :: l => min a (mn (b :: l))
theorem mn_mem : ∀ {l : List Nat}, l ≠ [] → mn l ∈ l
  | [], h => absurd rfl h
  | [a], _ => by simp [mn]
  | a :: b :: l, _ => by
    have ih := mn_mem (l := b :: l) (by simp)
    unfold mn
    by_cases h : a ≤ mn (b :: l)
    · rw [Nat.min_eq_left h]; exact List.mem_cons_self ..
    · rw [Nat.min_eq_right (by omega)]; exact List.mem_cons_of_mem _ ih
theorem mn_le : ∀ {l : List Nat} {x : Nat}, x ∈ l → mn l ≤ x
  | [a], x, h => by
    rw [List.mem_singleton.mp h]
    exact Nat.le_refl _
  | a :: b :: l, x, h => by
    unfold mn
    rcases List.mem_cons.mp h with e | h
    · rw [e]; exact Nat.min_le_left _ _
    · exact Nat.le_trans (Nat.min_le_right _ _) (mn_le h)
theorem uniq : ∀ {bs : List Bk} {b c : Bk} {x : Nat}, (bs.flatMap (·.2)).Nodup → b ∈ bs → c ∈ bs → x ∈ b.2 → x ∈ c.2 → b = c
  | a :: bs, b, c, x, nd, hb, hc, xb, xc => by
    rw [List.flatMap_cons, List.nodup_append] at nd
    rcases List.mem_cons.mp hb with e1 | hb
    · rcases List.mem_cons.mp hc with e2 | hc
      · rw [e1, e2]
      · exact absurd rfl (nd.2.2 x (e1 ▸ xb) x (List.mem_flatMap.mpr ⟨c, hc, xc⟩))
    · rcases List.mem_cons.mp hc with e2 | hc
      · exact absurd rfl (nd.2.2 x (e2 ▸ xc) x (List.mem_flatMap.mpr ⟨b, hb, xb⟩))
      · exact uniq nd.2.1 hb hc xb xc
theorem nd_of : ∀ {bs : List Bk} {b : Bk}, (bs.flatMap (·.2)).Nodup → b ∈ bs → b.2.Nodup
  | a :: bs, b, nd, hb => by
    rw [List.flatMap_cons, List.nodup_append] at nd
    rcases List.mem_cons.mp hb with e1 | hb
    · rw [e1]; exact nd.1
    · exact nd_of nd.2.1 hb
def beta (bs : List Bk) (x : Nat) : Nat := match bs.find? (fun b => b.2.contains x) with
  | some b => mn b.2
  | none => x
section
variable {ys : List Nat} {bs : List Bk}
theorem Built.nd (B : Built ys bs) : (bs.flatMap (·.2)).Nodup := B.perm.nodup_iff.mpr List.nodup_range
theorem Built.lt (B : Built ys bs) {b : Bk} (hb : b ∈ bs) {x : Nat} (hx : x ∈ b.2) : x < ys.length :=
  List.mem_range.mp (B.perm.mem_iff.mp (List.mem_flatMap.mpr ⟨b, hb, hx⟩))
theorem Built.of (B : Built ys bs) {x : Nat} (hx : x < ys.length) : ∃ b ∈ bs, x ∈ b.2 := by
  obtain ⟨b, hb, h⟩ := List.mem_flatMap.mp (B.perm.mem_iff.mpr (List.mem_range.mpr hx))
  exact ⟨b, hb, h⟩
theorem Built.beta_of (B : Built ys bs) {b : Bk} (hb : b ∈ bs) {x : Nat} (hx : x ∈ b.2) : beta bs x = mn b.2 := by
  unfold beta
  cases h : bs.find? (fun b => b.2.contains x) with
  | none =>
    have := List.find?_eq_none.mp h b hb
    simp [hx] at this
  | some c =>
    have h1 := List.mem_of_find?_eq_some h
    have h2 := List.find?_some h
    have h3 : x ∈ c.2 := by simpa using h2
    rw [uniq B.nd hb h1 hx h3]
theorem Built.ne (B : Built ys bs) {b : Bk} (hb : b ∈ bs) : b.2 ≠ [] := fun z => by
  have h := (B.blk b hb).len
  have := form_len b.1
  rw [z] at h
  simp at h
  omega
theorem Built.mn_beta (B : Built ys bs) {b : Bk} (hb : b ∈ bs) : beta bs (mn b.2) = mn b.2 := B.beta_of hb (mn_mem (B.ne hb))
theorem Built.beta_le (B : Built ys bs) {x : Nat} (hx : x < ys.length) : beta bs x ≤ x := by
  obtain ⟨b, hb, h⟩ := B.of hx
  rw [B.beta_of hb h]
  exact mn_le h
theorem getD_mem {l : List Nat} {k : Nat} (h : k < l.length) : l.getD k 0 ∈ l := by
  rw [List.getD_eq_getElem?_getD, List.getElem?_eq_getElem h]
  exact List.getElem_mem h
theorem mem_getD {l : List Nat} {x : Nat} (h : x ∈ l) : ∃ k, k < l.length ∧ l.getD k 0 = x := by
  obtain ⟨k, hk, e⟩ := List.getElem_of_mem h
  exact ⟨k, hk, by rw [List.getD_eq_getElem?_getD, List.getElem?_eq_getElem hk]; exact e⟩
/-- what a record shows is of its block -/
theorem Built.shown (B : Built ys bs) {b : Bk} (hb : b ∈ bs) {x : Nat} (hx : x ∈ b.2) : ys.getD x 0 ∈ b.2 := by
  obtain ⟨k, hk, rfl⟩ := mem_getD hx
  have Q := B.blk b hb
  rw [Q.sh k hk]
  exact getD_mem (by rw [Q.len]; exact form_lt _ _ (by rw [← Q.len]; exact hk))
theorem Built.edge (B : Built ys bs) {x : Nat} (hx : x < ys.length) : ys.getD x 0 < ys.length ∧ beta bs (ys.getD x 0) = beta bs x := by
  obtain ⟨b, hb, h⟩ := B.of hx
  have h2 := B.shown hb h
  exact ⟨B.lt hb h2, by rw [B.beta_of hb h, B.beta_of hb h2]⟩
end
/-! ### the labels -/
def stepL (L : List Nat) (r nm : Nat) : List Nat := if min (L.getD r 0) (L.getD nm 0) = max (L.getD r 0) (L.getD nm 0) then L else L.map fun o => if o = max (L.getD r 0) (L.getD nm 0) then min (L.getD r 0) (L.getD nm 0) else o
def lab (ys : List Nat) : Nat → List Nat
  | 0 => List.range ys.length
  | i + 1 => stepL (lab ys i) i (ys.getD i 0)
structure Lab (ys : List Nat) (bs : List Bk) (i : Nat) (L : List Nat) : Prop where
  len : L.length = ys.length
  le : ∀ x, x < ys.length → L.getD x 0 ≤ x
  fx : ∀ x, x < ys.length → L.getD (L.getD x 0) 0 = L.getD x 0
  bl : ∀ x, x < ys.length → beta bs (L.getD x 0) = beta bs x
  ed : ∀ r, r < i → r < ys.length → L.getD r 0 = L.getD (ys.getD r 0) 0
theorem getD_map {L : List Nat} {f : Nat → Nat} {x : Nat} (h : x < L.length) : (L.map f).getD x 0 = f (L.getD x 0) := by
  rw [List.getD_eq_getElem?_getD, List.getElem?_map, List.getD_eq_getElem?_getD, List.getElem?_eq_getElem h]
  rfl
theorem getD_range {n x : Nat} (h : x < n) : (List.range n).getD x 0 = x := by
  rw [List.getD_eq_getElem?_getD, List.getElem?_range h]
  rfl
theorem lab_ok {ys : List Nat} {bs : List Bk} (B : Built ys bs) : ∀ i, i ≤ ys.length → Lab ys bs i (lab ys i)
  | 0, _ => ⟨List.length_range, fun x hx => by show (List.range _).getD x 0 ≤ x; rw [getD_range hx]; exact Nat.le_refl _,
      fun x hx => by show (List.range _).getD ((List.range _).getD x 0) 0 = (List.range _).getD x 0; rw [getD_range hx, getD_range hx],
      fun x hx => by show beta bs ((List.range _).getD x 0) = _; rw [getD_range hx], fun r h => absurd h (Nat.not_lt_zero _)⟩
  | i + 1, hi => by
    have ih := lab_ok B i (by omega)
    have hin : i < ys.length := by omega
    obtain ⟨hnm, hbe⟩ := B.edge hin
    show Lab ys bs (i + 1) (stepL (lab ys i) i (ys.getD i 0))
    generalize lab ys i = L at ih
    generalize hnmE : ys.getD i 0 = nm at hnm hbe
    unfold stepL
    have a1 := ih.fx i hin
    have b1 := ih.fx nm hnm
    have a2 := ih.le i hin
    have b2 := ih.le nm hnm
    have a3 := ih.bl i hin
    have b3 := ih.bl nm hnm
    generalize ha : L.getD i 0 = a at *
    generalize hb : L.getD nm 0 = b at *
    by_cases heq : min a b = max a b
    · rw [if_pos heq]
      refine ⟨ih.len, ih.le, ih.fx, ih.bl, fun r hr hrn => ?_⟩
      by_cases h : r = i
      · rw [h, ha, hnmE, hb]
        omega
      · exact ih.ed r (by omega) hrn
    · rw [if_neg heq]
      have hlow : L.getD (min a b) 0 = min a b := by
        by_cases h : a ≤ b
        · rw [Nat.min_eq_left h]; exact a1
        · rw [Nat.min_eq_right (by omega)]; exact b1
      have hbl : beta bs (min a b) = beta bs (max a b) := by
        by_cases h : a ≤ b
        · rw [Nat.min_eq_left h, Nat.max_eq_right h, a3, b3, hbe]
        · rw [Nat.min_eq_right (by omega), Nat.max_eq_left (by omega), a3, b3, hbe]
      have at_ : ∀ x, x < ys.length → (L.map fun o => if o = max a b then min a b else o).getD x 0 = if L.getD x 0 = max a b then min a b else L.getD x 0 := fun x hx => getD_map (by rw [ih.len]; exact hx)
      have hminlt : min a b < ys.length := by omega
      refine ⟨by rw [List.length_map]; exact ih.len, fun x hx => ?_, fun x hx => ?_, fun x hx => ?_, fun r hr hrn => ?_⟩
      · rw [at_ x hx]
        have := ih.le x hx
        split <;> omega
      · rw [at_ x hx]
        by_cases h : L.getD x 0 = max a b
        · rw [if_pos h, at_ _ hminlt, hlow, if_neg heq]
        · rw [if_neg h]
          have hl := ih.le x hx
          rw [at_ _ (by omega), ih.fx x hx, if_neg h]
      · rw [at_ x hx]
        by_cases h : L.getD x 0 = max a b
        · rw [if_pos h, hbl, ← h]; exact ih.bl x hx
        · rw [if_neg h]; exact ih.bl x hx
      · rw [at_ r hrn, at_ _ (B.edge hrn).1]
        by_cases h : r = i
        · rw [h, ha, hnmE, hb]
          by_cases hab : a ≤ b
          · rw [Nat.min_eq_left hab, Nat.max_eq_right hab]
            by_cases hq : a = b <;> simp [hq]
          · rw [Nat.min_eq_right (by omega), Nat.max_eq_left (by omega)]
            by_cases hq : b = a <;> simp [hq]
        · rw [ih.ed r (by omega) hrn]
theorem conn {w : Nat} {ms : List Nat} {f : Nat → Nat} (hl : ms.length = (form w).length) (h : ∀ k, k < ms.length → f (ms.getD k 0) = f (ms.getD ((form w).getD k 0) 0)) : ∀ k, k < ms.length → f (ms.getD k 0) = f (ms.getD 0 0) := by
  unfold form at hl h
  split at hl
  all_goals (simp only [List.length_cons, List.length_nil] at hl; intro k hk)
  all_goals (have h0 := h 0 (by omega); try have h1 := h 1 (by omega))
  all_goals (try have h2 := h 2 (by omega))
  all_goals (try have h3 := h 3 (by omega))
  all_goals (rcases k with _ | _ | _ | _ | k)
  all_goals first | omega | rfl | (simp at h0 h1 h2 h3 ⊢; omega) | (simp at h0 h1 h2 ⊢; omega) | (simp at h0 h1 ⊢; omega) | (simp at h0 ⊢; omega)
end Pm

namespace Pm
inductive Cs (g : Nat → Nat) : Nat → List Nat → Prop
  | free (a) : g a = a → Cs g 0 [a]
  | pair (a b) : g a = b → g b = a → Cs g 1 [a, b]
  | claim (a b) : g a = b → g b = b → Cs g 2 [a, b]
  | hook (c a b) : g c = a → g a = b → g b = a → Cs g 3 [c, a, b]
  | relay (c a b) : g c = a → g a = b → g b = b → Cs g 4 [c, a, b]
  | clamp (d a b c) : g d = a → g a = b → g b = a → g c = b → Cs g 5 [d, a, b, c]
  | trail (d c a b) : g d = c → g c = a → g a = b → g b = a → Cs g 6 [d, c, a, b]
  | wheel (a b c d) : g a = b → g b = c → g c = d → g d = a → Cs g 7 [a, b, c, d]
theorem Blk.cs {ys : List Nat} {b : Bk} (Q : Blk ys b) : Cs (fun x => ys.getD x 0) b.1 b.2 := by
  obtain ⟨w, ms⟩ := b
  obtain ⟨hw, hl, h⟩ := Q
  dsimp only at hw hl h
  match w, hw with
  | 0, _ => match ms, hl with | [a], _ => exact .free a (by simpa [form] using h 0 (by simp))
  | 1, _ => match ms, hl with | [a, b], _ => exact .pair a b (by simpa [form] using h 0 (by simp)) (by simpa [form] using h 1 (by simp))
  | 2, _ => match ms, hl with | [a, b], _ => exact .claim a b (by simpa [form] using h 0 (by simp)) (by simpa [form] using h 1 (by simp))
  | 3, _ => match ms, hl with | [a, b, c], _ => exact .hook a b c (by simpa [form] using h 0 (by simp)) (by simpa [form] using h 1 (by simp)) (by simpa [form] using h 2 (by simp))
  | 4, _ => match ms, hl with | [a, b, c], _ => exact .relay a b c (by simpa [form] using h 0 (by simp)) (by simpa [form] using h 1 (by simp)) (by simpa [form] using h 2 (by simp))
  | 5, _ => match ms, hl with | [a, b, c, d], _ => exact .clamp a b c d (by simpa [form] using h 0 (by simp)) (by simpa [form] using h 1 (by simp)) (by simpa [form] using h 2 (by simp)) (by simpa [form] using h 3 (by simp))
  | 6, _ => match ms, hl with | [a, b, c, d], _ => exact .trail a b c d (by simpa [form] using h 0 (by simp)) (by simpa [form] using h 1 (by simp)) (by simpa [form] using h 2 (by simp)) (by simpa [form] using h 3 (by simp))
  | 7, _ => match ms, hl with | [a, b, c, d], _ => exact .wheel a b c d (by simpa [form] using h 0 (by simp)) (by simpa [form] using h 1 (by simp)) (by simpa [form] using h 2 (by simp)) (by simpa [form] using h 3 (by simp))
structure Canon (b : Bk) : Prop where
  pair : b.1 = 1 → b.2.getD 0 0 < b.2.getD 1 0
  clamp : b.1 = 5 → b.2.getD 0 0 < b.2.getD 3 0
  wheel : b.1 = 7 → b.2.getD 0 0 = mn b.2
section
variable {ys : List Nat} {bs : List Bk}
theorem lab_end (B : Built ys bs) {x : Nat} (hx : x < ys.length) : (lab ys ys.length).getD x 0 = beta bs x := by
  have Q := lab_ok B ys.length (Nat.le_refl _)
  generalize lab ys ys.length = L at Q ⊢
  obtain ⟨b, hb, hxb⟩ := B.of hx
  have P := B.blk b hb
  have cn := conn (f := fun x => L.getD x 0) P.len fun k hk => by
    show L.getD (b.2.getD k 0) 0 = _
    have hm := B.lt hb (getD_mem hk)
    rw [Q.ed _ hm hm, P.sh k hk]
  have h0 : 0 < b.2.length := List.length_pos_iff.mpr (B.ne hb)
  have same : ∀ y, y ∈ b.2 → L.getD y 0 = L.getD (b.2.getD 0 0) 0 := fun y hy => by
    obtain ⟨k, hk, rfl⟩ := mem_getD hy
    exact cn k hk
  have hmn := mn_mem (B.ne hb)
  have e1 : L.getD x 0 = L.getD (mn b.2) 0 := by rw [same x hxb, same _ hmn]
  have h1 := Q.le (mn b.2) (B.lt hb hmn)
  have h2 := Q.bl x hx
  have h3 := Q.le x hx
  have h4 := B.beta_le (x := L.getD x 0) (by omega)
  have h5 := B.beta_of hb hxb
  omega
def grp (bs : List Bk) (n m : Nat) : List Nat := (List.range n).filter fun x => decide (beta bs x = m)
def roots (bs : List Bk) (n : Nat) : List Nat := (List.range n).filter fun x => decide (beta bs x = x)
theorem nodup_filter {l : List Nat} (p : Nat → Bool) (h : l.Nodup) : (l.filter p).Nodup := h.sublist List.filter_sublist
theorem grp_nd {n m : Nat} : (grp bs n m).Nodup := nodup_filter _ List.nodup_range
theorem grp_lt {n m : Nat} : (grp bs n m).Pairwise (· < ·) := List.Pairwise.filter _ List.pairwise_lt_range
theorem Built.mem_grp (B : Built ys bs) {b : Bk} (hb : b ∈ bs) {x : Nat} : x ∈ grp bs ys.length (mn b.2) ↔ x ∈ b.2 := by
  unfold grp
  rw [List.mem_filter, List.mem_range, decide_eq_true_eq]
  constructor
  · rintro ⟨h1, h2⟩
    obtain ⟨c, hc, hx⟩ := B.of h1
    rw [B.beta_of hc hx] at h2
    have e := uniq B.nd hc hb (x := mn b.2) (by rw [← h2]; exact mn_mem (B.ne hc)) (mn_mem (B.ne hb))
    exact e ▸ hx
  · exact fun h => ⟨B.lt hb h, B.beta_of hb h⟩
theorem Built.grp_perm (B : Built ys bs) {b : Bk} (hb : b ∈ bs) : (grp bs ys.length (mn b.2)).Perm b.2 :=
  (List.perm_ext_iff_of_nodup grp_nd (nd_of B.nd hb)).mpr fun x => B.mem_grp hb
theorem Built.roots_eq (B : Built ys bs) (hs : bs.Pairwise fun a b => mn a.2 < mn b.2) : roots bs ys.length = bs.map fun b => mn b.2 := by
  have s1 : (roots bs ys.length).Pairwise (· < ·) := List.Pairwise.filter _ List.pairwise_lt_range
  have s2 : (bs.map fun b => mn b.2).Pairwise (· < ·) := List.pairwise_map.mpr hs
  refine List.Perm.eq_of_pairwise (le := (· < ·)) (fun a b _ _ h1 h2 => by omega) s1 s2 ?_
  refine (List.perm_ext_iff_of_nodup (s1.imp fun h => by omega) (s2.imp fun h => by omega)).mpr fun x => ?_
  unfold roots
  rw [List.mem_filter, List.mem_range, decide_eq_true_eq, List.mem_map]
  constructor
  · rintro ⟨h1, h2⟩
    obtain ⟨b, hb, hx⟩ := B.of h1
    exact ⟨b, hb, by rw [← h2, B.beta_of hb hx]⟩
  · rintro ⟨b, hb, rfl⟩
    exact ⟨B.lt hb (mn_mem (B.ne hb)), B.mn_beta hb⟩
/-! ### one group's row -/
def path (b : Bk) : List Nat := if b.1 = 5 then b.2.take 3 else b.2
theorem filter_one {l : List Nat} {q : Nat → Bool} {x : Nat} (nd : l.Nodup) (hx : x ∈ l) (h1 : q x = true) (h2 : ∀ y ∈ l, q y = true → y = x) : l.filter q = [x] := by
  have nd2 := nodup_filter q nd
  have m : ∀ y, y ∈ l.filter q ↔ y = x := fun y => by
    rw [List.mem_filter]
    exact ⟨fun h => h2 y h.1 h.2, fun h => by rw [h]; exact ⟨hx, h1⟩⟩
  match hl : l.filter q with
  | [] => exact absurd ((m x).mpr rfl) (by rw [hl]; simp)
  | [a] => rw [(m a).mp (by rw [hl]; simp)]
  | a :: b :: r =>
    rw [hl] at nd2 m
    have ea := (m a).mp (by simp)
    have eb := (m b).mp (by simp)
    simp [ea, eb] at nd2
theorem mn_sing {a : Nat} : mn [a] = a := rfl
/-- the walk of a form -/
structure Walks (g : Nat → Nat) (p : List Nat) : Prop where
  pos : 0 < p.length
  nd : p.Nodup
  next : ∀ j, j + 1 < p.length → g (p.getD j 0) = p.getD (j + 1) 0
  back : g (p.getD (p.length - 1) 0) ∈ p
theorem Built.walks (B : Built ys bs) {b : Bk} (hb : b ∈ bs) : Walks (fun x => ys.getD x 0) (path b) := by
  have nd := nd_of B.nd hb
  have C := (B.blk b hb).cs
  obtain ⟨w, ms⟩ := b
  dsimp only at C nd
  unfold path
  dsimp only
  generalize (fun x => ys.getD x 0) = g at C
  cases C
  all_goals (simp at nd ⊢)
  all_goals (refine ⟨by simp, by simp; try simp [nd], fun j hj => ?_, by simp [*]⟩)
  all_goals (rcases j with _ | _ | _ | _ | j)
  all_goals first | (simp at hj; done) | (simp [*]; done) | (simp at hj ⊢; omega) | skip
theorem Built.left (B : Built ys bs) {b : Bk} (hb : b ∈ bs) : path b ++ (grp bs ys.length (mn b.2)).filter (fun x => !(path b).contains x) = b.2 := by
  have nd := nd_of B.nd hb
  have C := (B.blk b hb).cs
  have M : ∀ x, x ∈ grp bs ys.length (mn b.2) ↔ x ∈ b.2 := fun x => B.mem_grp hb
  have N : (grp bs ys.length (mn b.2)).Nodup := grp_nd
  generalize grp bs ys.length (mn b.2) = l at M N
  by_cases h5 : b.1 = 5
  · obtain ⟨w, ms⟩ := b
    dsimp only at h5 C nd M ⊢
    subst h5
    cases C
    rename_i d a b c h1 h2 h3 h4
    unfold path
    simp at nd ⊢
    rw [filter_one (x := c) N (by rw [M]; simp) (by simp; omega) fun y hy hq => ?_]
    rw [M] at hy
    simp at hy hq
    omega
  · unfold path
    rw [if_neg h5]
    have e : l.filter (fun x => !b.2.contains x) = [] := by
      rw [List.filter_eq_nil_iff]
      intro x hx
      have := (M x).mp hx
      simp [this]
    rw [e, List.append_nil]
/-- where the walk starts: at the first record that no other of the group shows, or at the first one -/
theorem Built.start (B : Built ys bs) {b : Bk} (hb : b ∈ bs) (K : Canon b) (T : List Nat)
    (hT : T = (grp bs ys.length (mn b.2)).filter (fun x => !((grp bs ys.length (mn b.2)).map fun y => ys.getD y 0).contains x)) :
    (T = [] → (grp bs ys.length (mn b.2)).head? = some (b.2.getD 0 0)) ∧ (T ≠ [] → T.head? = some (b.2.getD 0 0)) := by
  have nd := nd_of B.nd hb
  have C := (B.blk b hb).cs
  have M : ∀ x, x ∈ grp bs ys.length (mn b.2) ↔ x ∈ b.2 := fun x => B.mem_grp hb
  have sh : ∀ x, ((grp bs ys.length (mn b.2)).map fun y => ys.getD y 0).contains x = (b.2.map fun y => ys.getD y 0).contains x := fun x => by
    rw [Bool.eq_iff_iff, List.contains_iff_mem, List.contains_iff_mem, List.mem_map, List.mem_map]
    exact ⟨fun ⟨y, hy, e⟩ => ⟨y, (M y).mp hy, e⟩, fun ⟨y, hy, e⟩ => ⟨y, (M y).mpr hy, e⟩⟩
  have hT2 : T = (List.range ys.length).filter fun x => decide (beta bs x = mn b.2) && !(b.2.map fun y => ys.getD y 0).contains x := by
    rw [hT]
    unfold grp
    rw [List.filter_filter]
    refine List.filter_congr fun x hx => ?_
    have := sh x
    unfold grp at this
    rw [this, Bool.and_comm]
  have inB : ∀ x, x < ys.length → (decide (beta bs x = mn b.2) = true ↔ x ∈ b.2) := fun x hx => by
    rw [← M x]
    unfold grp
    rw [List.mem_filter, List.mem_range]
    exact ⟨fun h => ⟨hx, h⟩, fun h => h.2⟩
  have root : b.2.getD 0 0 = mn b.2 → (grp bs ys.length (mn b.2)).head? = some (b.2.getD 0 0) := fun e => by
    unfold grp
    rw [List.head?_filter, List.find?_range_eq_some, e]
    refine ⟨by rw [decide_eq_true_eq]; exact B.mn_beta hb, List.mem_range.mpr (B.lt hb (mn_mem (B.ne hb))), fun j hj => ?_⟩
    have hjn : j < ys.length := Nat.lt_trans hj (B.lt hb (mn_mem (B.ne hb)))
    have := B.beta_le hjn
    simp
    omega
  have tail : ∀ m0 : Nat, m0 ∈ b.2 → (b.2.map fun y => ys.getD y 0).contains m0 = false → (∀ j, j < m0 → j ∈ b.2 → (b.2.map fun y => ys.getD y 0).contains j = true) → T.head? = some m0 := fun m0 h1 h2 h3 => by
    rw [hT2, List.head?_filter, List.find?_range_eq_some]
    refine ⟨by rw [h2, (inB m0 (B.lt hb h1)).mpr h1]; rfl, List.mem_range.mpr (B.lt hb h1), fun j hj => ?_⟩
    have hjn : j < ys.length := Nat.lt_trans hj (B.lt hb h1)
    by_cases hjb : j ∈ b.2
    · rw [h3 j hj hjb]
      simp
    · have : decide (beta bs j = mn b.2) = false := by
        cases h : decide (beta bs j = mn b.2) with
        | false => rfl
        | true => exact absurd ((inB j hjn).mp h) hjb
      rw [this]
      rfl
  have none : (∀ x ∈ b.2, (b.2.map fun y => ys.getD y 0).contains x = true) → T = [] := fun h => by
    rw [hT2, List.filter_eq_nil_iff]
    intro x hx
    have hxn := List.mem_range.mp hx
    by_cases hxb : x ∈ b.2
    · rw [h x hxb]
      simp
    · intro z
      rw [Bool.and_eq_true] at z
      exact hxb ((inB x hxn).mp z.1)
  obtain ⟨w, ms⟩ := b
  dsimp only at *
  generalize hg : (fun y => ys.getD y 0) = g at C tail none
  clear hT hT2 sh
  cases C with
  | free a h1 =>
    have t := none (by simp [h1])
    exact ⟨fun _ => root rfl, fun h => absurd t h⟩
  | pair a b h1 h2 =>
    have t := none (by simp [h1, h2])
    have := K.pair rfl
    simp at this
    exact ⟨fun _ => root (by simp [mn]; omega), fun h => absurd t h⟩
  | wheel a b c d h1 h2 h3 h4 =>
    have t := none (by simp [h1, h2, h3, h4])
    exact ⟨fun _ => root (K.wheel rfl), fun h => absurd t h⟩
  | claim a b h1 h2 =>
    simp at nd
    have t := tail a (by simp) (by simp [h1, h2]; omega) (fun j hj hm => by simp at hm; simp [h1, h2]; omega)
    exact ⟨fun h => (by rw [h] at t; simp at t), fun _ => t⟩
  | hook c a b h1 h2 h3 =>
    simp at nd
    have t := tail c (by simp) (by simp [h1, h2, h3]; omega) (fun j hj hm => by simp at hm; simp [h1, h2, h3]; omega)
    exact ⟨fun h => (by rw [h] at t; simp at t), fun _ => t⟩
  | relay c a b h1 h2 h3 =>
    simp at nd
    have t := tail c (by simp) (by simp [h1, h2, h3]; omega) (fun j hj hm => by simp at hm; simp [h1, h2, h3]; omega)
    exact ⟨fun h => (by rw [h] at t; simp at t), fun _ => t⟩
  | clamp d a b c h1 h2 h3 h4 =>
    simp at nd
    have kk := K.clamp rfl
    simp at kk
    have t := tail d (by simp) (by simp [h1, h2, h3, h4]; omega) (fun j hj hm => by simp at hm; simp [h1, h2, h3, h4]; omega)
    exact ⟨fun h => (by rw [h] at t; simp at t), fun _ => t⟩
  | trail d c a b h1 h2 h3 h4 =>
    simp at nd
    have t := tail d (by simp) (by simp [h1, h2, h3, h4]; omega) (fun j hj hm => by simp at hm; simp [h1, h2, h3, h4]; omega)
    exact ⟨fun h => (by rw [h] at t; simp at t), fun _ => t⟩
end
end Pm

namespace L2
open PySem PySem.Spec PyProof.Rows
/-! ### a table of the text keyed by tuples of ints -/
def numK (ks : List Nat) : NestedKey := .tup (ks.map fun k : Nat => NestedKey.num (k : Int))
/-- at a, in the written part: a table of the given keys and texts -/
def TabK (P : Program) (w : World) (K : PySem.W.Frag) (a : Addr) (kvs : List (List Nat × Str)) : Prop := (a == sysModules) = false ∧
  ∃ ts : List Tok, ∀ h : Heap, K.In h → h.DictKeyed (nestedKind P w) a ((kvs.zip ts).map fun x => (numK x.1.1, Value.str x.1.2 x.2)) ∧ ts.length = kvs.length
theorem numK_depth : ∀ ks : List Nat, (numK ks).depth ≤ 8 := fun ks => by
  have h : ∀ l : List Nat, NestedKey.depthAll (l.map fun k : Nat => NestedKey.num (k : Int)) ≤ 1 := fun l => by
    induction l with
    | nil => simp [NestedKey.depthAll]
    | cons a l ih =>
      simp only [List.map_cons, NestedKey.depthAll, NestedKey.depth]
      omega
  have := h ks
  unfold numK
  simp only [NestedKey.depth]
  omega
theorem numAll_of {h : Heap} : ∀ {ks : List Nat} {us : List Value}, Vals (ks.map fun k : Nat => V.int (k : Int)) us → NestedAll h (ks.map fun k : Nat => NestedKey.num (k : Int)) us
  | [], _, r => by cases r; exact .nil
  | k :: ks, _, r => by
    cases r with
    | cons r1 r2 =>
      obtain ⟨t, e⟩ := r1
      rw [e]
      exact .cons (.int _ t) (numAll_of r2)
/-- d.get(t) of such a table, the key there -/
def tTabGet (P : Program) (w : World) (K : PySem.W.Frag) (td te : TE) : TE := fun σ H Q => td σ H fun x H1 => ∃ (a : Addr) (kvs : List (List Nat × Str)), x = .ref a ∧ TabK P w K a kvs ∧ te σ H1 fun y H2 => ∃ (p : Addr) (ks : List Nat) (z : Str), y = .ref p ∧ H2 p = some (.tup (ks.map fun k : Nat => V.int (k : Int))) ∧
  (∃ i, kvs[i]? = some (ks, z) ∧ ∀ (j : Nat) (q : List Nat × Str), j < i → kvs[j]? = some q → q.1 ≠ ks) ∧ Q (.str z) H2
theorem numK_inj {a b : List Nat} (h : numK a = numK b) : a = b := by
  unfold numK at h
  injection h with h
  have g : ∀ {l m : List Nat}, (l.map fun k : Nat => NestedKey.num (k : Int)) = (m.map fun k : Nat => NestedKey.num (k : Int)) → l = m := by
    intro l
    induction l with
    | nil =>
      intro m e
      cases m with
      | nil => rfl
      | cons _ _ => cases e
    | cons a l ih =>
      intro m e
      cases m with
      | nil => cases e
      | cons b m =>
        rw [List.map_cons, List.map_cons] at e
        injection e with e1 e2
        injection e1 with e1
        have : a = b := by omega
        rw [this, ih e2]
  exact g h
theorem tab_find {ks : List Nat} {z : Str} : ∀ {kvs : List (List Nat × Str)} {ts : List Tok} {i : Nat}, ts.length = kvs.length → kvs[i]? = some (ks, z) → (∀ (j : Nat) (q : List Nat × Str), j < i → kvs[j]? = some q → q.1 ≠ ks) →
    ∃ t : Tok, valueAt ((kvs.zip ts).map fun x => (numK x.1.1, Value.str x.1.2 x.2)) (numK ks) = some (Value.str z t)
  | [], _, i, _, h, _ => by simp at h
  | _ :: _, [], _, hl, _, _ => by simp at hl
  | (k0, z0) :: kvs, t0 :: ts, 0, _, h, _ => by
    have e := Option.some.inj h
    cases e
    exact ⟨t0, by simp [valueAt]⟩
  | (k0, z0) :: kvs, t0 :: ts, i + 1, hl, h, hn => by
    have ne : k0 ≠ ks := hn 0 (k0, z0) (Nat.succ_pos _) rfl
    have ne2 : ¬ numK k0 = numK ks := fun e => ne (numK_inj e)
    obtain ⟨t, e⟩ := tab_find (ks := ks) (z := z) (kvs := kvs) (ts := ts) (i := i) (by simpa using hl) (by simpa using h) fun j q hj hq => hn (j + 1) q (by omega) (by simpa using hq)
    refine ⟨t, ?_⟩
    unfold valueAt at e ⊢
    rw [List.zip_cons_cons, List.map_cons, List.find?_cons_of_neg (by simpa using ne2)]
    exact e
theorem pe_tabGet {X : Cx} {o e : Expr} {td te : TE} {apos cpos : Pos} (hu : X.A.units + 64 < cLine) (ho : PE X o td) (he : PE X e te) (m : M1 X o "get" apos e cpos) : PE X (.Call (.Attribute o "get" apos) [e] [] cpos) (tTabGet X.prog X.w X.K td te) := by
  refine ⟨fun pins s σ H Q I h => ?_⟩
  refine wpAny_Call_method m.base m.few m.line PySem.F.plainAttrs_dict PySem.F.slot_dict_get PySem.F.type_dict_get (thn (ho.run pins s σ H _ I h) fun u s1 ⟨x, H1, I1, rx, a, kvs, ex, ⟨hsm, ts, hT⟩, q1⟩ => ?_)
  subst ex
  obtain rfl : u = Value.ref a := rx
  obtain ⟨hD, _⟩ := hT _ I1.kIn
  have hD' := hD
  obtain ⟨xs, ⟨ob, es, ep, hob, hcl, hdat, _⟩, _⟩ := hD'
  refine ⟨hD.typeIs, fun b q => by cases q; exact ⟨ob, hob, hcl.2.1⟩, ?_⟩
  rw [m.trees]
  refine Calls.callWith_builtin rfl (Calls.evalArgs_plain (Calls.spliced_cons (thn (he.run pins s1 σ H1 _ I1 q1) fun iv s2 ⟨y, H2, I2, ry, p, ks, z, ey, hp, ⟨i, hi, hlt⟩, q2⟩ => Calls.spliced_nil ?_)))
  subst ey
  obtain rfl : iv = Value.ref p := ry
  obtain ⟨_, its, rv, ot, h1, h2, n, h3⟩ := (show ObjOk X.prog X.w H2 s2.heap p (.tup (ks.map fun k : Nat => V.int (k : Int))) from I2.hok p _ hp)
  obtain ⟨hD2, hlen⟩ := hT _ I2.kIn
  obtain ⟨t, ht⟩ := tab_find hlen hi hlt
  have hk : (nestedKind X.prog X.w).is s2.heap (numK ks) p := ⟨.tup h1 h2 h3 (by simpa using numAll_of (h := s2.heap) rv), numK_depth ks⟩
  refine get_keyed (knd := nestedKind X.prog X.w) (show X.A.in1.units + 8 < cLine by show X.A.units + 1 + 8 < cLine; omega) hk hsm hD2 ?_
  rw [ht]
  exact ⟨.str z, H2, I2.tok _, ⟨t, rfl⟩, q2⟩
/-! ### list(d.values()), list(d.keys()) -/
def tListVals (te : TE) : TE := fun σ H Q => te σ H fun x H1 => ∃ (d : Addr) (kvs : List (Key × V)), x = .ref d ∧ H1 d = some (.dK kvs) ∧ ∀ p, H1 p = none → Q (.ref p) (upd H1 p (.lst (kvs.map (·.2))))
def tListKeys (te : TE) : TE := fun σ H Q => te σ H fun x H1 => ∃ (d : Addr) (kvs : List (Key × V)), x = .ref d ∧ H1 d = some (.dK kvs) ∧ ∀ p, H1 p = none → Q (.ref p) (upd H1 p (.lst (kvs.map fun kv => kV kv.1)))
theorem vals_items {P : Nat → Value → Prop} : ∀ {xs : List V} {us : List Value} (k : Nat), us.length = xs.length → (∀ j v, us[j]? = some v → P (k + j) v) → (∀ j x v, xs[j]? = some x → P (k + j) v → RelV x v) → Vals xs us
  | [], [], _, _, _, _ => .nil
  | [], _ :: _, _, h, _, _ => by simp at h
  | _ :: _, [], _, h, _, _ => by simp at h
  | x :: xs, u :: us, k, h, h1, h2 => .cons (h2 0 x u rfl (h1 0 u rfl)) (vals_items (P := P) (k + 1) (by simpa using h) (fun j v e => by
      have := h1 (j + 1) v (by simpa using e)
      rw [show k + (j + 1) = k + 1 + j by omega] at this
      exact this) fun j y v e p => h2 (j + 1) y v (by simpa using e) (by rw [show k + (j + 1) = k + 1 + j by omega]; exact p))
section
variable {X : Cx} {e : Expr} {te : TE} {p apos cpos pos : Pos}
theorem pe_listVals (hc : X.calm = true) (he : PE X e te) (hg : Gl X "list") (hm : X.mg "list" = none) (hbase : attributeBase e "values" X.env (eval e X.env) = eval e X.env := by rfl) (hline : (apos.endLine == cpos.line) = true := by rfl)
    (hs : starEach [.Call (.Attribute e "values" apos) [] [] cpos] X.env = (false, eval (.Call (.Attribute e "values" apos) [] [] cpos) X.env) :: starEach [] X.env := by rfl) :
    PE X (.Call (.Name "list" p) [.Call (.Attribute e "values" apos) [] [] cpos] [] pos) (tListVals te) := by
  refine ⟨fun pins s σ H Q I hq => ?_⟩
  refine wpAny_Call_Name_kw (ld_blt I hg hm (by decide +kernel : bootBuiltins "list" = some (.type "list")) ?_)
  refine PyProof.Rows.callWith_type1 ?_ hs rfl
  rw [hs]
  show wpAny _ _ (spliced ((false, eval (.Call (.Attribute e "values" apos) [] [] cpos) X.env) :: backTo pos (starEach [] X.env))) _ _ s
  refine Calls.spliced_cons ?_
  refine wpAny_Call_method (T := "dict") (id := "dict.values") hbase rfl hline F.plainAttrs_dict F.slot_dict_values F.type_dict_values (thn (he.run pins s σ H _ I hq) fun u s1 ⟨x, H1, I1, rx, d, kvs, ex, hd, q⟩ => ?_)
  subst ex
  obtain rfl : u = Value.ref d := rx
  obtain ⟨hz, hs0, vs, kv, hdo⟩ := I1.hok d _ hd
  obtain ⟨ep, hat⟩ := hdo.dictAt
  have lk : kvs.length = vs.length := Paired.length kv
  refine ⟨hdo.typeIs, hdo.mapOf.noDict, ?_⟩
  show wpAny _ _ (callWith cpos (.builtin "dict.values") [.ref d] [] []) _ X.xe s1
  refine method_meetsIn F.slot_dict_values F.entry_dict_values rfl (PySem.evalArgs_none ⟨rfl, hdo.typeIs, F.args_dict_values_1 _, _, meets_dict_values (mixKind X.prog X.w) d hs0, ⟨vs, hdo⟩, ?_⟩)
  refine Calls.spliced_nil ?_
  refine PySem.W.kdl_call (PySem.W.kdl_values (knd := mixKind X.prog X.w) (kvs := vs) (ep := ep) (r := s1.heap.objs.size)) (I1.ok.hd hc) ⟨⟨_, Heap.get?_push_size _ rfl, rfl, rfl⟩, hat.push _⟩ (by omega) fun h' tk acc c hk hS hI => ?_
  have keep : ∀ b o, s1.heap.get? b = some o → h'.get? b = some o := fun b o z => hk b o (Heap.get?_push_of_some _ z)
  have hl : acc.toList.length = (kvs.map (·.2)).length := by rw [Array.length_toList, List.length_map, hI.1]; omega
  have rv : Vals (kvs.map (·.2)) acc.toList := vals_items (P := fun i v => ∃ k, vs[i]? = some (k, v)) 0 hl (fun j v z => by rw [Nat.zero_add]; exact hI.2 j v (by rw [← Array.getElem?_toList]; exact z)) fun j y v z ⟨k, w'⟩ => by
    rw [Nat.zero_add] at w'
    obtain ⟨q0, g1, g2⟩ : ∃ q0, kvs[j]? = some q0 ∧ y = q0.2 := by
      rw [List.getElem?_map] at z
      cases h : kvs[j]? with
      | none => rw [h] at z; cases z
      | some q0 => rw [h] at z; exact ⟨q0, rfl, (Option.some.inj z).symm⟩
    obtain ⟨pk, e2, e3⟩ := LiI.paired_get kv g1
    rw [w'] at e2
    cases e2
    rw [g2]
    exact e3.2
  refine ⟨.ref _, upd H1 _ (.lst (kvs.map (·.2))), I1.laid (t' := tk) keep (Nat.le_succ _ |> fun z => by rw [Heap.size_push]; exact z) ⟨by rw [List.length_map]; omega, acc.toList, c, rv, by simpa using hS⟩, rfl, q _ (I1.hok.fresh (by rw [Heap.size_push]; exact Nat.le_succ _))⟩
theorem pe_listKeys (hc : X.calm = true) (he : PE X e te) (hg : Gl X "list") (hm : X.mg "list" = none) (hbase : attributeBase e "keys" X.env (eval e X.env) = eval e X.env := by rfl) (hline : (apos.endLine == cpos.line) = true := by rfl)
    (hs : starEach [.Call (.Attribute e "keys" apos) [] [] cpos] X.env = (false, eval (.Call (.Attribute e "keys" apos) [] [] cpos) X.env) :: starEach [] X.env := by rfl) :
    PE X (.Call (.Name "list" p) [.Call (.Attribute e "keys" apos) [] [] cpos] [] pos) (tListKeys te) := by
  refine ⟨fun pins s σ H Q I hq => ?_⟩
  refine wpAny_Call_Name_kw (ld_blt I hg hm (by decide +kernel : bootBuiltins "list" = some (.type "list")) ?_)
  refine PyProof.Rows.callWith_type1 ?_ hs rfl
  rw [hs]
  show wpAny _ _ (spliced ((false, eval (.Call (.Attribute e "keys" apos) [] [] cpos) X.env) :: backTo pos (starEach [] X.env))) _ _ s
  refine Calls.spliced_cons ?_
  refine wpAny_Call_method (T := "dict") (id := "dict.keys") hbase rfl hline F.plainAttrs_dict F.slot_dict_keys F.type_dict_keys (thn (he.run pins s σ H _ I hq) fun u s1 ⟨x, H1, I1, rx, d, kvs, ex, hd, q⟩ => ?_)
  subst ex
  obtain rfl : u = Value.ref d := rx
  obtain ⟨hz, hs0, vs, kv, hdo⟩ := I1.hok d _ hd
  obtain ⟨ep, hat⟩ := hdo.dictAt
  have lk : kvs.length = vs.length := Paired.length kv
  refine ⟨hdo.typeIs, hdo.mapOf.noDict, ?_⟩
  show wpAny _ _ (callWith cpos (.builtin "dict.keys") [.ref d] [] []) _ X.xe s1
  refine method_meetsIn F.slot_dict_keys F.entry_dict_keys rfl (PySem.evalArgs_none ⟨rfl, hdo.typeIs, F.args_dict_keys_1 _, _, PySem.W.kdl_meets_keys (mixKind X.prog X.w) d hs0, ⟨vs, hdo⟩, ?_⟩)
  refine Calls.spliced_nil ?_
  refine PySem.W.kdl_call (PySem.W.kdl_keys (knd := mixKind X.prog X.w) (kvs := vs) (ep := ep) (r := s1.heap.objs.size)) (I1.ok.hd hc) ⟨⟨_, Heap.get?_push_size _ rfl, rfl, rfl⟩, hat.push _⟩ (by omega) fun h' tk acc c hk hS hI => ?_
  have keep : ∀ b o, s1.heap.get? b = some o → h'.get? b = some o := fun b o z => hk b o (Heap.get?_push_of_some _ z)
  have hl : acc.toList.length = (kvs.map fun kv => kV kv.1).length := by rw [Array.length_toList, List.length_map, hI.1]; omega
  have rv : Vals (kvs.map fun kv => kV kv.1) acc.toList := vals_items (P := fun i v => ∃ k x, vs[i]? = some (k, x) ∧ (mixKind X.prog X.w).is k v = true) 0 hl (fun j v z => by rw [Nat.zero_add]; exact hI.2 j v (by rw [← Array.getElem?_toList]; exact z)) fun j y v z ⟨k, x, w', w2⟩ => by
    rw [Nat.zero_add] at w'
    obtain ⟨q0, g1, g2⟩ : ∃ q0, kvs[j]? = some q0 ∧ y = kV q0.1 := by
      rw [List.getElem?_map] at z
      cases h : kvs[j]? with
      | none => rw [h] at z; cases z
      | some q0 => rw [h] at z; exact ⟨q0, rfl, (Option.some.inj z).symm⟩
    obtain ⟨pk, e2, e3⟩ := LiI.paired_get kv g1
    rw [w'] at e2
    cases e2
    rw [g2]
    rw [e3.1]
    exact relV_key (show keyIs k v = true from w2)
  refine ⟨.ref _, upd H1 _ (.lst (kvs.map fun kv => kV kv.1)), I1.laid (t' := tk) keep (Nat.le_succ _ |> fun z => by rw [Heap.size_push]; exact z) ⟨by rw [List.length_map]; omega, acc.toList, c, rv, by simpa using hS⟩, rfl, q _ (I1.hok.fresh (by rw [Heap.size_push]; exact Nat.le_succ _))⟩
end
end L2

namespace SrtO
open PySem PyProof.Rows PySem.W
/-- a tuple of two ints and an object -/
def IsRow (h : Heap) (v : Value) (x : Int) : Prop := ∃ a o t y u c n, v = .ref a ∧ h.get? a = some o ∧ o.cls = .type "tuple" ∧ o.data = .seq #[.int x t, .int y u, .ref c] n
theorem IsRow.keeps {h h' : Heap} {v : Value} {x : Int} (p : IsRow h v x) (k : ∀ b o, h.get? b = some o → o.cls = .type "tuple" → h'.get? b = some o) : IsRow h' v x := by
  obtain ⟨a, o, t, y, u, c, n, e, ho, hc, hd⟩ := p
  exact ⟨a, o, t, y, u, c, n, e, k _ _ ho hc, hc, hd⟩
theorem row_firsts {h : Heap} : ∀ {vs : List Value}, (∀ v ∈ vs, ∃ x, IsRow h v x) → ∃ fs : List Value, PySem.W.KatTups h vs fs ∧ fs.length = vs.length ∧ ∀ f ∈ fs, ∃ x t, f = Value.int x t
  | [], _ => ⟨[], PySem.W.KatTups.nil, rfl, fun _ hm => by simp at hm⟩
  | v :: vs, hv => by
    obtain ⟨fs, h1, h2, h3⟩ := row_firsts (h := h) (vs := vs) fun w hw => hv w (List.mem_cons_of_mem _ hw)
    obtain ⟨x, a, o, t, y, u, c, n, e, ho, hc, hd⟩ := hv v List.mem_cons_self
    subst e
    refine ⟨.int x t :: fs, .cons ho hc hd rfl h1, by simp [h2], fun f hf => ?_⟩
    rcases List.mem_cons.mp hf with e | hf
    · exact ⟨x, t, e⟩
    · exact h3 f hf
theorem swo_key (k : Value → Int) : Swo fun v u => decide (k v < k u) := by
  refine ⟨fun x y h => ?_, fun x y z h1 h2 => ?_⟩
  · have a := of_decide_eq_true h
    exact decide_eq_false (by omega)
  · have a := of_decide_eq_false h1
    have b := of_decide_eq_false h2
    exact decide_eq_false (by omega)
section
variable {prog : Program} {w : World} {A : Around} {E : Value → Shared → Prop} {s : Shared}
theorem row_cmp {vs : List Value} {k : Value → Int} (hp : ∀ v ∈ vs, IsRow s.heap v (k v)) (hi : ∀ v ∈ vs, ∀ u ∈ vs, k v = k u → v = u) : Cmp prog w A s (tuples' true) (fun p => p.1 ∈ vs) (lt2 fun v u => decide (k v < k u)) := by
  intro p q hm hm'
  have h1 := hp _ hm
  have h2 := hp _ hm'
  have h3 := hi _ hm _ hm'
  show wpAny (model prog w) A (keyLt' (tuples' true) p.1 q.1) (fun r s' => s' = s ∧ r = decide (k p.1 < k q.1)) (fun _ _ => False) s
  generalize k p.1 = x at h1 h3 ⊢
  generalize k q.1 = x' at h2 h3 ⊢
  obtain ⟨a, o, t, y, u, c, n, e, ho, hc, hd⟩ := h1
  obtain ⟨a', o', t', y', u', c', n', e', ho', hc', hd'⟩ := h2
  rw [e, e'] at h3 ⊢
  refine PySem.W.kat_lt ho hd ho' hd' ?_
  show PySem.W.KatLex prog w A true (decide (3 < 3)) _ [(.int x t, .int x' t'), (.int y u, .int y' u'), (.ref c, .ref c')] 0 s
  refine PySem.W.kat_cons (SeqAt.EqAt.int_int x t x' t' prog w _ _ ?_)
  refine PySem.W.kat_go (fun e1 => ?_) (fun e1 => ?_)
  · have ex : x = x' := by simpa using e1
    have ea : a = a' := Value.ref.inj (h3 ex)
    subst ea
    rw [ho] at ho'
    have eo := Option.some.inj ho'
    subst eo
    rw [hd] at hd'
    injection hd' with ed _
    have ey : y = y' := by
      have z := congrArg (fun a : Array Value => a[1]?) ed
      simp at z
      exact z.1
    have ec : c = c' := by
      have z := congrArg (fun a : Array Value => a[2]?) ed
      simpa using z
    subst ec
    refine PySem.W.kat_yes (PySem.W.kat_cons (SeqAt.EqAt.int_int y u y' u' prog w _ _ ?_))
    refine PySem.W.kat_go (fun e2 => ?_) (fun e2 => ?_)
    · refine PySem.W.kat_yes (PySem.W.kat_cons (SeqAt.EqAt.same (.ref c) prog w _ _ ?_))
      refine PySem.W.kat_go (fun _ => ?_) (fun z => nomatch z)
      refine PySem.W.kat_yes (PySem.W.kat_nil ⟨rfl, ?_⟩)
      rw [ex]
      exact (decide_eq_false (by omega)).symm
    · exact absurd ey (by simpa using e2)
  · have ex : ¬ x = x' := by simpa using e1
    exact PySem.W.kat_no (oneLt_int ⟨rfl, rfl⟩)
theorem rows_sortableO {a : Addr} {vs : List Value} {k : Value → Int} (h0 : 0 < vs.length) (hp : ∀ v ∈ vs, IsRow s.heap v (k v)) (hi : ∀ v ∈ vs, ∀ u ∈ vs, k v = k u → v = u) (ha : ∀ o, s.heap.get? a = some o → o.cls ≠ .type "tuple") : SortableO prog w A s a vs fun v u => decide (k v < k u) := by
  intro h' keep
  have hp' : ∀ v ∈ vs, IsRow h' v (k v) := fun v hm => (hp v hm).keeps fun b o e c => keep b o (fun z => by subst z; exact ha o e c) e
  obtain ⟨fs, h1, h2, h3⟩ := row_firsts fun v hm => ⟨_, hp' v hm⟩
  refine ⟨tuples' true, fun Q E hq => ?_, row_cmp hp' hi⟩
  refine PySem.W.kat_kind (T := .type "int") h1 (by omega) (fun f hm => ?_) (by rfl) ?_
  · obtain ⟨x, t, rfl⟩ := h3 f hm
    exact PySem.W.Looks.now
  · have e : (Value.type "int" != Value.type "tuple") = true := by first | decide +kernel | rfl | decide
    rw [e]
    exact hq
theorem sorted_rowsO {l : Addr} {vs : List Value} {k : Value → Int} {Q : Value → Shared → Prop} (hl : s.heap.IsList l vs.toArray) (hz : vs.length ≤ sizeLine) (hp : ∀ v ∈ vs, IsRow s.heap v (k v)) (hi : ∀ v ∈ vs, ∀ u ∈ vs, k v = k u → v = u)
    (h : ∀ (h' : Heap) (d : Addr) (out : List Value), Srtd (fun v u => decide (k v < k u)) out → Stb (fun v u => decide (k v < k u)) out vs → (∀ b o, s.heap.get? b = some o → h'.get? b = some o) → s.heap.objs.size ≤ d → (∃ n, h'.get? d = some (seqObj "list" out.toArray n)) → Q (.ref d) { s with heap := h' }) :
    wpAny (model prog w) A (call (.builtin "sorted") [.ref l]) Q E s := by
  refine sorted_ord (swo_key k) hl hz (fun h2 h₁ a ha kk => ?_) fun out hs hb => ?_
  · refine rows_sortableO (s := { s with heap := h₁ }) (by omega) (fun v hm => (hp v hm).keeps fun b o e _ => (kk b o e).2) hi fun o e => ?_
    have e' : some o = some (seqObj "list" vs.toArray 0) := e.symm.trans ha
    cases e'
    intro c
    exact absurd (Value.type.inj c) (by decide)
  · exact h _ _ out hs hb (fun b o e => sortedAll_old e) (Nat.le_succ _) (sortedAll_at s.heap vs out.toArray)
end
end SrtO
namespace L2
open PySem PySem.Spec PyProof.Rows
def rSortedR (K : PySem.W.Frag) : List V → Hp → VK → Prop := fun vs H Q => ∃ (a : Addr) (rs : List Addr) (k : Addr → Int), vs = [V.ref a] ∧ SqL K H a (rs.map V.ref) ∧ (∀ r ∈ rs, ∃ (y : Int) (c : Addr), H r = some (.tup [.int (k r), .int y, .ref c])) ∧
  (∀ r ∈ rs, ∀ r' ∈ rs, k r = k r' → r = r') ∧ ∀ (rs' : List Addr) (p : Addr), rs'.Perm rs → rs'.Pairwise (fun a b => k a ≤ k b) → H p = none → Q (.ref p) (upd H p (.lst (rs'.map V.ref)))
theorem vals_refs_eq : ∀ {rs : List Addr} {us : List Value}, Vals (rs.map V.ref) us → us = rs.map Value.ref
  | [], _, r => by cases r; rfl
  | a :: rs, _, r => by
    cases r with
    | cons r1 r2 =>
      rw [vals_refs_eq r2]
      cases r1
      rfl
def addrV : Value → Addr
  | .ref a => a
  | _ => 0
theorem cr_sortedR {X : Cx} : CallR X (.builtin "sorted") (rSortedR X.K) := by
  intro pins s σ H vs us Q I r h
  obtain ⟨a, rs, k, rfl, hs, hx, hi, q⟩ := h
  obtain ⟨its, rv, hl, hz⟩ := I.list hs
  obtain ⟨u, rfl, ru⟩ := vals1 r
  obtain rfl : u = Value.ref a := ru
  have ei := vals_refs_eq rv
  subst ei
  refine SrtO.sorted_rowsO (k := fun u => k (addrV u)) hl.isList (by rw [List.length_map] at *; exact hz) (fun v hv => ?_) (fun v hv u hu e => ?_) fun h' d out h1 h2 kp hd hn => ?_
  · obtain ⟨t, ht, rfl⟩ := List.mem_map.mp hv
    obtain ⟨y, c, e⟩ := hx t ht
    obtain ⟨_, its2, r2, o, ho, hc, n, hdt⟩ := (show ObjOk X.prog X.w H s.heap t (.tup [.int (k t), .int y, .ref c]) from I.hok _ _ e)
    cases r2 with
    | cons a1 r2 =>
      cases r2 with
      | cons a2 r2 =>
        cases r2 with
        | cons a3 r2 =>
          cases r2
          obtain ⟨t1, rfl⟩ := a1
          obtain ⟨t2, rfl⟩ := a2
          cases a3
          exact ⟨t, o, t1, y, t2, c, n, rfl, ho, hc, hdt⟩
  · obtain ⟨t, ht, rfl⟩ := List.mem_map.mp hv
    obtain ⟨t', ht', rfl⟩ := List.mem_map.mp hu
    rw [hi t ht t' ht' e]
  · obtain ⟨n, hn⟩ := hn
    have hp := h2.perm
    have eo : out = (out.map addrV).map Value.ref := by
      rw [List.map_map]
      have : ∀ u ∈ out, Value.ref (addrV u) = u := fun u hu => by
        obtain ⟨t, _, rfl⟩ := List.mem_map.mp (hp.mem_iff.mp hu)
        rfl
      conv => lhs; rw [← List.map_id out]
      exact List.map_congr_left fun u hu => (this u hu).symm
    have hp2 : (out.map addrV).Perm rs := by
      have z := hp.map addrV
      rw [List.map_map] at z
      have id : (rs.map (addrV ∘ Value.ref)) = rs := by
        conv => rhs; rw [← List.map_id rs]
        rfl
      rw [id] at z
      exact z
    have hs2 : (out.map addrV).Pairwise (fun a b => k a ≤ k b) := by
      rw [List.pairwise_map]
      refine List.Pairwise.imp (fun {a b} h => ?_) h1
      have := of_decide_eq_false h
      omega
    refine ⟨.ref d, upd H d (.lst ((out.map addrV).map V.ref)), I.laid (t' := s.toks) kp hd ⟨?_, out, n, ?_, hn⟩, rfl, q _ d hp2 hs2 (I.hok.fresh hd)⟩
    · rw [List.length_map, hp2.length_eq]
      rw [List.length_map] at hz
      exact hz
    · rw [eo]
      have g : ∀ l : List Addr, Vals (l.map V.ref) (l.map Value.ref) := fun l => by
        induction l with
        | nil => exact .nil
        | cons a l ih => exact .cons rfl ih
      rw [← eo]
      conv => arg 2; rw [eo]
      exact g _
/-- list.index within a comprehension -/
theorem pe_indexK {X : Cx} {K : PySem.W.Frag} (h : X.K = K) {o e : Expr} {to te : TE} {apos cpos : Pos} (p : PE X (.Call (.Attribute o "index" apos) [e] [] cpos) (tBM X.K "list" (rIndex X.K) to (tCons te tNil))) : PE X (.Call (.Attribute o "index" apos) [e] [] cpos) (tBM K "list" (rIndex K) to (tCons te tNil)) := by
  subst h
  exact p
theorem op_notInK {X : Cx} {K : PySem.W.Frag} (h : X.K = K) : OpR X (compareOp .NotIn) (rIn K true) := by
  subst h
  exact op_notIn_seq
end L2

namespace L2
open PySem PySem.Spec PyProof.Rows
section
variable {X : Cx}
/-- a name of the def's own, on the line of the comprehension: stored within its frame -/
theorem swd_true {kx vx : Expr} {gs : List Comprehension} {scope : Scope} {pos py : Pos} {y : Str} {l : Nat} {env : Env} (e1 : env.scope.kind = .function) (e2 : env.scope.names.lookup y = some .local) (e3 : (py.line == pos.line) = true)
    (e4 : (scope.names.any fun (n, k) => n == y && (k == .local || k == .cell)) = false) : swapsWith (.DictComp kx vx gs scope pos) (some (.Name y py)) l env = pure true := by
  have a1 : env.kindOf y = some .local := e2
  have a2 : env.blockKind = .function := (by unfold Env.blockKind; rw [e1]; rfl)
  unfold swapsWith
  simp only [a2, a1, e4, Expr.pos, e3]
  rfl
/-- y = {k: v for x in xs} -/
theorem ps_setDc {i : Nat} {y : Str} {py pos spos : Pos} {kx vx tg iter : Expr} {ifs : List Expr} {scope : Scope} {own : List (Str × Nat)} {wi : TI} {g : TG} {tt : TT} {tk tv : TE} (calm : X.calm = true) (nd : X.N.Nodup) (at_y : X.N[i]? = some y) (loc : X.env.scope.names.lookup y = some .local)
    (sw : swapsWith (.DictComp kx vx [⟨tg, iter, ifs, 0⟩] scope pos) (some (.Name y py)) spos.line X.env = pure true) (walk : PI X tg iter wi) (ok : BlkOk X.N X.env.scope scope own)
    (rg : ∀ (s : Shared) (H : Hp) (C : Addr) (cl : List (Str × Addr)) (fp : List Addr), PG (X.blk s H scope (compEnvC scope cl C X.env) fp) tg g)
    (rt : ∀ (s : Shared) (H : Hp) (C : Addr) (cl : List (Str × Addr)) (fp : List Addr), PTs (X.blk s H scope (compEnvC scope cl C X.env) fp) ifs tt)
    (rk : ∀ (s : Shared) (H : Hp) (C : Addr) (cl : List (Str × Addr)) (fp : List Addr), PE (X.blk s H scope (compEnvC scope cl C X.env) fp) kx tk)
    (rv : ∀ (s : Shared) (H : Hp) (C : Addr) (cl : List (Str × Addr)) (fp : List Addr), PE (X.blk s H scope (compEnvC scope cl C X.env) fp) vx tv)
    (fold : ∀ x, foldedSetIterable iter X.env x = pure x := by intro _; rfl) :
    PS X (.Assign [.Name y py] (.DictComp kx vx [⟨tg, iter, ifs, 0⟩] scope pos) spos) (tAsg (tDc wi g tt tk tv (own.map (·.2))) (gName i)) := by
  constructor
  intro pins s σ H D I q
  have q : tDc wi g tt tk tv (own.map (·.2)) σ H (fun x H1 => gName i x σ H1 D.nx) := q
  rw [exec_Assign_Name_used _ _ _ _ sw]
  apply wpAny_bind
  apply wpAny_standAt
  apply wpAny_bind
  show wpAny _ X.A (do let _ ← comprehension (.DictComp kx vx [⟨tg, iter, ifs, 0⟩] scope pos) scope X.env (firstIterPos [⟨tg, iter, ifs, 0⟩] pos) newDict false (eval iter X.env) (some (assign (.Name y py) X.env))) _ _ s
  apply wpAny_bind
  refine thn (dc_core (Qf := fun _ s' => SP X pins D .next s') calm nd I walk ok rg rt rk rv fold q ?_) fun _ _ z => wpAny_pure (wpAny_pure z)
  intro d c t n H2 J nx ns fr
  show wpAny _ _ (assign (.Name y py) X.env (.ref d)) _ _ _
  refine wpAny_assign_Name (store_ok2 (v := V.ref d) J nd at_y (.inl loc) rfl ?_ (.inr loc))
  rintro u JU ⟨b, same, which⟩
  obtain ⟨r0, r1, r2, r3, r4, r5⟩ := fr
  have far : c ≠ b := by
    cases which with
    | inl z => exact z ▸ r1
    | inr z => exact fun e => r4 y b z e.symm
  exact ⟨n, ns.sameBut same far, fun _ rest => ⟨_, H2, JU.turned (t' := u.toks) (fun a o ha e => (rest.2 a ha).trans e) r0 r1 r3 r4 r5, nx⟩⟩
end
end L2

namespace SrtO
open PySem PyProof.Rows Srt
section
variable {prog : Program} {w : World} {A : Around} {E : Value → Shared → Prop} {s : Shared}
/-- the heap with the items of a tuple in a new list -/
def gath (h : Heap) (its : List Value) : Heap := (h.push (seqObj "list" #[] 0)).update h.objs.size (Obj.mapSeq (· ++ its.toArray))
theorem gath_at (h : Heap) (its : List Value) : ∃ k, (gath h its).get? h.objs.size = some (seqObj "list" its.toArray k) := by
  have e := get?_update_seq (c := "list") (xs := #[]) (n := 0) (Heap.get?_push_size h rfl) (· ++ its.toArray)
  rw [Array.empty_append] at e
  exact ⟨_, e⟩
theorem gath_old {h : Heap} {its : List Value} {b : Addr} {o : Obj} (e : h.get? b = some o) : (gath h its).get? b = some o := by
  unfold gath
  rw [Heap.get?_update_ne _ _ _ _ (Nat.ne_of_lt (Heap.lt_size e))]
  exact Heap.get?_push_of_some _ e
theorem gath_size (h : Heap) (its : List Value) : (gath h its).objs.size = h.objs.size + 1 := by
  unfold gath
  rw [Heap.size_update, size_push']
theorem gather_tup {t : Addr} {o : Obj} {its : List Value} {k : Nat} {Q : List Value → Shared → Prop} (there : s.heap.get? t = some o) (cls : o.cls = .type "tuple") (dat : o.data = .seq its.toArray k) (few : its.length ≤ sizeLine)
    (next : Q its { s with heap := gath s.heap its }) : wpAny (model prog w) A (collect (.ref t)) Q E s := by
  have there' : (s.heap.push (seqObj "list" #[] 0)).get? t = some o := Heap.get?_push_of_some _ there
  have new0 : (s.heap.push (seqObj "list" #[] 0)).get? s.heap.objs.size = some (seqObj "list" #[] 0) := Heap.get?_push_size _ rfl
  unfold collect
  apply wpAny_bind
  refine wpAny_runValue (codeAny_builtin entry_proto_collect' ?_)
  show wpAny _ _ (newList [] >>= fun l => again (.builtin "list.__iadd__" ⟨[l, .ref t], []⟩)) _ _ s
  apply wpAny_bind
  refine wpAny_newList (wpAny_pure ⟨Code.quiet_builtin _ (by decide +kernel), codeAny_builtin entry_list_iadd' ?_⟩)
  show wpAny _ _ (Builtin.List.listExtendWith (.ref s.heap.objs.size) (.ref t) (.ref s.heap.objs.size)) _ _ { s with heap := s.heap.push (seqObj "list" #[] 0) }
  unfold Builtin.List.listExtendWith
  apply wpAny_bind
  refine wpAny_typeOf (T := "tuple") ⟨o, there', cls⟩ ?_
  have isT : (Value.type "tuple" == Value.type "tuple") = true := by rfl
  rw [if_pos (by rw [isT]; simp)]
  refine wpAny_bind (listItems_at there' dat ?_)
  refine wpAny_bind (listItems_at new0 rfl ?_)
  rw [if_neg (by simp)]
  refine wpAny_bind (listUpdate_at new0 rfl ?_ (Nat.zero_le _) (by show (#[] ++ its.toArray).size ≤ sizeLine + 1; simp only [Array.size_append, List.size_toArray, List.length_nil]; omega))
  refine wpAny_pure ?_
  obtain ⟨k2, e⟩ := gath_at s.heap its
  show wpAny (model prog w) A (do
      let o ← load s.heap.objs.size
      match o.data with
      | .seq xs _ => pure xs.toList
      | _ => unsupported "internal:collect") Q E { s with heap := gath s.heap its }
  exact wpAny_bind (wpAny_load e (wpAny_pure next))
/-- sorted(t), t a tuple of ints -/
theorem sorted_tupI {t : Addr} {o : Obj} {its : List Value} {ns : List Int} {k : Nat} {Q : Value → Shared → Prop} (I : IntsAre its ns) (there : s.heap.get? t = some o) (cls : o.cls = .type "tuple") (dat : o.data = .seq its.toArray k) (few : its.length ≤ sizeLine)
    (next : ∀ (out : List Value) (h' : Heap) (e : Nat), Srtd ltIv out → Stb ltIv out its → (∀ b u, s.heap.get? b = some u → h'.get? b = some u) → h'.get? (s.heap.objs.size + 1) = some (seqObj "list" out.toArray e) → Q (.ref (s.heap.objs.size + 1)) { s with heap := h' }) :
    wpAny (model prog w) A (call (.builtin "sorted") [.ref t]) Q E s := by
  refine Calls.call_function_entry kind_sorted plain_sorted entry_sorted (args_sorted1 _) ?_
  unfold Builtin.«sorted»
  refine wpAny_bind (m := checkCount "sorted" 1 1 _) (wpAny_pure ?_)
  refine wpAny_bind (gather_tup there cls dat few ?_)
  refine wpAny_bind (wpAny_newList ?_ few)
  show wpAny _ _ _ _ _ { s with heap := (gath s.heap its).push (seqObj "list" its.toArray 0) }
  have at_l : ((gath s.heap its).push (seqObj "list" its.toArray 0)).get? (gath s.heap its).objs.size = some (seqObj "list" its.toArray 0) := Heap.get?_push_size _ rfl
  refine wpAny_bind (wpAny_holding (wpAny_call_entry slot_list_sort ⟨_, at_l, rfl⟩ entry_list_sort (list_sort_ord swo_int at_l few (fun two => ints_sortable I two) fun out h1 h2 => ⟨_, rfl, ?_⟩) (args_list_sort _)))
  obtain ⟨e, he⟩ := sortedHeap_at (vs := its) (out := out.toArray) at_l
  rw [gath_size] at he ⊢
  refine wpAny_pure ⟨_, rfl, next out _ e h1 h2 (fun b u z => ?_) he⟩
  have lt : b < s.heap.objs.size := Heap.lt_size z
  rw [sortedHeap_old (Nat.ne_of_lt (Nat.lt_succ_of_lt lt)) (by rw [size_push', gath_size]; exact Nat.lt_succ_of_lt (Nat.lt_succ_of_lt lt))]
  exact Heap.get?_push_of_some _ (gath_old z)
end
end SrtO
namespace L2
open PySem PySem.Spec PyProof.Rows
def rSortedTI (K : PySem.W.Frag) : List V → Hp → VK → Prop := fun vs H Q => ∃ (a : Addr) (ns : List Int), vs = [V.ref a] ∧ SqT K H a (ns.map V.int) ∧ ∀ (ns' : List Int) (p : Addr), ns'.Perm ns → ns'.Pairwise (· ≤ ·) → H p = none → Q (.ref p) (upd H p (.lst (ns'.map V.int)))
theorem cr_sortedTI {X : Cx} : CallR X (.builtin "sorted") (rSortedTI X.K) := by
  intro pins s σ H vs us Q I r h
  obtain ⟨a, ns, rfl, hs, q⟩ := h
  obtain ⟨its, rv, ⟨o, ho, hc, k, hd⟩, hz⟩ := I.tuple hs
  rw [Vals.ref1 r]
  have hz' : ns.length ≤ sizeLine := by
    rw [List.length_map] at hz
    exact hz
  refine SrtO.sorted_tupI rv.ints ho hc hd (by rw [← rv.length]; exact hz) fun out h' e h1 h2 old new => ?_
  obtain ⟨k1, k2, k3⟩ := SrtO.ints_out rv.ints h1 h2
  exact ⟨.ref _, upd H (s.heap.objs.size + 1) (.lst ((out.map SrtO.iv).map V.int)), I.laid (t' := s.toks) old (Nat.le_succ _) ⟨by rw [List.length_map, k2.length_eq]; exact hz', out, e, vals_of_ints k1, new⟩, rfl, q _ _ k2 k3 (I.hok.fresh (Nat.le_succ _))⟩
end L2

namespace L2
open PySem PySem.Spec PyProof.Rows
section
variable {X : Cx} {st : Stmt} {rest : List Stmt} {t : TS}
/-- a statement behind which nothing is ever run -/
def tStop (t : TS) : TS := fun D σ H => t { D with nx := fun _ _ => False } σ H
theorem pss_stop (h1 : PS X st t) : PSs X (st :: rest) (tStop t) := by
  refine ⟨fun pins s σ H D I h => ?_⟩
  refine wpAny_execs_cons (thn (h1.run pins s σ H { D with nx := fun _ _ => False } I h) fun f s1 q => ?_)
  cases f with
  | next =>
    obtain ⟨σ', H', I', q⟩ := q
    exact False.elim q
  | ret v => exact q
  | brk => exact q
  | cont => exact q
end
end L2

namespace L2
open PySem PySem.Spec PyProof.Rows
/-- d.get(t) of a written table, whether the key is there or not -/
def tTabLook (P : Program) (w : World) (K : PySem.W.Frag) (td te : TE) : TE := fun σ H Q => td σ H fun x H1 => ∃ (a : Addr) (kvs : List (List Nat × Str)), x = .ref a ∧ TabK P w K a kvs ∧ te σ H1 fun y H2 => ∃ (p : Addr) (ks : List Nat), y = .ref p ∧ H2 p = some (.tup (ks.map fun k : Nat => V.int (k : Int))) ∧
  (∀ q, (kvs.find? fun q => decide (q.1 = ks)) = some q → Q (.str q.2) H2) ∧ ((kvs.find? fun q => decide (q.1 = ks)) = none → Q .non H2)
theorem tab_look {ks : List Nat} : ∀ {kvs : List (List Nat × Str)} {ts : List Tok}, ts.length = kvs.length →
    (∀ q, (kvs.find? fun q => decide (q.1 = ks)) = some q → ∃ t : Tok, valueAt ((kvs.zip ts).map fun x => (numK x.1.1, Value.str x.1.2 x.2)) (numK ks) = some (Value.str q.2 t)) ∧
    ((kvs.find? fun q => decide (q.1 = ks)) = none → valueAt ((kvs.zip ts).map fun x => (numK x.1.1, Value.str x.1.2 x.2)) (numK ks) = none)
  | [], ts, _ => ⟨fun q h => by simp at h, fun _ => by simp [valueAt]⟩
  | _ :: _, [], hl => by simp at hl
  | (k0, z0) :: kvs, t0 :: ts, hl => by
    have ih := tab_look (ks := ks) (kvs := kvs) (ts := ts) (by simpa using hl)
    by_cases c : k0 = ks
    · subst c
      refine ⟨fun q h => ?_, fun h => ?_⟩
      · rw [List.find?_cons_of_pos (by simp)] at h
        cases Option.some.inj h
        exact ⟨t0, by simp [valueAt]⟩
      · rw [List.find?_cons_of_pos (by simp)] at h
        cases h
    · have ne2 : ¬ numK k0 = numK ks := fun e => c (numK_inj e)
      rw [List.find?_cons_of_neg (by simpa using c)]
      unfold valueAt at ih ⊢
      rw [List.zip_cons_cons, List.map_cons, List.find?_cons_of_neg (by simpa using ne2)]
      exact ih
theorem pe_tabLook {X : Cx} {o e : Expr} {td te : TE} {apos cpos : Pos} (hu : X.A.units + 64 < cLine) (ho : PE X o td) (he : PE X e te) (m : M1 X o "get" apos e cpos) : PE X (.Call (.Attribute o "get" apos) [e] [] cpos) (tTabLook X.prog X.w X.K td te) := by
  refine ⟨fun pins s σ H Q I h => ?_⟩
  refine wpAny_Call_method m.base m.few m.line PySem.F.plainAttrs_dict PySem.F.slot_dict_get PySem.F.type_dict_get (thn (ho.run pins s σ H _ I h) fun u s1 ⟨x, H1, I1, rx, a, kvs, ex, ⟨hsm, ts, hT⟩, q1⟩ => ?_)
  subst ex
  obtain rfl : u = Value.ref a := rx
  obtain ⟨hD, _⟩ := hT _ I1.kIn
  have hD' := hD
  obtain ⟨xs, ⟨ob, es, ep, hob, hcl, hdat, _⟩, _⟩ := hD'
  refine ⟨hD.typeIs, fun b q => by cases q; exact ⟨ob, hob, hcl.2.1⟩, ?_⟩
  rw [m.trees]
  refine Calls.callWith_builtin rfl (Calls.evalArgs_plain (Calls.spliced_cons (thn (he.run pins s1 σ H1 _ I1 q1) fun iv s2 ⟨y, H2, I2, ry, p, ks, ey, hp, q2, q3⟩ => Calls.spliced_nil ?_)))
  subst ey
  obtain rfl : iv = Value.ref p := ry
  obtain ⟨_, its, rv, ot, h1, h2, n, h3⟩ := (show ObjOk X.prog X.w H2 s2.heap p (.tup (ks.map fun k : Nat => V.int (k : Int))) from I2.hok p _ hp)
  obtain ⟨hD2, hlen⟩ := hT _ I2.kIn
  obtain ⟨f1, f2⟩ := tab_look (ks := ks) hlen
  have hk : (nestedKind X.prog X.w).is s2.heap (numK ks) p := ⟨.tup h1 h2 h3 (by simpa using numAll_of (h := s2.heap) rv), numK_depth ks⟩
  refine get_keyed (knd := nestedKind X.prog X.w) (show X.A.in1.units + 8 < cLine by show X.A.units + 1 + 8 < cLine; omega) hk hsm hD2 ?_
  cases hf : kvs.find? fun q => decide (q.1 = ks) with
  | some q =>
    obtain ⟨t, ht⟩ := f1 q hf
    rw [ht]
    exact ⟨.str q.2, H2, I2.tok _, ⟨t, rfl⟩, q2 q hf⟩
  | none =>
    rw [f2 hf]
    exact ⟨.non, H2, I2.tok _, rfl, q3 hf⟩
end L2

/-! exceptions whose context is known to be None: raised by defs, caught where the suite calls defs -/
namespace L2N
open PySem PySem.Spec PyProof.Rows L2
theorem takes0N {X : Cx} : Takes X (fun _ _ _ _ => False) := fun _ _ x => by
  obtain ⟨a, B, sI, pins, σ, H, cls, d, e, I, nb, up, sky, na, os, ag, w⟩ := x
  exact False.elim w
section
variable {X : Cx} {e : Expr} {es : List Expr} {ta : TA} {p pos : Pos}
/-- raise X(e, ..), own __init__: the new exception has no context -/
theorem pmk_oexN {CX : CXT} {x : Str} {C fI : Addr} {k : Nat} {fd : FuncData} {ps : List Str} {sp : Sp} (T : OexC X.K C) (iC : PySem.W.findIn X.K (.ref C) "__init__" = some (some (.ref fI))) (tI : PySem.W.typeIn X.K (.ref fI) = some (.type "function"))
    (F1 : FnOk X.prog X.w X.K X.mg X.base CX k fI fd ps sp) (hr : Room (k + 1) X.A) (hb : Binds X.K fd ps []) (hx : Passes CX X (fun _ _ _ => False)) (hg : Gl X x) (hm : X.mg x = some (.ref C)) (ha : PA X (e :: es) ta)
    (hdb : (x == ("__debug__" : Str)) = false := by decide) (he : starEach (e :: es) X.env = (false, eval e X.env) :: starEach es X.env := by rfl) (hpl : (backTo pos (starEach es X.env)).any (·.1) = false := by rfl) :
    PMk X (.Call (.Name x p) (e :: es) [] pos) (tMkO C sp [] ta) := by
  intro pins s σ H Q I h
  obtain ⟨c1, c2, c3, c4, c5, c6, c7, c8, c9, d0, d1, d2, d3, d4, d5, hC, hbm⟩ := T.cls
  refine wpAny_Call_Name_kw (ld_glob I hg hm ?_ hdb)
  refine PySem.W.callWith_K (h₀ := X.base) I.ok.mod.kin T.kC (thn (ha.run pos pins s σ H _ I h) fun us s1 ⟨vs, H1, I1, r1, hz, q1⟩ => ⟨I1.kIn, ?_⟩) he hpl
  show wpAny _ _ (call (.ref C) us) _ _ _
  obtain ⟨h1, g1, w1, k1, o1⟩ := s1
  have up1 : h1.objs.size ≤ h1.objs.size + 1 := Nat.le_succ _
  have fr : H1 (h1.objs.size + 1) = none := I1.hok.fresh up1
  have pr := q1 (h1.objs.size + 1) fr
  rw [List.append_nil] at pr
  have kp : ∀ b o, h1.get? b = some o → ((h1.push (PySem.W.kdv_tup us)).push (PySem.HandSPX.excO C h1.objs.size)).get? b = some o := fun b o z => Heap.get?_push_of_some _ (Heap.get?_push_of_some _ z)
  have ob : ((h1.push (PySem.W.kdv_tup us)).push (PySem.HandSPX.excO C h1.objs.size)).get? (h1.objs.size + 1) = some (PySem.HandSPX.excO C h1.objs.size) := by heap_get
  have J : Inv X pins σ (upd H1 (h1.objs.size + 1) (exo (h1.objs.size + 1) C none)) ⟨(h1.push (PySem.W.kdv_tup us)).push (PySem.HandSPX.excO C h1.objs.size), g1, w1, k1, o1⟩ :=
    I1.laid (t' := k1) (a := h1.objs.size + 1) (o := exo (h1.objs.size + 1) C none) (h' := (h1.push (PySem.W.kdv_tup us)).push (PySem.HandSPX.excO C h1.objs.size)) kp up1 (exo_ok ob)
  have rl : Vals (V.ref (h1.objs.size + 1) :: vs) (Value.ref (h1.objs.size + 1) :: us) := .cons rfl r1
  have ln : (Value.ref (h1.objs.size + 1) :: us).length = ps.length := by
    have z := rl.length
    rw [F1.len _ _ _ _ pr] at z
    exact z.symm
  have few : us.length ≤ sizeLine := by
    rw [← Paired.length r1, sizeLine_eq]
    omega
  have bd := hb ⟨(h1.push (PySem.W.kdv_tup us)).push (PySem.HandSPX.excO C h1.objs.size), g1, w1, k1, o1⟩ (Value.ref (h1.objs.size + 1) :: us) J.kIn (by rw [List.append_nil]; exact ln)
  rw [List.append_nil] at bd
  refine wpAny_call (PySem.HandSPX.call_own F.excBase_ValueError (fun Y => PySem.HandSPX.refsVE_contains Y c5 hbm) (I1.kIn _ _ hC) (PySem.W.looks_findIn I1.kIn iC) (fun self => PySem.W.bind_fn I1.kIn self tI) few
    (codeAny_mono (F1.run _ X.stack _ _ ⟨Value.ref (h1.objs.size + 1) :: us, []⟩ (Value.ref (h1.objs.size + 1) :: us) _ _ (fun _ _ _ => False) (hr.make C us []) (J.env0.make C us []) bd rl pr) fun r s' hq => ?_))
  cases r with
  | error er => exact hx pins σ _ _ er s' J hq
  | ok fl =>
    cases fl with
    | ret u =>
      obtain ⟨v, H2, os2, bare2, un2, hok2, rv, ev, d, fs, ea, ed, hd1, q2⟩ := hq
      subst ev
      obtain ⟨h2, g2, w2, k2, o2⟩ := s'
      obtain ⟨t0, G, JG, kG, ge, hoe, na⟩ := mk_end0 (d2 := w2) (t2 := k2) I1 up1 kp un2 hok2 os2 bare2 ea ed hd1
      exact ⟨rv, h1.objs.size + 1, _, _, ⟨G, g2, w2, k2, o2⟩, _, .ref C, some d, rfl, JG, kG, ge, hoe, ⟨rfl, rfl, fun vs hv => by cases hv; rfl⟩, rfl, rfl, na, rfl, bare2, raises_own T.exC T.tyC, q2⟩
    | next => exact False.elim hq
    | brk => exact False.elim hq
    | cont => exact False.elim hq
variable {C : Addr} {bmB : List Value} {B newId initId : String} {x : Str}
/-- raise X(), no own __init__ -/
theorem pmk_own0N (F : ExcBaseFacts B newId initId bmB) (q : PySem.W.excIn X.K C bmB newId = true) (gC : X.mg x = some (.ref C)) (kC : PySem.W.keepIn X.K (.ref C) = true) (r : Raises X (.ref C)) (hg : Gl X x)
    (hdb : (x == ("__debug__" : Str)) = false := by decide) : PMk X (.Call (.Name x p) [] [] pos) (fun _ H Q => Q (.ref C) none H) := by
  intro pins s σ H Q I h
  refine wpAny_Call_Name_kw (ld_glob I hg gC ?_ hdb)
  refine PySem.W.callWith_K0 I.kIn kC ?_
  obtain ⟨bm, N, nm, qn, bs, hdct, sn, sub, ab, col, dd, k0, k1, k2, k3, k5, mN, hC, hN, hni, T⟩ := exc_obj I.kIn q
  refine wpAny_call_exc_subT F T hC hN hni (fun h' e hm => ?_) (Nat.zero_le _)
  exact mk_of I hm r h (I.hok.gone hm.new)
end
end L2N
namespace L2
open PySem PySem.Spec PyProof.Rows
section
variable {P : Program} {w : World} {K : PySem.W.Frag} {mg : Str → Option Value} {base : Heap}
/-- a def that may raise, what it raises has no context -/
theorem Fun.okN {x qual : Str} {st : Stmt} {f : Addr} {fd : FuncData} {N ps : List Str} {k : Nat} {sp : Sp} (F : Fun K x qual st f fd) (S : FnScope N ps (defScope st)) (len : ∀ vs H Q E, sp vs H Q E → vs.length = ps.length)
    (hbody : ∀ (cdv : Value) (A : Around) (outer : List Env) (s : Shared) (H : Hp) (vs : List V) (Q : VK) (E : XK), Room k (A.deeper (envOfC qual (defScope st) s.heap.objs.size f cdv)) → sp vs H Q E →
      ∃ t, PSs (cxOf (L2N.CX P w) P w K mg base N qual (defScope st) f cdv A outer s H E) (defBody st) t ∧ t { nx := fun _ H' => Q .non H', rt := Q } (start N vs) H) : FnOk P w K mg base (L2N.CX P w) (k + 1) f fd ps sp := by
  obtain ⟨oc, od, kV, doc, pm, an, cdv, ct, osl, rfl, lk, hcd⟩ := F.ex
  exact fn_of lk hcd S len fun A outer s H vs Q E hr hsp => hbody cdv A outer s H vs Q E hr hsp
/-- a def called where an exception is handled, lets none out -/
theorem Fun.okH {x qual : Str} {st : Stmt} {f : Addr} {fd : FuncData} {N ps : List Str} {k : Nat} {sp : Sp} (F : Fun K x qual st f fd) (S : FnScope N ps (defScope st)) (len : ∀ vs H Q E, sp vs H Q E → vs.length = ps.length)
    (hbody : ∀ (cdv : Value) (A : Around) (outer : List Env) (s : Shared) (H : Hp) (vs : List V) (Q : VK) (E : XK) (p : Addr × Obj), L2H.Hot1 A p → L2H.RoomH k (A.deeper (envOfC qual (defScope st) s.heap.objs.size f cdv)) → sp vs H Q E →
      ∃ t, PSs (L2H.cxH CX0 P w K mg base N qual (defScope st) f cdv A outer s H E p).nox (defBody st) t ∧ t { nx := fun _ H' => Q .non H', rt := Q } (start N vs) H) : L2H.FnH P w K mg base CX0 (k + 1) f fd ps sp := by
  obtain ⟨oc, od, kV, doc, pm, an, cdv, ct, osl, rfl, lk, hcd⟩ := F.ex
  refine L2H.fn_ofH lk hcd S len fun A outer s H vs Q E p hot hr hsp => ?_
  obtain ⟨t, h, q⟩ := hbody cdv A outer s H vs Q E p hot hr hsp
  exact ⟨t, h.nox, q⟩
end
/-- within a suite: the exception that is handled has no context -/
theorem hot_suite {X : Cx} {a : Addr} {oe : Obj} {cls : Value} {d : Option Addr} {pn : List (Addr × Obj)} (hz : L2N.Zn cls d oe) (hf : ∃ vs, oe.data = .fields vs) : L2H.HotC (X.suite a ((a, oe) :: pn)) := by
  obtain ⟨vs, hv⟩ := hf
  exact ⟨(a, oe), ⟨rfl, vs, hv, hz.2.2 vs hv⟩, List.mem_cons_self⟩
end L2
namespace L2
open PySem PySem.Spec PyProof.Rows
/-- nothing is let out -/
theorem passH0 {X : Cx} (E : St → XK) : ∀ σ, PassesAt CX0 X σ (E σ) := fun _ _ _ _ _ _ _ z => False.elim z
theorem call_isiQ {X : Cx} {K : PySem.W.Frag} (h : X.K = K) : CallR X (.builtin "isinstance") (rIsi K) := by
  subst h
  exact call_isi
theorem call_lenK {X : Cx} {K : PySem.W.Frag} (h : X.K = K) : CallR X (.builtin "len") (fun xs H Q => ∃ p ys, xs = [.ref p] ∧ (SqL K H p ys ∨ SqT K H p ys) ∧ Q (.int ys.length) H) := by
  subst h
  exact call_len_seq
end L2

/-! min, max, len(set(..)) of a tuple of ints -/
namespace MmT
open PySem PyProof.Rows
theorem keep_old {s : Shared} {o : Obj} {h' : Heap} (hk : ∀ b u, b ∉ [s.heap.objs.size] → (s.heap.push o).get? b = some u → h'.get? b = some u) : ∀ b u, s.heap.get? b = some u → h'.get? b = some u := fun b u e => by
  refine hk b u (fun hm => ?_) (Heap.get?_push_of_some _ e)
  have := Heap.lt_size e
  rw [List.mem_singleton.mp hm] at this
  exact Nat.lt_irrefl _ this
theorem ints_arr {its : List Value} {ns : List Int} (hi : IntsAre its ns) : ∃ xs : Array (Int × Tok), its.toArray = intItems xs ∧ (xs.toList.map (·.1)) = ns := by
  obtain ⟨xs, e⟩ := hi.allInts.items
  have hn : numsOf (intItems xs).toList = ns := by
    rw [← e]
    exact hi.numsOf
  rw [nums_intItems] at hn
  exact ⟨xs, e, hn⟩
section
variable {prog : Program} {w : World} {A : Around} {E : Value → Shared → Prop} {s : Shared}
theorem min_tup {t : Addr} {its : List Value} {ns : List Int} {Q : Value → Shared → Prop} (calm : A.handled = none) (there : s.heap.IsTuple t its.toArray) (hi : IntsAre its ns) (some_ : 0 < ns.length)
    (next : ∀ (h' : Heap) (tk : Nat) (m : Int) (u : Tok), (∀ b o, s.heap.get? b = some o → h'.get? b = some o) → m ∈ ns → (∀ y ∈ ns, m ≤ y) → Q (.int m u) { s with heap := h', toks := tk }) :
    wpAny (model prog w) A (call (.builtin "min") [.ref t]) Q E s := by
  obtain ⟨xs, e1, e2⟩ := ints_arr hi
  subst e2
  rw [e1] at there
  have pos : 0 < xs.size := by simpa using some_
  have tb : t < s.heap.objs.size := by
    obtain ⟨o, ho, _⟩ := there
    exact Heap.lt_size ho
  refine call_min_walk (wpAny_pyIter_tuple there ?_)
  refine ⟨_, [_, t], [_], _, _, _, _, rfl, Walks.tuple (A := A.in1) calm _ t (Nat.ne_of_lt tb) (intItems xs), ⟨⟨_, Heap.get?_push_size _ rfl, rfl, rfl⟩, there.push _⟩, fun c hc => ?_, by simpa [intItems] using pos, CmpOf.ints_lt (numAt xs) (fun _ _ => intItems_at), fun v h' tk hP hk => ?_⟩
  · show c < (s.heap.push _).objs.size
    rw [Heap.size_push]
    rcases List.mem_cons.mp hc with rfl | hc
    · exact Nat.lt_succ_self _
    · rw [List.mem_singleton.mp hc]
      exact Nat.lt_succ_of_lt tb
  · have hP' : (intItems xs)[argBest (fun i j => decide (numAt xs i < numAt xs j)) (xs.size - 1)]? = some v := by simpa [intItems] using hP
    obtain ⟨u, rfl⟩ := intItems_at hP'
    obtain ⟨b1, b2⟩ := argBest_lt (numAt xs) (xs.size - 1)
    refine next h' tk _ u (keep_old hk) ?_ fun y hy => ?_
    · rw [numAt_eq]
      exact PySem.getD_mem (by rw [List.length_map, Array.length_toList]; omega)
    · obtain ⟨j, hj, rfl⟩ := mem_getD hy
      rw [List.length_map, Array.length_toList] at hj
      rw [← numAt_eq]
      exact b2 j (by omega)
theorem max_tup {t : Addr} {its : List Value} {ns : List Int} {Q : Value → Shared → Prop} (calm : A.handled = none) (there : s.heap.IsTuple t its.toArray) (hi : IntsAre its ns) (some_ : 0 < ns.length)
    (next : ∀ (h' : Heap) (tk : Nat) (m : Int) (u : Tok), (∀ b o, s.heap.get? b = some o → h'.get? b = some o) → m ∈ ns → (∀ y ∈ ns, y ≤ m) → Q (.int m u) { s with heap := h', toks := tk }) :
    wpAny (model prog w) A (call (.builtin "max") [.ref t]) Q E s := by
  obtain ⟨xs, e1, e2⟩ := ints_arr hi
  subst e2
  rw [e1] at there
  have pos : 0 < xs.size := by simpa using some_
  have tb : t < s.heap.objs.size := by
    obtain ⟨o, ho, _⟩ := there
    exact Heap.lt_size ho
  refine call_max_walk (wpAny_pyIter_tuple there ?_)
  refine ⟨_, [_, t], [_], _, _, _, _, rfl, Walks.tuple (A := A.in1) calm _ t (Nat.ne_of_lt tb) (intItems xs), ⟨⟨_, Heap.get?_push_size _ rfl, rfl, rfl⟩, there.push _⟩, fun c hc => ?_, by simpa [intItems] using pos, CmpOf.ints_gt (numAt xs) (fun _ _ => intItems_at), fun v h' tk hP hk => ?_⟩
  · show c < (s.heap.push _).objs.size
    rw [Heap.size_push]
    rcases List.mem_cons.mp hc with rfl | hc
    · exact Nat.lt_succ_self _
    · rw [List.mem_singleton.mp hc]
      exact Nat.lt_succ_of_lt tb
  · have hP' : (intItems xs)[argBest (fun i j => decide (numAt xs i > numAt xs j)) (xs.size - 1)]? = some v := by simpa [intItems] using hP
    obtain ⟨u, rfl⟩ := intItems_at hP'
    obtain ⟨b1, b2⟩ := argBest_gt (numAt xs) (xs.size - 1)
    refine next h' tk _ u (keep_old hk) ?_ fun y hy => ?_
    · rw [numAt_eq]
      exact PySem.getD_mem (by rw [List.length_map, Array.length_toList]; omega)
    · obtain ⟨j, hj, rfl⟩ := mem_getD hy
      rw [List.length_map, Array.length_toList] at hj
      rw [← numAt_eq]
      exact b2 j (by omega)
end
/-- a list without doubles has as many members as another of the same members exactly if that one has no doubles -/
theorem sub_perm : ∀ {L ns : List Int}, L.Nodup → (∀ x ∈ L, x ∈ ns) → L.length = ns.length → L.Perm ns
  | [], ns, _, _, h => by
    rw [List.length_eq_zero_iff.mp h.symm]
  | x :: L, ns, nd, sub, h => by
    have hx := sub x (List.mem_cons_self ..)
    have nd' := List.nodup_cons.mp nd
    have ih := sub_perm (L := L) (ns := ns.erase x) nd'.2 (fun y hy => (List.mem_erase_of_ne (fun z => nd'.1 (by rw [← z]; exact hy))).mpr (sub y (List.mem_cons_of_mem _ hy))) (by
      rw [List.length_erase_of_mem hx]
      simp at h
      omega)
    exact (List.Perm.cons x ih).trans (List.perm_cons_erase hx).symm
theorem sub_len : ∀ {L ns : List Int}, L.Nodup → (∀ x ∈ L, x ∈ ns) → L.length ≤ ns.length
  | [], _, _, _ => Nat.zero_le _
  | x :: L, ns, nd, sub => by
    have hx := sub x (List.mem_cons_self ..)
    have nd' := List.nodup_cons.mp nd
    have ih := sub_len (L := L) (ns := ns.erase x) nd'.2 fun y hy => (List.mem_erase_of_ne (fun z => nd'.1 (by rw [← z]; exact hy))).mpr (sub y (List.mem_cons_of_mem _ hy))
    have := List.length_erase_of_mem hx
    have hp : 0 < ns.length := List.length_pos_of_mem hx
    show L.length + 1 ≤ ns.length
    omega
theorem count_nd {L ns : List Int} (nd : L.Nodup) (m : ∀ x, x ∈ L ↔ x ∈ ns) : L.length = ns.length ↔ ns.Nodup :=
  ⟨fun h => (sub_perm nd (fun x hx => (m x).mp hx) h).nodup_iff.mp nd, fun h => Nat.le_antisymm (sub_len nd fun x hx => (m x).mp hx) (sub_len h fun x hx => (m x).mpr hx)⟩
end MmT
namespace L2
open PySem PySem.Spec PyProof.Rows
section
variable {X : Cx}
def rMinT (K : PySem.W.Frag) : List V → Hp → VK → Prop := fun vs H Q => ∃ (a : Addr) (ns : List Int), vs = [V.ref a] ∧ SqT K H a (ns.map V.int) ∧ 0 < ns.length ∧ ∀ m, m ∈ ns → (∀ y ∈ ns, m ≤ y) → Q (.int m) H
def rMaxT (K : PySem.W.Frag) : List V → Hp → VK → Prop := fun vs H Q => ∃ (a : Addr) (ns : List Int), vs = [V.ref a] ∧ SqT K H a (ns.map V.int) ∧ 0 < ns.length ∧ ∀ m, m ∈ ns → (∀ y ∈ ns, y ≤ m) → Q (.int m) H
theorem tup_is {h : Heap} {t : Addr} {its : List Value} (p : ∃ o : Obj, h.get? t = some o ∧ o.cls = .type "tuple" ∧ ∃ k, o.data = .seq its.toArray k) : h.IsTuple t its.toArray := by
  obtain ⟨o, h1, h2, k, h3⟩ := p
  exact ⟨o, h1, h2, k, h3⟩
theorem cr_minT (calm : X.calm = true) : CallR X (.builtin "min") (rMinT X.K) := by
  intro pins s σ H vs us Q I r h
  obtain ⟨a, ns, rfl, hs, pos, q⟩ := h
  obtain ⟨its, rv, ⟨o, ho, hc, k, hd⟩, hz⟩ := I.tuple hs
  rw [Vals.ref1 r]
  exact MmT.min_tup (I.ok.hd calm) ⟨o, ho, hc, k, hd⟩ rv.ints pos fun h' tk m u keep hm hl => ⟨.int m, H, I.kept keep, ⟨u, rfl⟩, q m hm hl⟩
theorem cr_maxT (calm : X.calm = true) : CallR X (.builtin "max") (rMaxT X.K) := by
  intro pins s σ H vs us Q I r h
  obtain ⟨a, ns, rfl, hs, pos, q⟩ := h
  obtain ⟨its, rv, ⟨o, ho, hc, k, hd⟩, hz⟩ := I.tuple hs
  rw [Vals.ref1 r]
  exact MmT.max_tup (I.ok.hd calm) ⟨o, ho, hc, k, hd⟩ rv.ints pos fun h' tk m u keep hm hl => ⟨.int m, H, I.kept keep, ⟨u, rfl⟩, q m hm hl⟩
/-- len(set(t)), t a tuple of ints: how many there are tells whether there are doubles -/
def tLenSetT (K : PySem.W.Frag) (ta : TE) : TE := fun σ H Q => ta σ H fun x H1 => ∃ (l : Addr) (ns : List Int), x = .ref l ∧ SqT K H1 l (ns.map V.int) ∧ ns.length ≤ 1000 ∧ ∀ c : Nat, c ≤ ns.length → (c = ns.length ↔ ns.Nodup) → Q (.int (c : Int)) H1
theorem pe_lenSetT {a : Expr} {ta : TE} {p p2 q pos : Pos} (calm : X.calm = true) (g1 : Gl X "len") (m1 : X.mg "len" = none) (g2 : Gl X "set") (m2 : X.mg "set" = none) (ha : PE X a ta)
    (na : starEach [a] X.env = (false, eval a X.env) :: starEach [] X.env := by rfl) : PE X (.Call (.Name "len" p) [.Call (.Name "set" p2) [a] [] q] [] pos) (tLenSetT X.K ta) := by
  refine ⟨fun pins s σ H Q I hw => ?_⟩
  refine Call_ (ld_blt I g1 m1 PySem.boot_len ?_)
  refine PyProof.Rows.callWith_builtin1 (PyProof.Rows.args_cons ?_ rfl) rfl rfl
  refine Call_ (ld_blt I g2 m2 PyProof.Rows.boot_set ?_)
  refine PyProof.Rows.callWith_type1 (PyProof.Rows.args_cons (thn (ha.run pins s σ H _ I hw) fun v s1 ⟨x, H1, I1, r1, z1⟩ => PyProof.Rows.args_nil ?_) na) na rfl
  obtain ⟨l, ns, rfl, hq, few, z1⟩ := z1
  cases r1
  obtain ⟨its, rv, ⟨o, ho, hc, k, hd⟩, hz⟩ := I1.tuple hq
  refine call_set_tupI ns (I1.ok.hd calm) ⟨o, ho, hc, k, hd⟩ (by simpa using rv.ints) (by unfold scanBound; omega) fun h' tk c hS hc' keep => ?_
  refine PyProof.Rows.args_nil ?_
  obtain ⟨o2, es, ep, t2, h1, h2, h3, _, h5, h6, _, h8, h9, _⟩ := hS
  have I2 : Inv X pins σ H1 { s1 with heap := h', toks := tk } := I1.kept keep
  have m : ∀ x, x ∈ es.toList.map keyOf ↔ x ∈ ns := fun x => by
    rw [← h6 x]
    exact decide_eq_true_iff
  have cnt := MmT.count_nd h5 m
  rw [List.length_map, Array.length_toList, h9] at cnt
  exact call_len_set h1 h2 h3 h8 (by omega) ⟨.int (c : Int), H1, I2.tok _, ⟨_, by rw [h9]⟩, z1 c hc' cnt⟩
end
end L2

/-! enumerate of a tuple; calls in a try's body; isinstance of an exception without a dict -/
namespace EnT
open PySem
/-- the iterator of the tuple t, and the enumerate object over the iterator at i, both as they are made -/
def itO (t : Addr) : Obj := { cls := .type "tuple_iterator", data := .fields #[.ref t, .int 0 0] }
def enO (i : Addr) : Obj := { cls := .type "enumerate", data := .fields #[.none, .bool false, .ref i, rawInt 0, .none, .none] }
def made (g : Heap) (t : Addr) : Heap := (g.push (itO t)).push (enO g.objs.size)
theorem made_top (g : Heap) (t : Addr) : (g.push (itO t)).objs.size = g.objs.size + 1 := Heap.size_push ..
theorem made_en (g : Heap) (t : Addr) : (made g t).get? (g.objs.size + 1) = some (enO g.objs.size) :=
  made_top g t ▸ Heap.get?_push_size (g.push (itO t)) (o := enO g.objs.size) rfl
theorem made_it (g : Heap) (t : Addr) : (made g t).get? g.objs.size = some (itO t) := Heap.get?_push_of_some _ (Heap.get?_push_size _ rfl)
theorem made_old (g : Heap) (t b : Addr) (o : Obj) (h : g.get? b = some o) : (made g t).get? b = some o :=
  Heap.get?_push_of_some _ (Heap.get?_push_of_some _ h)
/-- what enumerate's __new__ does with a tuple -/
theorem new_does (t : Addr) (vs : Array Value) : Meets (Builtin.«enumerate.__new__» ⟨[.type "enumerate", .ref t], []⟩)
    (fun _ R s => s.heap.IsTuple t vs ∧ R (.ok (.ret (.ref (s.heap.objs.size + 1)))) { s with heap := made s.heap t }) :=
  Meets.of_wp fun P w A R s there => by
    cases s with
    | mk g gl dw tc ow =>
      obtain ⟨isT, goal⟩ := there
      rw [← made_top g t] at goal
      have sub1 := sub_enumerate
      have mk_it : ∀ {A1 : Around} {E1 Q1 : Value → Shared → Prop}, Q1 (.ref g.objs.size) ⟨g.push (itO t), gl, dw, tc, ow⟩ → wpAny (model P w) A1 (pyIter (.ref t)) Q1 E1 ⟨g, gl, dw, tc, ow⟩ :=
        fun q => wpAny_pyIter_tuple isT q
      wp_walk using mk_it
      refine wpAny_stack_any fun _ => wpAny_pure ?_
      split
      · next cls _ _ _ _ _ =>
        by_cases same : (cls == Value.type "enumerate") = true
        · rw [same]
          wp_walk using mk_it
          exact ⟨_, rfl, goal⟩
        · rw [Bool.eq_false_iff.mpr same]
          wp_walk using mk_it
          exact ⟨_, rfl, goal⟩
      · wp_walk using mk_it
        exact ⟨_, rfl, goal⟩
end EnT
namespace EnT
open PySem PySem.Spec PyProof.Rows L2
theorem call_does {P : Program} {w : World} {A : Around} {E Q : Value → Shared → Prop} {s : Shared} {t : Addr} {vs : Array Value} (isT : s.heap.IsTuple t vs) (goal : Q (.ref (s.heap.objs.size + 1)) { s with heap := made s.heap t }) :
    wpAny (model P w) A (call (.type "enumerate") [.ref t]) Q E s := by
  have top : Shared.TypeIs { s with heap := made s.heap t } (.ref (s.heap.objs.size + 1)) "enumerate" := ⟨_, made_en s.heap t, rfl⟩
  have done : (fun (_ : Around) (R : Result → Shared → Prop) (z : Shared) => z.heap.IsTuple t vs ∧ R (.ok (.ret (.ref (z.heap.objs.size + 1)))) { z with heap := made z.heap t }) A.in1
      (wants (fun obj z => z.TypeIs obj "enumerate" ∧ Q obj z) E) s := ⟨isT, top, goal⟩
  exact callType_new F.called_enumerate (by decide) (F.typeCall_enumerate_1 _) (F.newCall_enumerate_1 _) (fun o => F.args_object_init_2 o _)
    F.entry_enumerate_new (new_does t vs) done
theorem tup_ne {h : Heap} {i t : Addr} {n : Nat} {vs : Array Value} (a : h.IsTupleIter i t n) (b : h.IsTuple t vs) : t ≠ i := by
  intro same
  subst same
  obtain ⟨u, hu, cu, _⟩ := a
  obtain ⟨v, hv, cv, _⟩ := b
  cases hu.symm.trans hv
  exact absurd (Value.type.inj (cu.symm.trans cv)) (by decide)
theorem en_ne {h : Heap} {e i t : Addr} {c : Int} {old : Value} {vs : Array Value} (a : IsEnum h e i c old) (b : h.IsTuple t vs) : e ≠ t := by
  intro same
  subst same
  obtain ⟨v, hv, cv, _⟩ := b
  cases (show h.get? e = _ from a).symm.trans hv
  exact absurd (Value.type.inj cv) (by decide)
/-- what the enumerate object at e walks with: its tuple at t, the iterator at i -/
def Stands (e i t : Addr) (n : Nat) (h : Heap) : Prop := (∃ old, IsEnum h e i ((n : Nat) : Int) old) ∧ h.IsTupleIter i t n ∧ e ≠ i
/-- the tuple at t, each item behind its number in a new pair -/
def ItN (K : PySem.W.Frag) (t : Addr) : It where
  go := fun n H => ∃ xs x, SqT K H t xs ∧ xs[n]? = some x
  yld := fun n H v H2 => ∃ p x, v = .ref p ∧ H p = none ∧ H2 = upd H p (.tup [.int (n : Nat), x]) ∧ ∀ xs, SqT K H t xs → xs[n]? = some x
  stop := fun n H => ∃ xs : List V, SqT K H t xs ∧ xs.length = n
theorem turns {P : Program} {w : World} {K : PySem.W.Frag} {es : List Expr} {kk : Nat} {ps : Pos} (e i t : Addr) : Turn P w K (.Tuple es kk ps) (ItN K t) [e, i] e (Stands e i t) := by
  constructor
  · exact List.mem_cons_self
  · rintro n h ⟨⟨old, a⟩, ⟨u, hu, cu, du⟩, ne⟩ b hb
    rcases List.mem_cons.mp hb with rfl | hb
    · exact ⟨_, a, fun v q => by cases q⟩
    · rw [List.mem_singleton.mp hb]
      exact ⟨u, hu, fun v q => by rw [du] at q; cases q⟩
  · rintro n h h2 ⟨⟨old, a⟩, b, ne⟩ kp
    exact ⟨⟨old, kp e List.mem_cons_self _ a⟩, b.at fun o q => kp i (List.mem_cons_of_mem _ List.mem_cons_self) o q, ne⟩
  · rintro X rfl rfl rfl calm n pins s σ H E I apart ⟨⟨old, a⟩, b, ne⟩ ⟨xs, x, tx, hx⟩
    obtain ⟨vs, rel, isT, _⟩ := I.tuple tx
    have isT := tup_is isT
    obtain ⟨v, hv, rv⟩ := rel.get hx
    have hv2 : vs.toArray[n]? = some v := by rw [List.getElem?_toArray]; exact hv
    have lt := (Array.getElem?_eq_some_iff.mp hv2).1
    have away : e ∉ [i, t] := fun z => by
      rcases List.mem_cons.mp z with z | z
      · exact ne z
      · exact en_ne a isT (List.mem_singleton.mp z)
    have drawn := Draws.tuple (prog := X.prog) (w := X.w) (A := X.A.in1) (I.ok.hd calm) i t (tup_ne b isT) vs.toArray
    have W := WalksT.enumerateD drawn e ne away List.mem_cons_self
    refine W.item n s _ E lt ⟨⟨old, a⟩, b, isT⟩ ?_
    rintro p ws h1 tk ⟨tok, v2, g, rfl⟩ up there mid kp1
    cases hv2.symm.trans g
    refine ⟨_, rfl, W.go es kk ps n p { s with heap := h1, toks := tk } _ E mid ?_⟩
    rintro h2 ⟨⟨old2, a2⟩, b2, _⟩ kp2
    obtain ⟨op, hop, cp, c1, dp⟩ := there
    have free : H p = none := I.hok.fresh up
    have made : ObjOk X.prog X.w (upd H p (.tup [.int (n : Nat), x])) h2 p (.tup [.int (n : Nat), x]) := by
      refine ⟨?_, [.int n tok, v], .cons ⟨tok, rfl⟩ (.cons rv .nil), op, kp2 p op (W.apart n p h1 mid) hop, cp, c1, dp⟩
      show 2 ≤ sizeLine
      decide
    have I2 := I.turnedNew (t' := tk) (fun c o nc q => kp2 c o nc (kp1 c o nc q)) apart up made
    refine ⟨.ref p, _, I2, rfl, ⟨p, x, rfl, free, rfl, fun ys ty => by rw [I.tuple_inj ty tx]; exact hx⟩, ⟨⟨old2, a2⟩, b2, ne⟩, fun c hc => ?_⟩
    rw [upd_ne fun z => by
      obtain ⟨o, ho, _⟩ : ∃ o, s.heap.get? c = some o ∧ True := by
        rcases List.mem_cons.mp hc with rfl | hc
        · exact ⟨_, a, trivial⟩
        · rw [List.mem_singleton.mp hc]
          obtain ⟨o, ho, _⟩ := b
          exact ⟨o, ho, trivial⟩
      have := Heap.lt_size ho
      rw [z] at this
      exact absurd up (Nat.not_le.mpr this)]
    exact (apart c hc).1
  · rintro X rfl rfl rfl calm n pins s σ H E I apart ⟨⟨old, a⟩, b, ne⟩ ⟨xs, tx, len⟩
    obtain ⟨vs, rel, isT, _⟩ := I.tuple tx
    have isT := tup_is isT
    have away : e ∉ [i, t] := fun z => by
      rcases List.mem_cons.mp z with z | z
      · exact ne z
      · exact en_ne a isT (List.mem_singleton.mp z)
    have drawn := Draws.tuple (prog := X.prog) (w := X.w) (A := X.A.in1) (I.ok.hd calm) i t (tup_ne b isT) vs.toArray
    have W := WalksT.enumerateD drawn e ne away List.mem_cons_self
    have eq : n = vs.toArray.size := by rw [← len, rel.length, List.size_toArray]
    subst eq
    exact W.done s _ E ⟨⟨old, a⟩, b, isT⟩ fun h2 tk kp => ⟨rfl, I.turnedL kp apart⟩
  · rintro A n s Q E ⟨⟨old, a⟩, _⟩ goal
    exact wpAny_pyIter_enum a goal
def iNum (K : PySem.W.Frag) (ta : TA) : TI := fun σ H R => ta σ H fun vs H1 => ∃ t xs, vs = [.ref t] ∧ SqT K H1 t xs ∧ R (ItN K t) H1
theorem pi_enumT {X : Cx} {e : Expr} {ta : TA} {p pos tpos : Pos} {es : List Expr} {kk : Nat} (g : Gl X "enumerate") (free : X.mg "enumerate" = none) (arg : PA X [e] ta) (one : starEach [e] X.env = [(false, eval e X.env)] := by rfl) :
    PI X (.Tuple es kk tpos) (.Call (.Name "enumerate" p) [e] [] pos) (iNum X.K ta) := by
  constructor
  intro pins s σ H R I had
  refine Call_ (ld_blt I g free boot_enumerate ?_)
  refine PyProof.Rows.callWith_type1 ?_ one rfl
  refine thn (arg.run pos pins s σ H _ I had) ?_
  rintro us s1 ⟨vs, H1, I1, rel, t, xs, rfl, tx, goal⟩
  obtain ⟨u, rfl, ru⟩ := vals1 rel
  cases (show u = Value.ref t from ru)
  obtain ⟨ws, _, isT, _⟩ := I1.tuple tx
  refine call_does (tup_is isT) (wpAny_pyIter_enum (made_en s1.heap t) ?_)
  have I2 : Inv X pins σ H1 { s1 with heap := made s1.heap t } := I1.kept (t' := s1.toks) fun b o q => made_old s1.heap t b o q
  refine ⟨_, _, _, _, H1, rfl, I2, turns (s1.heap.objs.size + 1) s1.heap.objs.size t, ⟨⟨.none, made_en s1.heap t⟩, ⟨_, made_it s1.heap t, rfl, rfl⟩, Nat.succ_ne_self _⟩, fun b hb => ?_, goal⟩
  have up : s1.heap.objs.size ≤ b := by
    rcases List.mem_cons.mp hb with rfl | hb
    · exact Nat.le_succ _
    · rw [List.mem_singleton.mp hb]
      exact Nat.le_refl _
  exact I1.fpOk up (I1.hok.fresh up)
theorem walk_enumT {K : PySem.W.Frag} {t : Addr} {xs : List V} : Walk (ItN K t) xs.length (fun H => SqT K H t xs) (YPair (fun n => some (.int (n : Nat))) (fun n => xs[n]?)) where
  goes := fun n _ lt q => ⟨xs, xs[n], q, List.getElem?_eq_getElem lt⟩
  stops := fun _ q => ⟨xs, q, rfl⟩
  yields := fun n _ _ _ _ q y => by
    obtain ⟨p, x, a, b, c, d⟩ := y
    exact ⟨p, .int (n : Nat), x, a, b, c, rfl, d xs q⟩
end EnT
namespace L2
open PySem PySem.Spec PyProof.Rows
/-- isinstance(e, c), e the exception that the suite holds, with a dict or without -/
def rIsS2 (K : PySem.W.Frag) (a : Addr) (cls : Value) (d : Option Addr) : List V → Hp → VK → Prop := fun xs H Q => ∃ (C : Addr) (c : V) (u : Value) (b : Bool), xs = [.ref a, c] ∧ cls = .ref C ∧ (d = none ∨ ∃ dd fs, d = some dd ∧ H dd = some (.xd fs)) ∧
  ExcC K C ∧ ClsV c u ∧ PySem.W.kitOne K (.ref C) u = some b ∧ Q (.bl b) H
theorem call_isS2 {X : Cx} {K : PySem.W.Frag} {a : Addr} {cls : Value} {d : Option Addr} {oe : Obj} {pn : List (Addr × Obj)} (hK : X.K = K) (hz : Zc cls d oe) (hf : ∃ vs, oe.data = .fields vs) : CallR (X.suite a ((a, oe) :: pn)) (.builtin "isinstance") (rIsS2 K a cls d) := by
  rintro pins s σ H _ us Q I rel ⟨C, c, u, b, rfl, rfl, kind, D, isC, ans, goal⟩
  rcases kind with rfl | ⟨dd, fs, rfl, there⟩
  · have E : CallR (X.suite a ((a, oe) :: pn)) (.builtin "isinstance") (rIsE X.K C a) := call_isE (hK ▸ D) hz hf
    exact E pins s σ H _ us Q I rel ⟨c, u, b, rfl, fun v q => isC.eq q, hK ▸ ans, goal⟩
  · exact call_isS hK hz hf pins s σ H _ us Q I rel ⟨C, dd, fs, c, u, b, rfl, rfl, rfl, there, D, isC, ans, goal⟩
theorem call_tuple_ofK {X : Cx} {K : PySem.W.Frag} (h : X.K = K) : CallR X (.type "tuple") (fun xs H Q => ∃ p ys, xs = [.ref p] ∧ ((SqL K H p ys ∧ ∀ l, H l = none → Q (.ref l) (upd H l (.tup ys))) ∨ (SqT K H p ys ∧ Q (.ref p) H))) := by
  subst h
  exact call_tuple_of
theorem call_list_ofK {X : Cx} {K : PySem.W.Frag} (h : X.K = K) : CallR X (.type "list") (fun xs H Q => ∃ p ys, xs = [.ref p] ∧ (SqL K H p ys ∨ SqT K H p ys) ∧ ∀ l, H l = none → Q (.ref l) (upd H l (.lst ys))) := by
  subst h
  exact call_list_of
end L2
namespace RZ
open PySem PySem.Spec PyProof.Rows L2
theorem walk_zipT {K : PySem.W.Frag} {a b : Addr} {xs ys : List V} {n : Nat} (hn : n = min xs.length ys.length) : Walk (ItzT K a b) n (fun H => SqT K H a xs ∧ SqT K H b ys) (YPair (fun i => xs[i]?) (fun i => ys[i]?)) where
  goes := fun i _ lt q => ⟨xs, ys, xs[i]'(by omega), ys[i]'(by omega), q.1, q.2, List.getElem?_eq_getElem _, List.getElem?_eq_getElem _⟩
  stops := fun _ q => ⟨xs, ys, q.1, q.2, by omega⟩
  yields := fun i _ _ _ _ q y => by
    obtain ⟨p, x, z, a1, a2, a3, a4, a5⟩ := y
    exact ⟨p, x, z, a1, a2, a3, a4 xs q.1, a5 ys q.2⟩
end RZ

/-! defs with a star parameter and keyword-only ones behind it, called with keywords -/
namespace StK
open PySem PySem.Spec PyProof.Rows L2 StX
/-- a def called with values and with keywords named ks, told of the values alone -/
def FnK (P : Program) (w : World) (K : PySem.W.Frag) (mg : Str → Option Value) (base : Heap) (CX : CXT) (k : Nat) (f : Addr) (ks : List Str) (sp : List V → List V → Hp → VK → XK → Prop) : Prop :=
  ∀ (A : Around) (outer : List Env) (s : Shared) (H : Hp) (us ws : List Value) (vs zs : List V) (Q : VK) (E : XK),
    Room k A → Env0 P w K mg base A outer s H → Vals vs us → Vals zs ws → zs.length = ks.length → sp vs zs H Q E →
      codeAny (model P w) A (.call (.ref f) ⟨us, ks.zip ws⟩) (CR CX outer P w H s Q E) s
section
variable {CX : CXT} {P : Program} {w : World} {K : PySem.W.Frag} {mg : Str → Option Value} {base : Heap} {k n : Nat} {f : Addr} {name qual : Str} {params : Arguments} {body : List Stmt} {scope : Scope} {dV kV doc pm cdv ct oc : Value} {an od : Option Addr}
  {osl : Array (Option Value)} {N ps ks : List Str} {sp : Sp}
theorem FnK.mono {j : Nat} {q : List V → List V → Hp → VK → XK → Prop} (F : FnK P w K mg base CX j f ks q) (h : j ≤ k) : FnK P w K mg base CX k f ks q :=
  fun A outer s H us ws vs zs Q E room => F A outer s H us ws vs zs Q E (room.mono h)
/-- def f(a, .., *v, k): n values ahead, the rest in a new tuple, each keyword written -/
theorem fn_starK {pv : Str} (at_ : K.lookup f = some ⟨oc, od, .func (PySem.W.fnOf name qual params body scope dV kV doc pm an cdv ct), osl⟩) (code : PySem.W.codeIn K cdv qual = true) (S : FnScope N (ps ++ [pv]) scope) (up : CXUp CX) (hps : ps.length = n + ks.length)
    (bind : ∀ us rest ws : List Value, us.length = n → ws.length = ks.length → bindArgs (PySem.W.fnOf name qual params body scope dV kV doc pm an cdv ct) ⟨us ++ rest, ks.zip ws⟩ = (newTuple rest >>= fun t => pure (ps.zip (us ++ ws) ++ [(pv, t)])))
    (run : ∀ (A : Around) (outer : List Env) (s : Shared) (H : Hp) (vs : List V) (Q : VK) (E : XK), Room k (A.deeper (envOfC qual scope s.heap.objs.size f cdv)) → sp vs H Q E →
      ∃ t, PSs (cxOf CX P w K mg base N qual scope f cdv A outer s H E) body t ∧ t { nx := fun _ H' => Q .non H', rt := Q } (start N vs) H) :
    FnK P w K mg base CX (k + 1) f ks (fun vs zs H Q E => ∃ hd rest, vs = hd ++ rest ∧ hd.length = n ∧ rest.length ≤ sizeLine ∧ ∀ p, H p = none → sp ((hd ++ zs) ++ [V.ref p]) (upd H p (.tup rest)) Q E) := by
  rintro A outer s H us ws vs zs Q E room env rv rz lz ⟨hd, rest, rfl, lh, small, goes⟩
  obtain ⟨u1, u2, rfl, r1, r2⟩ := vals_split rv
  have free : H s.heap.objs.size = none := env.hok.fresh (Nat.le_refl _)
  have l1 : u1.length = n := r1.length.symm.trans lh
  have lw : ws.length = ks.length := rz.length.symm.trans lz
  have few : u2.length ≤ sizeLine := by
    rw [← r2.length]
    exact small
  let here : Obj := { cls := .type "tuple", data := .seq u2.toArray }
  refine run_bnd at_ code S room env (G := fun xs G => ∃ p, H p = none ∧ xs = (hd ++ zs) ++ [V.ref p] ∧ G = upd H p (.tup rest)) (fun A' Ex Q' told => ?_) ?_
  · rw [bind u1 u2 ws l1 lw]
    refine wpAny_bind (wpAny_newTuple (wpAny_pure ?_) few)
    have laid : ObjOk P w (upd H s.heap.objs.size (.tup rest)) (s.heap.push here) s.heap.objs.size (.tup rest) := ⟨small, u2, r2, _, Heap.get?_push_size _ rfl, rfl, _, rfl⟩
    have un : Un (frs outer) [] H (upd H s.heap.objs.size (.tup rest)) s.heap (s.heap.push here) := un_laid free
    have len : ((hd ++ zs) ++ [V.ref s.heap.objs.size]).length = (ps ++ [pv]).length := by
      rw [List.length_append, List.length_append, List.length_append, lh, lz, hps]
      rfl
    have got := told _ _ ((hd ++ zs) ++ [V.ref s.heap.objs.size]) ((u1 ++ ws) ++ [Value.ref s.heap.objs.size]) (env0_laid env laid) un rfl
      (fun e s' => up outer s H _ _ E e s' un (fun b o q => Heap.get?_push_of_some _ q) rfl) ((r1.append rz).append (.cons rfl .nil)) len ⟨_, free, rfl, rfl⟩
    have cut : ps.length = (u1 ++ ws).length := by rw [List.length_append, l1, lw, hps]
    rw [List.zip_append cut] at got
    exact got
  · rintro s2 _ _ ⟨p, hp, rfl, rfl⟩ room'
    exact run A outer s2 _ _ Q E room' (goes p hp)
end
section
variable {X : Cx} {CX : CXT} {k : Nat} {f : Addr} {ks : List Str} {q : List V → List V → Hp → VK → XK → Prop} {E : XK} {x : Str} {p pos : Pos} {e : Expr} {es : List Expr} {kws : List Keyword} {t tk : TA}
def tCallFK (q : List V → List V → Hp → VK → XK → Prop) (n : Nat) (E : XK) (t tk : TA) : TE := fun σ H Q => t σ H fun vs H1 => tk σ H1 fun zs H2 => zs.length = n ∧ q vs zs H2 Q E
/-- f(e, .., k = v) of such a def -/
theorem pe_callFK (F : FnK X.prog X.w X.K X.mg X.base CX k f ks q) (room : Room k X.A) (gl : Gl X x) (there : X.mg x = some (.ref f)) (kp : PySem.W.keepIn X.K (.ref f) = true) (pass : Passes CX X E)
    (ha : PA X (e :: es) t) (hk : PK X kws tk) (each : (backToKw pos (keywordEach kws X.env)).all (·.1.isSome) = true := by rfl) (names : (backToKw pos (keywordEach kws X.env)).filterMap (·.1) = ks := by rfl)
    (nd : (x == ("__debug__" : Str)) = false := by decide) (st : starEach (e :: es) X.env = (false, eval e X.env) :: starEach es X.env := by rfl)
    (pl : ((backTo pos (starEach (e :: es) X.env)).any (·.1) || (backToKw pos (keywordEach kws X.env)).any (·.1.isNone)) = false := by rfl) :
    PE X (.Call (.Name x p) (e :: es) kws pos) (tCallFK q ks.length E t tk) := by
  refine ⟨fun pins s σ H Q I h => wpAny_Call_Name_kw (ld_glob I gl there ?_ nd)⟩
  refine PySem.W.callWith_KW (h₀ := X.base) I.ok.mod.kin kp each (thn (ha.run pos pins s σ H _ I h) ?_) pl st
  rintro us s1 ⟨vs, H1, I1, r, g1⟩
  refine thn (hk.run pos pins s1 σ H1 _ I1 g1) ?_
  rintro ws s2 ⟨zs, H2, I2, rz, lz, g2⟩
  refine ⟨I2.kIn, ?_⟩
  rw [names]
  refine wpAny_call (codeAny_mono (F X.A X.stack s2 H2 us ws vs zs Q E room I2.env0 r rz lz g2) fun out s' h' => ?_)
  match out, h' with
  | .error e, h' => exact pass pins σ H2 s2 e s' I2 h'
  | .ok (.ret u), h' => exact I2.after h'
  | .ok .next, h' => exact h'.elim
  | .ok .brk, h' => exact h'.elim
  | .ok .cont, h' => exact h'.elim
end
end StK

/-! an own object made within an except suite; a class that a local name holds, called with keywords -/
namespace MkH
open PySem PySem.Spec PyProof.Rows L2 L2H
section
variable {X : Cx} {CX : CXT} {k : Nat} {f C : Addr} {fd : FuncData} {ps : List Str} {sp : Sp} {x : Str} {p pos : Pos} {dvs : List V} {ds : List Value}
/-- C(): all that __init__ takes has defaults -/
theorem pe_make0H (M : Mk X.K C f) (F : FnH X.prog X.w X.K X.mg X.base CX k f fd ps sp) (room : RoomH (k + 1) X.A) (hot : HotC X) (b : Binds X.K fd ps ds) (d : Vals dvs ds) (pass : Passes CX X (fun _ _ _ => False)) (g : Gl X x) (m : X.mg x = some (.ref C))
    (nodebug : (x == ("__debug__" : Str)) = false := by decide) : PE X (.Call (.Name x p) [] [] pos) (tMake C sp dvs (fun _ _ _ => False) tNil) := by
  constructor
  intro pins s σ H Q I had
  obtain ⟨pn, h1, mem⟩ := hot
  refine wpAny_Call_Name_kw (ld_glob I g m ?_ nodebug)
  refine PySem.W.callWith_K0 I.kIn M.kp ?_
  have free : ∀ c, s.heap.objs.size ≤ c → H c = none := fun c le => I.hok.fresh le
  have had1 := had (s.heap.objs.size + 1) s.heap.objs.size (free _ (Nat.le_succ _)) (free _ (Nat.le_refl _)) (Nat.ne_of_lt (Nat.lt_succ_self _))
  have I2 := Inv.made I (C := C)
  have rel : Vals (V.ref (s.heap.objs.size + 1) :: ([] ++ dvs)) (Value.ref (s.heap.objs.size + 1) :: ([] ++ ds)) := .cons rfl d
  have len : ([Value.ref (s.heap.objs.size + 1)] ++ ds).length = ps.length := by
    rw [← F.len _ _ _ _ had1]
    exact rel.length.symm
  have at2 := I2.pin pn (List.mem_append_left _ mem)
  refine wpAny_call (make_map (f := f) I.kIn M.makes M.init (beq_iff_eq.mp M.fn) (codeAny_mono (F.run _ X.stack _ _ ⟨[Value.ref (s.heap.objs.size + 1)], []⟩ ([Value.ref (s.heap.objs.size + 1)] ++ ds) _ _ (fun _ _ _ => False) pn
    (RoomH.make room C [] []) ⟨h1.1, h1.2⟩ ⟨at2.1, at2.2.1, fun z => ?_, at2.2.2.2.2⟩ (I2.env0.make C [] []) (b _ [Value.ref (s.heap.objs.size + 1)] I2.kIn len) rel had1) fun r s2 told => ?_))
  · rcases List.mem_cons.mp (I2.stkSub pn.1 z) with z | z
    · exact at2.2.2.1 z
    · exact at2.2.2.2.1 z
  · match r, told with
    | .error e, told => exact pass pins σ _ _ e s2 I2 told
    | .ok (.ret u), told =>
      obtain ⟨v, H2, I3, ru, rfl, q⟩ := I2.after told
      exact ⟨ru, V.ref (s.heap.objs.size + 1), H2, I3, rfl, q⟩
    | .ok .next, told => exact told.elim
    | .ok .brk, told => exact told.elim
    | .ok .cont, told => exact told.elim
end
section
variable {X : Cx} {CX : CXT} {k i : Nat} {f C : Addr} {fd : FuncData} {ps ks : List Str} {sp : Sp} {E : XK} {x : Str} {p pos : Pos} {kws : List Keyword} {tk : TA} {gb : List Value → List Value → List Value} {gV : List V → List V → List V}
/-- the i-th slot holds the class C: name(k = v, ..) -/
def tMakeL (i : Nat) (C : Addr) (m : Nat) (sp : Sp) (gV : List V → List V → List V) (E : XK) (tk : TA) : TE := fun σ H Q => σ[i]? = some (some (.ref C)) ∧ tMakeK C 0 m sp gV E tNil tk σ H Q
theorem pe_makeL (M : Mk X.K C f) (F : FnOk X.prog X.w X.K X.mg X.base CX k f fd ps sp) (room : Room (k + 1) X.A) (at_ : X.N[i]? = some x) (vis : Vis X.env.scope x) (b : KBn X.K fd ps 1 ks gb gV) (pass : Passes CX X E) (kw : PK X kws tk)
    (hall : (backToKw pos (keywordEach kws X.env)).all (·.1.isSome) = true := by rfl) (hks : (backToKw pos (keywordEach kws X.env)).filterMap (·.1) = ks := by rfl) (d1 : (x == ("__debug__" : Str)) = false := by decide) (d2 : (x == ("__classdict__" : Str)) = false := by decide)
    (star : ((backTo pos (starEach [] X.env)).any (·.1) ||
      (backToKw pos (keywordEach kws X.env)).any (·.1.isNone)) = false := by rfl) :
    PE X (.Call (.Name x p) [] kws pos) (tMakeL i C ks.length sp gV E tk) := by
  constructor
  rintro pins s σ H Q I ⟨slot, had⟩
  refine wpAny_Call_Name_kw (thn ((pe_var (pos := p) at_ vis d1 d2).run pins s σ H (fun v G => v = .ref C ∧ G = H) I ⟨.ref C, slot, rfl, rfl⟩) ?_)
  rintro u s1 ⟨v, G, I1, rv, rfl, rfl⟩
  cases (show u = Value.ref C from rv)
  refine PySem.W.callWith_KW0 (h₀ := X.base)
    I.ok.mod.kin M.kp hall ?_ star
  refine thn (kw.run pos pins s1 σ G _ I1 had) ?_
  rintro ws s2 ⟨zs, G2, I2, rz, l1, l2, q⟩
  rw [hks]
  exact ⟨I2.kIn, run_makeK (us := []) (vs := []) M F room b pass I2 .nil rz rfl l2 q⟩
end
end MkH

/-! calls of methods that may raise: what they raise goes on -/
namespace MkS
open PySem PySem.Spec PyProof.Rows L2
section
variable {X : Cx} {CX : CXT} {k : Nat} {f C : Addr} {fd : FuncData} {ps : List Str} {sp : Sp} {E : L2.St → XK} {m : Str} {pos apos : Pos} {e o : Expr} {es : List Expr} {ta : TE} {t : TA} {pl : Sem Bool}
/-- o.m(e, ..) -/
theorem pe_methS (he : PE X o ta) (c : Cls X.K C) (hm : Meth X.K C m f) (F : FnOk X.prog X.w X.K X.mg X.base CX k f fd ps sp) (room : Room k X.A) (b : Binds X.K fd ps []) (pass : ∀ σ, PassesAt CX X σ (E σ)) (ha : PA X (e :: es) t)
    (one : starEach (e :: es) X.env = (false, eval e X.env) :: starEach es X.env := by rfl) (more : (backTo pos (starEach es X.env)).any (·.1) = false := by rfl)
    (road : eval (.Call (.Attribute o m apos) (e :: es) [] pos) X.env = (do
      let it ← eval o X.env
      standAt apos.atName
      let (fn, self) ← holding [it] (getMethod it m pl)
      callWith pos fn self (backTo pos (starEach (e :: es) X.env)) (backToKw pos (keywordEach [] X.env))) := by rfl) :
    PE X (.Call (.Attribute o m apos) (e :: es) [] pos) (L2H.tMethH C m sp E ta t) := by
  constructor
  intro pins s σ H Q I had
  refine PySem.W.methodCall_KW (pl := pl) (thn (he.run pins s σ H _ I had) ?_) road
  rintro u s1 ⟨x, H1, I1, ru, a, dx, fs, rfl, at_, no, q⟩
  cases (show u = Value.ref a from ru); skip
  refine getmeth_ok I1 at_ c hm no (PySem.W.callWith_K (first := [.ref a]) (h₀ := X.base) I.ok.mod.kin hm.kp (thn (ha.run pos pins s1 σ H1 _ I1 q) ?_) one more)
  rintro us s2 ⟨vs, H2, I2, r, q2⟩
  exact ⟨I2.kIn, run_fnS (us := .ref a :: us) (vs := .ref a :: vs) F room b (pass σ) I2 (.cons rfl r) q2⟩
end
section
variable {X : Cx} {CX : CXT} {k n : Nat} {f C : Addr} {fd : FuncData} {ps ks : List Str} {sp : Sp} {E : L2.St → XK} {x : Str} {p pos : Pos} {kws : List Keyword} {tk : TA} {gb : List Value → List Value → List Value} {gV : List V → List V → List V}
/-- a new object by keywords, its __init__ may raise -/
theorem run_makeS {pins : List (Addr × Obj)} {σ : L2.St} {H : Hp} {s : Shared} {Q : VK} {ws : List Value} {zs : List V} (M : Mk X.K C f) (F : FnOk X.prog X.w X.K X.mg X.base CX k f fd ps sp) (room : Room (k + 1) X.A) (b : KBn X.K fd ps 1 ks gb gV) (pass : PassesAt CX X σ (E σ))
    (I : Inv X pins σ H s) (rz : Vals zs ws) (lz : zs.length = ks.length)
    (had : ∀ c dx, H c = none → H dx = none → dx ≠ c → sp (gV [.ref c] zs) (upd (upd H dx (.own c)) c (.ins C dx [])) (fun v G => v = .non ∧ Q (.ref c) G) (E σ)) :
    wpAny (model X.prog X.w) X.A (call (.ref C) [] (ks.zip ws)) (EP X pins σ Q) X.xe s := by
  have free : ∀ c, s.heap.objs.size ≤ c → H c = none := fun c le => I.hok.fresh le
  have had1 := had (s.heap.objs.size + 1) s.heap.objs.size (free _ (Nat.le_succ _)) (free _ (Nat.le_refl _)) (Nat.ne_of_lt (Nat.lt_succ_self _))
  have I2 := Inv.made I (C := C)
  have self : Vals [V.ref (s.heap.objs.size + 1)] [Value.ref (s.heap.objs.size + 1)] := .cons rfl .nil
  refine wpAny_call (make_map (f := f) I.kIn M.makes M.init (beq_iff_eq.mp M.fn) (codeAny_mono (F.run _ X.stack _ _ ⟨[Value.ref (s.heap.objs.size + 1)], ks.zip ws⟩ (gb [Value.ref (s.heap.objs.size + 1)] ws) _ _ (E σ) (room.make C [] (ks.zip ws))
    (I2.env0.make C [] (ks.zip ws)) (b.to _ _ ws I2.kIn rfl (rz.length.symm.trans lz)) (b.rel self rz) had1) fun r s2 told => ?_))
  match r, told with
  | .error e, told => exact pass pins _ _ e s2 I2 told
  | .ok (.ret u), told =>
    obtain ⟨v, G, I3, ru, rfl, q⟩ := I2.after told
    exact ⟨ru, V.ref (s.heap.objs.size + 1), G, I3, rfl, q⟩
  | .ok .next, told => exact told.elim
  | .ok .brk, told => exact told.elim
  | .ok .cont, told => exact told.elim
/-- C(k = v, ..) -/
def tMakeS (C : Addr) (m : Nat) (sp : Sp) (gV : List V → List V → List V) (E : L2.St → XK) (tk : TA) : TE := fun σ H Q => tk σ H fun zs G => zs.length = m ∧ ∀ c dx, G c = none → G dx = none → dx ≠ c →
  sp (gV [.ref c] zs) (upd (upd G dx (.own c)) c (.ins C dx [])) (fun v G2 => v = .non ∧ Q (.ref c) G2) (E σ)
theorem pe_makeS (M : Mk X.K C f) (F : FnOk X.prog X.w X.K X.mg X.base CX k f fd ps sp) (room : Room (k + 1) X.A) (g : Gl X x) (m : X.mg x = some (.ref C)) (b : KBn X.K fd ps 1 ks gb gV) (pass : ∀ σ, PassesAt CX X σ (E σ)) (kw : PK X kws tk)
    (hall : (backToKw pos (keywordEach kws X.env)).all (·.1.isSome) = true := by rfl) (hks : (backToKw pos (keywordEach kws X.env)).filterMap (·.1) = ks := by rfl) (nodebug : (x == ("__debug__" : Str)) = false := by decide)
    (star : ((backTo pos (starEach [] X.env)).any (·.1) ||
      (backToKw pos (keywordEach kws X.env)).any (·.1.isNone)) = false := by rfl) :
    PE X (.Call (.Name x p) [] kws pos) (tMakeS C ks.length sp gV E tk) := by
  constructor
  intro pins s σ H Q I had
  refine wpAny_Call_Name_kw (ld_glob I g m ?_ nodebug)
  refine PySem.W.callWith_KW0 (h₀ := X.base) I.ok.mod.kin M.kp hall (thn (kw.run pos pins s σ H _ I had) ?_) star
  rintro ws s2 ⟨zs, G2, I2, rz, lz, q⟩
  rw [hks]
  exact ⟨I2.kIn, run_makeS M F room b (pass σ) I2 rz lz q⟩
end
end MkS

/-! a call of a class method that may raise -/
namespace MkS
open PySem PySem.Spec PyProof.Rows L2 ClX
section
variable {X : Cx} {CX : CXT} {k : Nat} {C p g : Addr} {mc : Value} {fd : FuncData} {ps : List Str} {sp : Sp} {E : L2.St → XK} {m : Str} {pos apos : Pos} {o e : Expr} {es : List Expr} {to : TE} {t : TA} {pl : Sem Bool}
def tCMethS (C : Addr) (sp : Sp) (E : L2.St → XK) (to : TE) (t : TA) : TE := fun σ H Q => to σ H fun x G => x = .ref C ∧ t σ G fun zs G2 => sp (.ref C :: zs) G2 Q (E σ)
/-- K.m(e, ..) -/
theorem pe_cmethS (he : PE X o to) (r : CRead X.K C mc) (c : CMet X.K C mc m p g) (F : FnOk X.prog X.w X.K X.mg X.base CX k g fd ps sp) (room : Room k X.A) (b : Binds X.K fd ps []) (pass : ∀ σ, PassesAt CX X σ (E σ)) (ha : PA X (e :: es) t)
    (one : starEach (e :: es) X.env = (false, eval e X.env) :: starEach es X.env := by rfl) (more : (backTo pos (starEach es X.env)).any (·.1) = false := by rfl)
    (road : eval (.Call (.Attribute o m apos) (e :: es) [] pos) X.env = (do
      let it ← eval o X.env
      standAt apos.atName
      let (fn, self) ← holding [it] (getMethod it m pl)
      callWith pos fn self (backTo pos (starEach (e :: es) X.env)) (backToKw pos (keywordEach [] X.env))) := by rfl) :
    PE X (.Call (.Attribute o m apos) (e :: es) [] pos) (tCMethS C sp E to t) := by
  constructor
  intro pins s σ H Q I had
  refine PySem.W.methodCall_KW (pl := pl) (thn (he.run pins s σ H _ I had) ?_) road
  rintro u s1 ⟨x, G, I1, ru, rfl, q⟩
  cases (show u = Value.ref C from ru)
  refine getmethcm_ok I1 r c ?_
  intro s2 I2
  refine callwith_cm I2 (base_none I1 (Nat.le_refl _)) c.fi (thn (ha.run pos _ s2 σ G _ I2 q) ?_) one more
  rintro us s3 ⟨zs, G2, I3, rz, q2⟩
  refine ⟨⟨pin_at I3, I3.kIn⟩, ?_⟩
  have both : Vals (V.ref C :: zs) (Value.ref C :: us) := .cons rfl rz
  have len : (Value.ref C :: us).length = ps.length := both.length.symm.trans (F.len _ _ _ _ q2)
  have args := b s3 (.ref C :: us) I3.kIn (by rw [List.append_nil]; exact len)
  rw [List.append_nil] at args
  have z : wpAny (model X.prog X.w) X.A (call (.ref s1.heap.objs.size) us) (EP X ((s1.heap.objs.size, PySem.W.methodObj (.ref g) (.ref C)) :: pins) σ Q) X.xe s3 := by
    refine wpAny_call (PySem.W.method_call (pin_at I3) (codeAny_mono (F.run X.A X.stack s3 G2 ⟨.ref C :: us, []⟩ (.ref C :: us) (.ref C :: zs) Q (E σ) room I3.env0 args both q2) ?_))
    intro r s4 told
    match r, told with
    | .error e, told => exact pass σ _ _ _ e s4 I3 told
    | .ok (.ret u), told => exact I3.after told
    | .ok .next, told => exact told.elim
    | .ok .brk, told => exact told.elim
    | .ok .cont, told => exact told.elim
  exact thn z fun _ _ told => unpinE told
end
end MkS

/-! more calls that may raise: a method without arguments, a class in a local name; a def with defaults where an exception is handled -/
namespace MkS
open PySem PySem.Spec PyProof.Rows L2
section
variable {X : Cx} {CX : CXT} {k : Nat} {f C : Addr} {fd : FuncData} {ps : List Str} {sp : Sp} {E : L2.St → XK} {m : Str} {pos apos : Pos} {o : Expr} {ta : TE} {pl : Sem Bool}
/-- o.m() -/
def tMethS0 (C : Addr) (m : Str) (sp : Sp) (E : L2.St → XK) (ta : TE) : TE := fun σ H Q => ta σ H fun x H1 => ∃ a dx fs, x = .ref a ∧ H1 a = some (.ins C dx fs) ∧ fs.lookup m = none ∧ sp [.ref a] H1 Q (E σ)
theorem pe_methS0 (he : PE X o ta) (c : Cls X.K C) (hm : Meth X.K C m f) (F : FnOk X.prog X.w X.K X.mg X.base CX k f fd ps sp) (room : Room k X.A) (b : Binds X.K fd ps []) (pass : ∀ σ, PassesAt CX X σ (E σ))
    (road : eval (.Call (.Attribute o m apos) [] [] pos) X.env = (do
      let it ← eval o X.env
      standAt apos.atName
      let (fn, self) ← holding [it] (getMethod it m pl)
      callWith pos fn self (backTo pos (starEach [] X.env)) (backToKw pos (keywordEach [] X.env))) := by rfl) :
    PE X (.Call (.Attribute o m apos) [] [] pos) (tMethS0 C m sp E ta) := by
  constructor
  intro pins s σ H Q I had
  refine PySem.W.methodCall_KW (pl := pl) (thn (he.run pins s σ H _ I had) ?_) road
  rintro u s1 ⟨x, H1, I1, ru, a, dx, fs, rfl, at_, no, q⟩
  cases (show u = Value.ref a from ru); skip
  refine getmeth_ok I1 at_ c hm no (PySem.W.callWith_K0 (first := [.ref a]) I1.kIn hm.kp ?_)
  exact run_fnS (us := [.ref a]) (vs := [.ref a]) F room b (pass σ) I1 (.cons rfl .nil) q
end
section
variable {X : Cx} {CX : CXT} {k i : Nat} {f C : Addr} {fd : FuncData} {ps ks : List Str} {sp : Sp} {E : L2.St → XK} {x : Str} {p pos : Pos} {kws : List Keyword} {tk : TA} {gb : List Value → List Value → List Value} {gV : List V → List V → List V}
/-- the i-th slot holds the class C: name(k = v, ..), its __init__ may raise -/
def tMakeLS (i : Nat) (C : Addr) (m : Nat) (sp : Sp) (gV : List V → List V → List V) (E : L2.St → XK) (tk : TA) : TE := fun σ H Q => σ[i]? = some (some (.ref C)) ∧ tMakeS C m sp gV E tk σ H Q
theorem pe_makeLS (M : Mk X.K C f) (F : FnOk X.prog X.w X.K X.mg X.base CX k f fd ps sp) (room : Room (k + 1) X.A) (at_ : X.N[i]? = some x) (vis : Vis X.env.scope x) (b : KBn X.K fd ps 1 ks gb gV) (pass : ∀ σ, PassesAt CX X σ (E σ)) (kw : PK X kws tk)
    (hall : (backToKw pos (keywordEach kws X.env)).all (·.1.isSome) = true := by rfl) (hks : (backToKw pos (keywordEach kws X.env)).filterMap (·.1) = ks := by rfl) (d1 : (x == ("__debug__" : Str)) = false := by decide) (d2 : (x == ("__classdict__" : Str)) = false := by decide)
    (star : ((backTo pos (starEach [] X.env)).any (·.1) ||
      (backToKw pos (keywordEach kws X.env)).any (·.1.isNone)) = false := by rfl) :
    PE X (.Call (.Name x p) [] kws pos) (tMakeLS i C ks.length sp gV E tk) := by
  constructor
  rintro pins s σ H Q I ⟨slot, had⟩
  refine wpAny_Call_Name_kw (thn ((pe_var (pos := p) at_ vis d1 d2).run pins s σ H (fun v G => v = .ref C ∧ G = H) I ⟨.ref C, slot, rfl, rfl⟩) ?_)
  rintro u s1 ⟨v, G, I1, rv, rfl, rfl⟩
  cases (show u = Value.ref C from rv)
  refine PySem.W.callWith_KW0 (h₀ := X.base)
    I.ok.mod.kin M.kp hall ?_ star
  refine thn (kw.run pos pins s1 σ G _ I1 had) ?_
  rintro ws s2 ⟨zs, G2, I2, rz, lz, q⟩
  rw [hks]
  exact ⟨I2.kIn, run_makeS M F room b (pass σ) I2 rz lz q⟩
end
end MkS
namespace L2
open PySem PySem.Spec PyProof.Rows
section
variable {P : Program} {w : World} {K : PySem.W.Frag} {mg : Str → Option Value} {base : Heap}
/-- a def with defaults called where an exception is handled, lets none out -/
theorem FunD.okH {x qual : Str} {params : Arguments} {body : List Stmt} {scope : Scope} {dvs : List V} {kws : List (Str × V)} {f : Addr} {fd : FuncData} {N ps : List Str} {k : Nat} {sp : Sp} (F : FunD K x qual params body scope dvs kws f fd) (S : FnScope N ps scope) (len : ∀ vs H Q E, sp vs H Q E → vs.length = ps.length)
    (walk : ∀ (cdv : Value) (A : Around) (outer : List Env) (s : Shared) (H : Hp) (vs : List V) (Q : VK) (E : XK) (p : Addr × Obj), L2H.Hot1 A p → L2H.RoomH k (A.deeper (envOfC qual scope s.heap.objs.size f cdv)) → sp vs H Q E →
      ∃ t, PSs (L2H.cxH CX0 P w K mg base N qual scope f cdv A outer s H E p).nox body t ∧ t { nx := fun _ H' => Q .non H', rt := Q } (start N vs) H) : L2H.FnH P w K mg base CX0 (k + 1) f fd ps sp := by
  obtain ⟨oc, od, dV, kV, doc, pm, an, cdv, ct, osl, rfl, lk, hcd, _, _⟩ := F.ex
  refine L2H.fn_ofH lk hcd S len fun A outer s H vs Q E p hot hr hsp => ?_
  obtain ⟨t, h, q⟩ := walk cdv A outer s H vs Q E p hot hr hsp
  exact ⟨t, h.nox, q⟩
/-- no keyword written: as if called by position with the defaults -/
theorem KBn.binds {fd : FuncData} {ps : List Str} {gb : List Value → List Value → List Value} {gV : List V → List V → List V} {ds : List Value} (b : KBn K fd ps 1 [] gb gV) (h : ∀ u, gb [u] [] = u :: ds) (hl : ps.length = ds.length + 1) : Binds K fd ps ds := by
  intro s us X l
  have e : us.length = 1 := by
    rw [List.length_append] at l
    omega
  match us, e with
  | [u], _ =>
    have z := b.to s [u] [] X rfl rfl
    rw [h u] at z
    exact z
end
end L2
namespace L2
open PySem PySem.Spec PyProof.Rows
theorem ix_kdictK {X : Cx} {K : PySem.W.Frag} {w : World} (h : X.K = K) (hw : X.w = w) : IxR X (rIxD K w) := by
  subst h
  subst hw
  exact ix_kdict
end L2
namespace L2
open PySem PySem.Spec PyProof.Rows
theorem pe_fldK {X : Cx} {K : PySem.W.Frag} {e : Expr} {f : Str} {pos : Pos} {ta : TE} (h : X.K = K) (it : PE X e ta) (hb : attributeBase e f X.env (eval e X.env) = eval e X.env) : PE X (.Attribute e f pos) (tFld K ta f) := by
  subst h
  exact pe_fld it hb
end L2

/-! == and repr of an instance with its own __eq__, __repr__ -/
namespace OwI
open PySem PySem.Spec PyProof.Rows L2
theorem stands {X : Cx} {pins : List (Addr × Obj)} {σ : L2.St} {H : Hp} {s : Shared} {a C dx : Addr} {fs : List (Str × V)} (I : Inv X pins σ H s) (e : H a = some (.ins C dx fs)) : ∃ o od, PySem.W.InstAt s.heap a o C (some od) := by
  obtain ⟨mA, O, _⟩ := ins_get I.hok e
  obtain ⟨od, J, _⟩ := O.look
  exact ⟨_, od, J⟩
/-- x op y, x an instance of the class at C whose def for op is at g, y an instance of the same class -/
def rOwnI (K : PySem.W.Frag) (C : Addr) (sp : Sp) (E : XK) : R2 := fun x y H Q => ∃ a dx fs b dy gs, x = .ref a ∧ y = .ref b ∧ H a = some (.ins C dx fs) ∧ H b = some (.ins C dy gs) ∧ PySem.W.notFirst K C (.ref C) = true ∧ sp [x, y] H Q E
section
variable {X : Cx} {CX : CXT} {C g : Addr} {n : Nat} {sp : Sp} {E : XK}
theorem op_ownI {op : CmpOp} (road : ∀ a b, compareOp op a b = richCompare op a b) (own : PySem.W.findIn X.K (.ref C) (cmpInfo op).2.1 = some (some (.ref g))) (isf : PySem.W.isFn X.K (.ref g) = true) (F : FnR X.prog X.w X.K X.mg X.base CX n g sp)
    (room : Room n X.A) (pass : Passes CX X E) : OpR X (compareOp op) (rOwnI X.K C sp E) := by
  rintro pins s σ H _ _ v u Q I rv ru ⟨a, dx, fs, b, dy, gs, rfl, rfl, ha, hb, nf, had⟩
  cases (show v = Value.ref a from rv)
  cases (show u = Value.ref b from ru)
  obtain ⟨o, od, J⟩ := stands I ha
  obtain ⟨o2, od2, J2⟩ := stands I hb
  obtain ⟨m, fr⟩ := I.fr
  rw [road]
  refine PySem.W.cmp_K (op := op) (tb := .ref C) room.units0 fr I.ok.mod.kin J J2.type nf own isf ?_
  refine wpAny_mono (wpAny_call (run_fnR (us := [.ref a, .ref b]) (vs := [.ref a, .ref b]) F room pass I (.cons rfl (.cons rfl .nil)) had)) ?_ fun _ _ z => z
  rintro w z ⟨y, G, I2, ry, q⟩
  exact SlX.cmpback ry ⟨y, G, I2, ry, q⟩
/-- repr(x), x an instance of the class at C with its own __repr__ at g -/
def rReprI (C : Addr) (sp : Sp) (E : XK) : List V → Hp → VK → Prop := fun xs H Q => ∃ a dx fs, xs = [.ref a] ∧ H a = some (.ins C dx fs) ∧ sp [.ref a] H (fun y G => ∃ t : Str, y = .str t ∧ Q y G) E
theorem call_reprI (own : PySem.W.findIn X.K (.ref C) "__repr__" = some (some (.ref g))) (isf : PySem.W.isFn X.K (.ref g) = true) (F : FnR X.prog X.w X.K X.mg X.base CX n g sp) (room : Room (n + 1) X.A) (pass : Passes CX X E) : CallR X (.builtin "repr") (rReprI C sp E) := by
  rintro pins s σ H _ us Q I rel ⟨a, dx, fs, rfl, ha, had⟩
  obtain ⟨u, rfl, ru⟩ := vals1 rel
  cases (show u = Value.ref a from ru); skip
  obtain ⟨o, od, J⟩ := stands I ha
  obtain ⟨m, fr⟩ := I.fr
  have room1 : Room n X.A.in1 := Room.in1 room
  refine PySem.W.repr_K room1.units0 fr I.ok.mod.kin J own isf ?_
  refine wpAny_mono (wpAny_call (SlX.run_at (us := [.ref a]) (ws := [.ref a]) F room1 I.env0.in1 pass I (.cons rfl .nil) had)) ?_ fun _ _ z => z
  rintro w z ⟨y, G, I2, ry, t, rfl, q⟩
  obtain ⟨tk, rfl⟩ := (show ∃ tk, w = Value.str t tk from ry)
  exact ⟨.str t, G, I2, ⟨tk, rfl⟩, q⟩
end
end OwI

/-! star defs that raise, and those whose keyword-only parameter is left out -/
namespace StK
open PySem PySem.Spec PyProof.Rows L2 StX
theorem upN {P : Program} {w : World} : CXUp (L2N.CX P w) := by
  intro outer s H s2 H2 E e s' un kp os h
  obtain ⟨a, B, G, cls, d, r, fly, ok, ub, free, os', bare, he⟩ := h
  have back : ∀ b o, s.heap.get? b = some o → H b = none → H2 b = none := fun b o q n => un.free b o q n (by simp)
  have ub' : UB (frs outer) H G s.heap B s'.heap := {
    keep := fun b o q n out => ub.keep b o (kp b o q) (back b o q n) out
    slot := fun b o q => ub.slot b o (kp b o q)
    free := fun b o q n => ub.free b o (kp b o q) (back b o q n)
    there := fun b o q => ub.there b o (kp b o q)
    tups := fun b xs q => ub.tups b xs (un.tups b xs q)
    frzs := fun b o xs q => ub.frzs b o xs (un.frzs b o xs q)
    tbls := fun b ps q => by
      obtain ⟨m1, x1⟩ := un.tbls b ps q
      obtain ⟨m2, x2⟩ := ub.tbls b _ x1
      exact ⟨m1 ++ m2, by rw [x2, Array.append_assoc]⟩ }
  exact ⟨a, B, G, cls, d, r, fly, ok, ub', free, os'.trans os, bare, he⟩
section
variable {CX : CXT} {P : Program} {w : World} {K : PySem.W.Frag} {mg : Str → Option Value} {base : Heap} {k n : Nat} {f : Addr} {name qual : Str} {params : Arguments} {body : List Stmt} {scope : Scope} {dV kV doc pm cdv ct oc : Value} {an od : Option Addr}
  {osl : Array (Option Value)} {N ps : List Str} {sp : Sp}
/-- def f(a, .., *v, q = dv), called without q -/
theorem fn_starD {pv q : Str} {D : Addr} {dv : V} {du : Value} (at_ : K.lookup f = some ⟨oc, od, .func (PySem.W.fnOf name qual params body scope dV kV doc pm an cdv ct), osl⟩) (code : PySem.W.codeIn K cdv qual = true) (S : FnScope N (ps ++ [pv]) scope) (up : CXUp CX) (hps : ps.length = n + 1)
    (isq : PySem.W.nsIn K D q = some (some du)) (rq : RelV dv du)
    (bind : ∀ us rest : List Value, us.length = n → ∃ (β γ : Type) (k1 : Option Value → Sem β) (k2 : β → Sem γ) (k3 : γ → Sem (List (Str × Value))) (a : β), bindArgs (PySem.W.fnOf name qual params body scope dV kV doc pm an cdv ct) ⟨us ++ rest, []⟩ = ((nsGet D q >>= k1) >>= k2) >>= k3 ∧
      k1 (some du) = pure a ∧ (k2 a >>= k3) = (newTuple rest >>= fun t => pure (ps.zip (us ++ [du]) ++ [(pv, t)])))
    (run : ∀ (A : Around) (outer : List Env) (s : Shared) (H : Hp) (vs : List V) (Q : VK) (E : XK), Room k (A.deeper (envOfC qual scope s.heap.objs.size f cdv)) → sp vs H Q E →
      ∃ t, PSs (cxOf CX P w K mg base N qual scope f cdv A outer s H E) body t ∧ t { nx := fun _ H' => Q .non H', rt := Q } (start N vs) H) :
    FnR P w K mg base CX (k + 1) f (fun vs H Q E => ∃ hd rest, vs = hd ++ rest ∧ hd.length = n ∧ rest.length ≤ sizeLine ∧ ∀ p, H p = none → sp ((hd ++ [dv]) ++ [V.ref p]) (upd H p (.tup rest)) Q E) := by
  rintro A outer s H us vs Q E room env rv ⟨hd, rest, rfl, lh, small, goes⟩
  obtain ⟨u1, u2, rfl, r1, r2⟩ := vals_split rv
  have free : H s.heap.objs.size = none := env.hok.fresh (Nat.le_refl _)
  have l1 : u1.length = n := r1.length.symm.trans lh
  have few : u2.length ≤ sizeLine := by
    rw [← r2.length]
    exact small
  have KX : K.In s.heap := env.mod.kin.keeps fun b o e => (env.bs b o e).1
  let here : Obj := { cls := .type "tuple", data := .seq u2.toArray }
  refine run_bnd at_ code S room env (G := fun xs G => ∃ p, H p = none ∧ xs = (hd ++ [dv]) ++ [V.ref p] ∧ G = upd H p (.tup rest)) (fun A' Ex Q' told => ?_) ?_
  · obtain ⟨β, γ, k1, k2, k3, a, e1, e2, e3⟩ := bind u1 u2 l1
    rw [e1, bind_assoc]
    refine wpAny_bind (((PySem.W.looks_nsIn KX isq).andThen (PySem.W.Looks.of_pure e2)).here ?_)
    rw [e3]
    refine wpAny_bind (wpAny_newTuple (wpAny_pure ?_) few)
    have laid : ObjOk P w (upd H s.heap.objs.size (.tup rest)) (s.heap.push here) s.heap.objs.size (.tup rest) := ⟨small, u2, r2, _, Heap.get?_push_size _ rfl, rfl, _, rfl⟩
    have un : Un (frs outer) [] H (upd H s.heap.objs.size (.tup rest)) s.heap (s.heap.push here) := un_laid free
    have len : ((hd ++ [dv]) ++ [V.ref s.heap.objs.size]).length = (ps ++ [pv]).length := by
      rw [List.length_append, List.length_append, List.length_append, lh, hps]
      rfl
    have got := told _ _ ((hd ++ [dv]) ++ [V.ref s.heap.objs.size]) ((u1 ++ [du]) ++ [Value.ref s.heap.objs.size]) (env0_laid env laid) un rfl
      (fun e s' => up outer s H _ _ E e s' un (fun b o q => Heap.get?_push_of_some _ q) rfl) ((r1.append (.cons rq .nil)).append (.cons rfl .nil)) len ⟨_, free, rfl, rfl⟩
    have cut : ps.length = (u1 ++ [du]).length := by rw [List.length_append, l1, hps]; rfl
    rw [List.zip_append cut] at got
    exact got
  · rintro s2 _ _ ⟨p, hp, rfl, rfl⟩ room'
    exact run A outer s2 _ _ Q E room' (goes p hp)
end
section
variable {X : Cx} {CX : CXT} {k : Nat} {f : Addr} {ks : List Str} {q : List V → List V → Hp → VK → XK → Prop} {sp : Sp} {x : Str} {p pos : Pos} {e : Expr} {es : List Expr} {kws : List Keyword} {t tk : TA}
def tCallFKS (q : List V → List V → Hp → VK → XK → Prop) (n : Nat) (E : L2.St → XK) (t tk : TA) : TE := fun σ H Q => t σ H fun vs H1 => tk σ H1 fun zs H2 => zs.length = n ∧ q vs zs H2 Q (E σ)
/-- the same of a def that may raise -/
theorem pe_callFKS {E : L2.St → XK} (F : FnK X.prog X.w X.K X.mg X.base CX k f ks q) (room : Room k X.A) (gl : Gl X x) (there : X.mg x = some (.ref f)) (kp : PySem.W.keepIn X.K (.ref f) = true) (pass : ∀ σ, PassesAt CX X σ (E σ))
    (ha : PA X (e :: es) t) (hk : PK X kws tk) (each : (backToKw pos (keywordEach kws X.env)).all (·.1.isSome) = true := by rfl) (names : (backToKw pos (keywordEach kws X.env)).filterMap (·.1) = ks := by rfl)
    (nd : (x == ("__debug__" : Str)) = false := by decide) (st : starEach (e :: es) X.env = (false, eval e X.env) :: starEach es X.env := by rfl)
    (pl : ((backTo pos (starEach (e :: es) X.env)).any (·.1) || (backToKw pos (keywordEach kws X.env)).any (·.1.isNone)) = false := by rfl) :
    PE X (.Call (.Name x p) (e :: es) kws pos) (tCallFKS q ks.length E t tk) := by
  refine ⟨fun pins s σ H Q I h => wpAny_Call_Name_kw (ld_glob I gl there ?_ nd)⟩
  refine PySem.W.callWith_KW (h₀ := X.base) I.ok.mod.kin kp each (thn (ha.run pos pins s σ H _ I h) ?_) pl st
  rintro us s1 ⟨vs, H1, I1, r, g1⟩
  refine thn (hk.run pos pins s1 σ H1 _ I1 g1) ?_
  rintro ws s2 ⟨zs, H2, I2, rz, lz, g2⟩
  refine ⟨I2.kIn, ?_⟩
  rw [names]
  refine wpAny_call (codeAny_mono (F X.A X.stack s2 H2 us ws vs zs Q (E σ) room I2.env0 r rz lz g2) fun out s' h' => ?_)
  match out, h' with
  | .error e, h' => exact pass σ pins H2 s2 e s' I2 h'
  | .ok (.ret u), h' => exact I2.after h'
  | .ok .next, h' => exact h'.elim
  | .ok .brk, h' => exact h'.elim
  | .ok .cont, h' => exact h'.elim
/-- f(e, ..), f told of its values alone -/
theorem pe_callR {E : XK} (F : FnR X.prog X.w X.K X.mg X.base CX k f sp) (room : Room k X.A) (gl : Gl X x) (there : X.mg x = some (.ref f)) (kp : PySem.W.keepIn X.K (.ref f) = true) (pass : Passes CX X E)
    (ha : PA X (e :: es) t) (nd : (x == ("__debug__" : Str)) = false := by decide) (st : starEach (e :: es) X.env = (false, eval e X.env) :: starEach es X.env := by rfl) (pl : (backTo pos (starEach es X.env)).any (·.1) = false := by rfl) :
    PE X (.Call (.Name x p) (e :: es) [] pos) (fun σ H Q => t σ H fun vs H1 => sp vs H1 Q E) := by
  refine ⟨fun pins s σ H Q I h => wpAny_Call_Name_kw (ld_glob I gl there ?_ nd)⟩
  refine PySem.W.callWith_K (h₀ := X.base) I.ok.mod.kin kp (thn (ha.run pos pins s σ H _ I h) ?_) st pl
  rintro us s1 ⟨vs, H1, I1, r, g1⟩
  exact ⟨I1.kIn, wpAny_call (run_fnR F room pass I1 r g1)⟩
end
end StK

/-! tuple(reversed(t)), t a tuple; in and not in of a tuple of data -/
namespace RvT
open PySem PySem.Spec PyProof.Rows L2 RT
theorem sized_no : typeLookup (.type "reversed") "__len__" = pure none := by
  rw [typeLookup_type, builtinLookup_eq_fast]
  kernel_rfl
theorem sized_hint : typeLookup (.type "reversed") "__length_hint__" = pure (some (.builtin "reversed.__length_hint__")) := by
  rw [typeLookup_type, builtinLookup_eq_fast]
  kernel_rfl
section
variable {prog : Program} {w : World} {A : Around} {E : Value → Shared → Prop} {s : Shared}
theorem tup_at {h h' : Heap} {t : Addr} {vs : Array Value} (x : IsTup h t vs) (e : ∀ o, h.get? t = some o → h'.get? t = some o) : IsTup h' t vs := by
  obtain ⟨o, ho, hc, n, hd⟩ := x
  exact ⟨o, e _ ho, hc, n, hd⟩
/-- a walk from a tuple's end -/
theorem backWalk (calm : A.handled = none) (I t : Addr) (ne : t ≠ I) (vs : Array Value) (small : vs.size ≤ sizeLine) :
    Walks prog w A I [I, t] [I] vs.size (fun k v => vs[vs.size - 1 - k]? = some v) (fun k h => k ≤ vs.size ∧ IsRt h I t ((vs.size : Int) - 1 - (k : Int)) ∧ IsTup h t vs) where
  sub b hb := by
    rw [List.mem_singleton.mp hb]
    exact List.mem_cons_self
  frame k h h' x kp := ⟨x.1, IsRt.at x.2.1 fun o e => kp I List.mem_cons_self o e, tup_at x.2.2 fun o e => kp t (List.mem_cons_of_mem _ List.mem_cons_self) o e⟩
  item k s Q E lt x told := by
    obtain ⟨_, at_, tup⟩ := x
    have there : vs.size - 1 - k < vs.size := by omega
    have get : vs[vs.size - 1 - k]? = some vs[vs.size - 1 - k] := Array.getElem?_eq_getElem there
    rw [show (vs.size : Int) - 1 - (k : Int) = ((vs.size - 1 - k : Nat) : Int) by omega] at at_
    refine next_rt_item at_ tup get small fun h' more same => ?_
    rw [show ((vs.size - 1 - k : Nat) : Int) - 1 = (vs.size : Int) - 1 - ((k + 1 : Nat) : Int) by omega] at more
    exact told _ h' _ get ⟨lt, more, tup_at tup fun o eo => (same.2 t ne).trans eo⟩ fun b o nb eo => (same.2 b fun z => nb (by rw [z]; exact List.mem_cons_self)).trans eo
  done s Q E x told := by
    obtain ⟨_, at_, _⟩ := x
    rw [show (vs.size : Int) - 1 - (vs.size : Int) = -1 by omega] at at_
    exact next_rt_end calm at_ fun h' ext => told h' _ fun b o nb eo => ext b o (fun z => nb (by rw [z]; exact List.mem_cons_self)) eo
  self _ _ _ _ x told := iter_rt x.2.1 told
end
end RvT
namespace RvT
open PySem PySem.Spec PyProof.Rows L2 RT
section
variable {X : Cx}
/-- x in t, t a tuple of data -/
def rInT (K : PySem.W.Frag) : R2 := fun x y H Q => ∃ d ds, Dp K H x d ∧ Dp K H y (.tuple ds) ∧ SeqAt.shaped d = true ∧ SeqAt.shaped (.list ds) = true ∧ Q (.bl (ds.any fun z => PyData.eqv z d)) H
def rNotInT (K : PySem.W.Frag) : R2 := fun x y H Q => ∃ d ds, Dp K H x d ∧ Dp K H y (.tuple ds) ∧ SeqAt.shaped d = true ∧ SeqAt.shaped (.list ds) = true ∧ Q (.bl (!ds.any fun z => PyData.eqv z d)) H
theorem op_inT (room : X.A.units + 65 < cLine) : OpR X (compareOp .In) (rInT X.K) := by
  rintro pins s σ H x y v u Q I rx ry ⟨d, ds, dx, dy, sx, sy, goal⟩
  obtain ⟨_, left⟩ := Dp.reads I d x v dx rx
  obtain ⟨_, right⟩ := Dp.reads I (.tuple ds) y u dy ry
  exact SeqAt.in_tuple_reads right left (SeqAt.canLay_of_shaped sy) (SeqAt.canLay_of_shaped sx) (room_in_shaped sx room) ⟨.bl _, H, I, rfl, goal⟩
theorem op_notInT (room : X.A.units + 65 < cLine) : OpR X (compareOp .NotIn) (rNotInT X.K) := by
  rintro pins s σ H x y v u Q I rx ry ⟨d, ds, dx, dy, sx, sy, goal⟩
  obtain ⟨_, left⟩ := Dp.reads I d x v dx rx
  obtain ⟨_, right⟩ := Dp.reads I (.tuple ds) y u dy ry
  exact SeqAt.notIn_tuple_reads right left (SeqAt.canLay_of_shaped sy) (SeqAt.canLay_of_shaped sx) (room_in_shaped sx room) ⟨.bl _, H, I, rfl, goal⟩
end
end RvT

namespace RvT
open PySem PySem.Spec PyProof.Rows L2 RT
theorem hint_kind : builtinKind "reversed.__length_hint__" = some .method := by decide +kernel
theorem hint_slot : Slot "reversed" "__length_hint__" "reversed.__length_hint__" := by
  refine .of (owner := "reversed") (n := "__length_hint__") sized_hint ?_ ?_ ?_ ?_ ?_
  · decide +kernel
  · decide +kernel
  · decide +kernel
  · first | exact Or.inl (by decide +kernel) | exact Or.inr (by decide +kernel)
  · exact PySem.F.sub_reversed_self
theorem hint_entry : entryFor table "reversed.__length_hint__" = some Builtin.«reversed.__length_hint__» := by
  apply entryFor_of_tree
  kernel_rfl
theorem hint_args (a : Value) : argsOk "reversed.__length_hint__" ⟨[a], []⟩ := by
  unfold argsOk
  rw [signature?_of (id := "reversed.__length_hint__") (n := ("__length_hint__".toList.reverse)) (o := ['d', 'e', 's', 'r', 'e', 'v', 'e', 'r']) (by kernel_rfl) owner_rt]
  kernel_rfl
theorem hint_bind (self : Value) : bindSpecial (.builtin "reversed.__length_hint__") self = pure (.builtin "reversed.__length_hint__", [self]) := by
  have no1 : withoutEnding? "reversed.__length_hint__" "#opaque" = none := by decide +kernel
  have no2 : withoutEnding? "reversed.__length_hint__" "#data" = none := by decide +kernel
  simp only [bindSpecial, typeOf, builtinType, no1, no2, hint_kind]
  rfl
section
variable {prog : Program} {w : World} {A : Around} {E : Value → Shared → Prop} {s : Shared}
theorem collect_back {it t : Addr} {vs : Array Value} {Q : List Value → Shared → Prop} (calm : A.handled = none) (at_ : IsRt s.heap it t ((vs.size : Int) - 1)) (tup : IsTup s.heap t vs) (ne : t ≠ it) (small : vs.size ≤ sizeLine)
    (told : ∀ (h' : Heap) (tk : Nat) (acc : Array Value), (∀ b o, b ≠ it → s.heap.get? b = some o → h'.get? b = some o) → ItemsOf (fun k v => vs[vs.size - 1 - k]? = some v) acc vs.size → Q acc.toList { s with heap := h', toks := tk }) :
    wpAny (model prog w) A (collect (.ref it)) Q E s := by
  have W := Walks.toS (backWalk (prog := prog) (w := w) (A := A.in1) calm it t ne vs small)
  have li : it < s.heap.objs.size := by
    obtain ⟨o, ho, _⟩ := at_
    exact Heap.lt_size ho
  have lt : t < s.heap.objs.size := by
    obtain ⟨o, ho, _⟩ := tup
    exact Heap.lt_size ho
  have apart : s.heap.objs.size ∉ [it, t] := fun z => by
    rcases List.mem_cons.mp z with z | z
    · exact Nat.ne_of_gt li z
    · exact Nat.ne_of_gt lt (List.mem_singleton.mp z)
  unfold collect
  apply wpAny_bind
  apply wpAny_runValue
  apply codeAny_builtin F.entry_proto_collect
  rw [Around.under_plainId F.plain_proto_collect]
  show wpAny _ A.in1 (newList [] >>= fun l' => again (.builtin "list.__iadd__" ⟨[l', Value.ref it], []⟩)) _ _ s
  apply wpAny_bind
  refine wpAny_newObj_type ?_
  apply wpAny_pure
  refine And.intro (plainId_quiet F.plain_list_iadd _) (codeAny_builtin F.entry_list_iadd ?_)
  rw [Around.under_plainId F.plain_list_iadd]
  generalize e1 : ({ cls := .type "list", data := .seq ([] : List Value).toArray } : Obj) = ol
  have l1 : (s.heap.push ol).get? s.heap.objs.size = some ol := Heap.get?_push_size _ (by rw [← e1]; rfl)
  have at1 : IsRt (s.heap.push ol) it t ((vs.size : Int) - 1) := IsRt.at at_ fun o e => Heap.get?_push_of_some _ e
  have tup1 : IsTup (s.heap.push ol) t vs := tup_at tup fun o e => Heap.get?_push_of_some _ e
  have ty : ({ s with heap := s.heap.push ol } : Shared).TypeIs (.ref it) "reversed" := IsRt.typeIs (s := { s with heap := s.heap.push ol }) at1
  have other : Builtin.List.listSameRef (.ref s.heap.objs.size) (.ref it) = false := by
    have : s.heap.objs.size ≠ it := Nat.ne_of_gt li
    simp [Builtin.List.listSameRef, this]
  show wpAny _ A.in1 (Builtin.List.listExtendWith (.ref s.heap.objs.size) (.ref it) (.ref s.heap.objs.size)) _ _ _
  unfold Builtin.List.listExtendWith
  apply wpAny_bind
  refine wpAny_typeOf ty ?_
  rw [if_neg (by rw [other]; decide)]
  apply wpAny_bind
  refine iter_rt (s := { s with heap := s.heap.push ol }) at1 ?_
  apply wpAny_bind
  apply wpAny_holding
  unfold Builtin.List.listLengthHint
  apply wpAny_bind
  refine wpAny_specialOf ty sized_no ?_
  show wpAny _ A.in1 (specialOf (Value.ref it) (Str.ofString "__length_hint__") >>= _) _ _ _
  apply wpAny_bind
  refine wpAny_specialOf ty sized_hint ?_
  generalize hid : ("reversed.__length_hint__" : String) = id0
  wp_delta
  rw [show splitId id0 = some ("reversed", "__length_hint__") from by subst hid; decide +kernel]
  subst hid
  refine wpAny_bind (wpAny_isInstance (b := true) ty PySem.F.sub_reversed_self ?_)
  rw [if_neg (by decide)]
  dsimp only
  rw [if_neg (by decide +kernel)]
  refine wpAny_bind (wpAny_rule ?_)
  rw [hint_bind]
  refine wpAny_bind (wpAny_pure ?_)
  apply wpAny_bind
  apply wpAny_attempt
  refine wpAny_call_entry hint_slot ty hint_entry ?_ (hint_args _)
  unfold Builtin.«reversed.__length_hint__»
  refine wpAny_bind (wpAny_of_eq (a := Value.ref it) rfl ?_)
  obtain ⟨o1, ho1, hc1, hd1⟩ := id at1
  refine wpAny_bind (wpAny_field ho1 hd1 (x := .ref t) rfl ?_)
  have ty2 : ({ s with heap := s.heap.push ol } : Shared).TypeIs (.ref t) "tuple" := IsTup.typeOf' tup1
  rw [if_neg (by intro z; cases z)]
  apply wpAny_bind
  refine len_tuple tup1 ?_ ?_
  · have := small
    have l63 := line63
    omega
  refine wpAny_bind (wpAny_of_eq (a := some ((vs.size : Nat) : Int)) rfl ?_)
  dsimp only
  refine wpAny_bind (wpAny_field ho1 hd1 (x := rawInt ((vs.size : Int) - 1)) rfl ?_)
  show wpAny _ _ (if ((vs.size : Nat) : Int) < (vs.size : Int) - 1 + 1 then _ else retInt ((vs.size : Int) - 1 + 1)) _ _ _
  rw [if_neg (by omega), show (vs.size : Int) - 1 + 1 = ((vs.size : Nat) : Int) by omega]
  unfold retInt
  refine wpAny_bind (wpAny_mkInt (wpAny_pure ⟨_, rfl, ?_⟩))
  dsimp only
  generalize hl : ((vs.size : Nat) : Int) = len
  apply wpAny_bind
  refine wpAny_pure ?_
  dsimp only
  have fits : Builtin.List.listFitsIndex len = true := by
    unfold Builtin.List.listFitsIndex
    have l63 := line63
    rw [decide_eq_true (by omega), decide_eq_true (by omega)]
    rfl
  have few : Builtin.List.listTooLong len.toNat = false := by
    unfold Builtin.List.listTooLong
    rw [← hl, Int.toNat_natCast]
    exact decide_eq_false (Nat.not_lt.mpr small)
  have up : ¬ len < 0 := by omega
  simp only [fits, few, up, Bool.not_true, Bool.false_eq_true, if_false]
  refine wpAny_pure ?_
  -- the walk itself, from any heap that holds the empty list
  have e0 : (vs.size : Int) - 1 - ((0 : Nat) : Int) = (vs.size : Int) - 1 := by omega
  have go : ∀ (h2 : Heap) (tk tk0 : Nat) (c : Nat) {R : Result → Shared → Prop}, h2.get? s.heap.objs.size = some { cls := .type "list", dict := none, data := .seq #[] c, slots := #[] } → (∀ b o, b ≠ s.heap.objs.size → s.heap.get? b = some o → h2.get? b = some o) →
      (∀ s' acc' c', Moved (s.heap.objs.size :: [it]) (fun a b => b = a) { s with heap := h2, toks := tk } s' → s'.heap.get? s.heap.objs.size = some { cls := .type "list", dict := none, data := .seq acc' c', slots := #[] } → ItemsOf (fun k v => vs[vs.size - 1 - k]? = some v) acc' vs.size → R (.ok (.ret (.ref s.heap.objs.size))) s') →
      codeAny (model prog w) A (.builtin "list.extend.loop" ⟨[.ref s.heap.objs.size, .ref it, .ref s.heap.objs.size], []⟩) R { s with heap := h2, toks := tk } := fun h2 tk tk0 c R hS ko told2 =>
    codeAny_extend_loopS W small _ apart _ vs.size 0 _ _ _ rfl (Nat.zero_le _) ⟨Nat.zero_le _, by rw [e0]; exact IsRt.at at_ fun o e => ko it o (fun z => Nat.ne_of_gt li z.symm) e, tup_at tup fun o e => ko t o (fun z => Nat.ne_of_gt lt z.symm) e⟩ hS (ItemsOf.nil _) told2
  have fin : ∀ (h2 : Heap) (tk : Nat), (∀ b o, b ≠ s.heap.objs.size → s.heap.get? b = some o → h2.get? b = some o) → ∀ (s' : Shared) (acc' : Array Value) (c' : Nat), Moved (s.heap.objs.size :: [it]) (fun a b => b = a) { s with heap := h2, toks := tk } s' →
      s'.heap.get? s.heap.objs.size = some { cls := .type "list", dict := none, data := .seq acc' c', slots := #[] } → ItemsOf (fun k v => vs[vs.size - 1 - k]? = some v) acc' vs.size →
      wpAny (model prog w) A (load s.heap.objs.size >>= fun o => match o.data with
        | .seq xs _ => pure xs.toList
        | _ => unsupported "internal:collect") Q E s' := fun h2 tk ko s' acc' c' mv here all => by
    refine wpAny_bind (wpAny_load here (wpAny_pure ?_))
    rw [Moved.eq_with mv]
    refine told s'.heap s'.toks acc' (fun b o nb eo => ?_) all
    have nb2 : b ≠ s.heap.objs.size := Nat.ne_of_lt (Heap.lt_size eo)
    refine mv.heap b o (fun z => ?_) (ko b o nb2 eo)
    rcases List.mem_cons.mp z with z | z
    · exact nb2 z
    · exact nb (List.mem_singleton.mp z)
  subst e1
  have h0 : ∀ b o, b ≠ s.heap.objs.size → s.heap.get? b = some o → (s.heap.push { cls := .type "list", data := .seq ([] : List Value).toArray }).get? b = some o := fun b o _ e => Heap.get?_push_of_some _ e
  by_cases nul : len = 0
  · rw [if_neg (by rw [nul]; decide)]
    refine wpAny_pure ⟨plainId_quiet F.plain_extend_loop _, ?_⟩
    refine go _ _ 0 0 l1 h0 ?_
    intro s' acc' c' mv here all
    exact fin _ _ h0 s' acc' c' mv here all
  · rw [if_pos (by rw [show (len != 0) = true from bne_iff_ne.mpr nul]; rfl)]
    refine wpAny_bind (wpAny_rule ?_)
    apply wpAny_bind
    show wpAny _ A.in1 (updateSeq s.heap.objs.size (·.push .none) >>= fun _ => updateSeq s.heap.objs.size (·.pop)) _ _ _
    have l2 := Heap.get?_update_self (Obj.mapSeq (·.push Value.none)) l1 rfl
    have l3 := Heap.get?_update_self (Obj.mapSeq (·.pop)) l2 rfl
    apply wpAny_bind
    refine wpAny_updateSeq l1 rfl ?_
    refine wpAny_updateSeq l2 rfl ?_
    refine wpAny_pure ⟨plainId_quiet F.plain_extend_loop _, ?_⟩
    have h3 : ∀ b o, b ≠ s.heap.objs.size → s.heap.get? b = some o → (((s.heap.push { cls := .type "list", data := .seq ([] : List Value).toArray }).update s.heap.objs.size (Obj.mapSeq (·.push Value.none))).update s.heap.objs.size (Obj.mapSeq (·.pop))).get? b = some o := fun b o nb e =>
      (Heap.get?_update_other _ _ (Ne.symm nb)).trans ((Heap.get?_update_other _ _ (Ne.symm nb)).trans (h0 b o nb e))
    refine go _ _ 0 _ l3 h3 ?_
    intro s' acc' c' mv here all
    exact fin _ _ h3 s' acc' c' mv here all
theorem code_tuple_back {it t : Addr} {vs : Array Value} {Q : Value → Shared → Prop} (calm : A.handled = none) (at_ : IsRt s.heap it t ((vs.size : Int) - 1)) (tup : IsTup s.heap t vs) (ne : t ≠ it) (small : vs.size ≤ sizeLine)
    (told : ∀ (h' : Heap) (tk : Nat) (acc : Array Value), (∀ b o, b ≠ it → s.heap.get? b = some o → h'.get? b = some o) → ItemsOf (fun k v => vs[vs.size - 1 - k]? = some v) acc vs.size →
      Q (.ref h'.objs.size) { s with heap := h'.push { cls := .type "tuple", data := .seq acc }, toks := tk }) :
    codeAny (model prog w) A (.call (.builtin "tuple.__new__") ⟨[.type "tuple", .ref it], []⟩) (wants Q E) s := by
  apply codeAny_of_tree
  show wpAny _ A.in1 (do checkBuiltinCall "tuple.__new__" ⟨[Value.type "tuple", Value.ref it], []⟩; again (.builtin "tuple.__new__" ⟨[Value.type "tuple", Value.ref it], []⟩)) _ _ s
  apply wpAny_bind
  refine wpAny_of_eq (F.newCall_tuple_1 _) (wpAny_pure (And.intro (plainId_quiet F.plain_tuple_new _) (codeAny_builtin F.entry_tuple_new ?_)))
  rw [Around.under_plainId F.plain_tuple_new]
  have isT : s.TypeIs (.ref it) "reversed" := IsRt.typeIs at_
  have calm1 : A.in1.handled = none := calm
  have h_sub := sub_tuple_self
  have h_init := init_tuple_lookup
  have h_made := madeHere_tuple
  wp_walk using wpAny_typeOf isT, collect_back (A := A.in1) calm1 at_ tup ne small
  intro h' tk acc kp all
  show wpAny _ _ (Builtin.Tuple.tupleExact acc.toList.toArray >>= fun u => ret u) _ _ _
  rw [show acc.toList.toArray = acc by simp]
  unfold Builtin.Tuple.tupleExact
  refine wpAny_bind (wpAny_newObj_type (wpAny_pure (told h' tk acc kp all)) ?_)
  show acc.size ≤ sizeLine
  rw [all.1]
  exact small
theorem call_tuple_back {it t : Addr} {vs : Array Value} {Q : Value → Shared → Prop} (calm : A.handled = none) (at_ : IsRt s.heap it t ((vs.size : Int) - 1)) (tup : IsTup s.heap t vs) (ne : t ≠ it) (small : vs.size ≤ sizeLine)
    (told : ∀ (h' : Heap) (tk : Nat) (acc : Array Value), (∀ b o, b ≠ it → s.heap.get? b = some o → h'.get? b = some o) → ItemsOf (fun k v => vs[vs.size - 1 - k]? = some v) acc vs.size →
      Q (.ref h'.objs.size) { s with heap := h'.push { cls := .type "tuple", data := .seq acc }, toks := tk }) :
    wpAny (model prog w) A (call (.type "tuple") [.ref it]) Q E s := by
  refine callType_codes (Q₁ := fun u s1 => s1.TypeIs u "tuple" ∧ Q u s1) F.called_tuple (F.typeCall_tuple_1 _) F.entry_object_init (code_tuple_back (A := A.in1) calm at_ tup ne small ?_) ?_
  · intro h' tk acc kp all
    exact ⟨⟨_, Heap.get?_push_size _ rfl, rfl⟩, told h' tk acc kp all⟩
  · rintro u s1 ⟨isT, q⟩
    exact ⟨isT, F.args_object_init_2 u _, object_init_meets F.called_tuple.init.lookup F.called_tuple.made (by decide) prog w A.in1 _ s1 ⟨isT, rfl, q⟩⟩
end
section
variable {X : Cx}
/-- tuple(reversed(t)), t a tuple: a new tuple -/
def tTupBack (K : PySem.W.Frag) (te : TE) : TE := fun σ H Q => te σ H fun v H1 => ∃ (a : Addr) (xs : List V), v = .ref a ∧ SqT K H1 a xs ∧ ∀ q, H1 q = none → Q (.ref q) (upd H1 q (.tup xs.reverse))
theorem pe_tupBack {e : Expr} {te : TE} {p p2 pos pos2 : Pos} (calm : X.calm = true) (g1 : Gl X "tuple") (m1 : X.mg "tuple" = none) (g2 : Gl X "reversed") (m2 : X.mg "reversed" = none) (he : PE X e te)
    (a1 : starEach [e] X.env = (false, eval e X.env) :: starEach [] X.env := by rfl)
    (a2 : starEach [.Call (.Name "reversed" p2) [e] [] pos2] X.env = (false, eval (.Call (.Name "reversed" p2) [e] [] pos2) X.env) :: starEach [] X.env := by rfl) :
    PE X (.Call (.Name "tuple" p) [.Call (.Name "reversed" p2) [e] [] pos2] [] pos) (tTupBack X.K te) := by
  constructor
  intro pins s σ H Q I had
  refine Call_ (ld_blt I g1 m1 boot_tuple (PyProof.Rows.callWith_type1 (args_cons (Call_ (ld_blt I g2 m2 PyProof.Rows.boot_reversed (PyProof.Rows.callWith_type1 (args_cons (thn (he.run pins s σ H _ I had) fun u s1 got => args_nil ?_) a1) a1 rfl))) a2) a2 rfl))
  obtain ⟨v, H1, I1, r1, a, xs, rfl, hx, goal⟩ := got
  cases (show u = Value.ref a from r1)
  obtain ⟨its, rv, tup, few⟩ := I1.tuple hx
  have ln := rv.length
  have sz : its.toArray.size = xs.length := by rw [List.size_toArray, ← ln]
  have l63 := line63
  refine call_reversed_tup tup (fun A E Q k => len_tuple tup (by rw [sz]; omega) k) (args_nil ?_)
  have k0 : ∀ b o, s1.heap.get? b = some o → (s1.heap.push (rtObj a ((its.toArray.size : Int) - 1))).get? b = some o := fun b o e => Heap.get?_push_of_some _ e
  have I2 : Inv X pins σ H1 { s1 with heap := s1.heap.push (rtObj a ((its.toArray.size : Int) - 1)), toks := s1.toks + 1 + 1 } := I1.kept (t' := s1.toks + 1 + 1) k0
  obtain ⟨p0, p1, p2, p3, p4, p5⟩ := I1.fpOk (H' := H1) (b := s1.heap.objs.size) (Nat.le_refl _) (I1.hok.fresh (Nat.le_refl _))
  have apart : a ≠ s1.heap.objs.size := by
    obtain ⟨o, ho, _⟩ := id tup
    exact Nat.ne_of_lt (Heap.lt_size ho)
  have small : its.toArray.size ≤ sizeLine := by rw [sz]; exact few
  refine call_tuple_back (s := { s1 with heap := s1.heap.push (rtObj a ((its.toArray.size : Int) - 1)), toks := s1.toks + 1 + 1 }) (I1.ok.hd calm) ⟨_, Heap.get?_push_size _ rfl, rfl, rfl⟩ (tup_at tup fun o e => k0 _ _ e) apart small fun h' tk acc kp all => ?_
  have I3 : Inv X pins σ H1 { s1 with heap := h', toks := tk } := I2.turned (t' := tk) (fun b o nb e => kp b o nb e) p0 p1 p3 p4 p5
  have new : ObjOk X.prog X.w (upd H1 h'.objs.size (.tup xs.reverse)) (h'.push { cls := .type "tuple", data := .seq acc }) h'.objs.size (.tup xs.reverse) := by
    refine ⟨by rw [List.length_reverse]; exact few, acc.toList, vals_rev rv all, ?_⟩
    rw [Array.toArray_toList]
    exact IsTup.new _ _
  exact ⟨.ref h'.objs.size, _, I3.laid (t' := tk) (fun c o e => Heap.get?_push_of_some _ e) (Nat.le_refl _) new, rfl, goal _ (I3.hok.fresh (Nat.le_refl _))⟩
end
end RvT

/-! a walk over zip of three lists of one length -/
namespace RZ3
open PySem PySem.Spec PyProof.Rows L2
/-- three lists of one length as they stand, the items in new triples -/
def It3 (K : PySem.W.Frag) (a b c : Addr) : It where
  go i H := ∃ (xs ys zs : List V), SqL K H a xs ∧ SqL K H b ys ∧ SqL K H c zs ∧ ys.length = xs.length ∧ zs.length = xs.length ∧ i < xs.length
  yld i H v H' := ∃ T x y z, v = .ref T ∧ H T = none ∧ H' = upd H T (.tup [x, y, z]) ∧ (∀ xs, SqL K H a xs → xs[i]? = some x) ∧ (∀ ys, SqL K H b ys → ys[i]? = some y) ∧ ∀ zs, SqL K H c zs → zs[i]? = some z
  stop i H := ∃ (xs ys zs : List V), SqL K H a xs ∧ SqL K H b ys ∧ SqL K H c zs ∧ ys.length = i ∧ zs.length = i ∧ xs.length = i
abbrev cells (z TI TO i1 i2 i3 : Addr) : List Addr := [z, TI, TO, i1, i2, i3]
def Tn3 (a b c z TI TO i1 i2 i3 : Addr) (i : Nat) (h : Heap) : Prop :=
  IsZip h z TI TO .none ∧ IsTupOf3 h TI (.ref i1) (.ref i2) (.ref i3) ∧ (∃ x y u, IsTupOf3 h TO x y u) ∧ h.IsListIter i1 a i ∧ h.IsListIter i2 b i ∧ h.IsListIter i3 c i
theorem turn3 {P : Program} {w : World} {K : PySem.W.Frag} {elts : List Expr} {kk : Nat} {tpos : Pos} {a b c z TI TO i1 i2 i3 : Addr} (S : ZipSep3 z TI TO i1 i2 i3 [i1, a] [i2, b] [i3, c]) (n1 : a ≠ i1) (n2 : b ≠ i2) (n3 : c ≠ i3) :
    Turn P w K (.Tuple elts kk tpos) (It3 K a b c) (cells z TI TO i1 i2 i3) z (Tn3 a b c z TI TO i1 i2 i3) where
  mem := List.mem_cons_self
  obj i h st q hq := by
    obtain ⟨hz, hTI, ⟨x, y, u, hTO⟩, ⟨o1, e1, _, d1⟩, ⟨o2, e2, _, d2⟩, ⟨o3, e3, _, d3⟩⟩ := st
    simp only [cells, List.mem_cons, List.not_mem_nil, or_false] at hq
    rcases hq with rfl | rfl | rfl | rfl | rfl | rfl
    · exact ⟨_, hz, fun v e => nomatch e⟩
    · exact ⟨_, hTI, fun v e => nomatch e⟩
    · exact ⟨_, hTO, fun v e => nomatch e⟩
    · exact ⟨o1, e1, fun v e => by rw [d1] at e; cases e⟩
    · exact ⟨o2, e2, fun v e => by rw [d2] at e; cases e⟩
    · exact ⟨o3, e3, fun v e => by rw [d3] at e; cases e⟩
  keep i h h' st k := by
    obtain ⟨hz, hTI, ⟨x, y, u, hTO⟩, h1, h2, h3⟩ := st
    exact ⟨k z (by simp) _ hz, k TI (by simp) _ hTI, ⟨x, y, u, k TO (by simp) _ hTO⟩, h1.at fun o q => k i1 (by simp) o q, h2.at fun o q => k i2 (by simp) o q, h3.at fun o q => k i3 (by simp) o q⟩
  item := by
    rintro X rfl rfl rfl calm i pins s σ H E I free st ⟨xs, ys, zs, q1, q2, q3, l2, l3, lt⟩
    obtain ⟨hz, hTI, ⟨x0, y0, u0, hTO⟩, h1, h2, h3⟩ := st
    obtain ⟨v1, r1, p1, _⟩ := I.list q1
    obtain ⟨v2, r2, p2, _⟩ := I.list q2
    obtain ⟨v3, r3, p3, _⟩ := I.list q3
    have hh : X.A.in1.handled = none := I.ok.hd calm
    have D1 := Draws.list (prog := X.prog) (w := X.w) hh i1 a n1 v1.toArray
    have D2 := Draws.list (prog := X.prog) (w := X.w) hh i2 b n2 v2.toArray
    have D3 := Draws.list (prog := X.prog) (w := X.w) hh i3 c n3 v3.toArray
    have s1 : v1.toArray.size = xs.length := by rw [List.size_toArray, ← r1.length]
    have s2 : v2.toArray.size = ys.length := by rw [List.size_toArray, ← r2.length]
    have s3 : v3.toArray.size = zs.length := by rw [List.size_toArray, ← r3.length]
    have zl : z < s.heap.objs.size := Heap.lt_size hz
    refine wpAny_pyNext_zipD3_item (i := i) S D1 D2 D3 hz hTI hTO ⟨h1, p1.isList⟩ ⟨h2, p2.isList⟩ ⟨h3, p3.isList⟩ (by omega) (by omega) (by omega) fun x1 x2 x3 h' tk g1 g2 g3 z' TO' t1 t2 t3 tup sz kp => ?_
    refine ⟨_, rfl, wpAny_letOwnedTupleGo_zip (s := { s with heap := h', toks := tk }) z' fun h'' z'' sb => ?_⟩
    have tup2 : h''.get? s.heap.objs.size = some { cls := .type "tuple", data := .seq #[x1, x2, x3] } := (sb.2 _ (Nat.ne_of_gt zl)).trans tup
    obtain ⟨u1, e1, w1⟩ : ∃ u, xs[i]? = some u ∧ RelV u x1 := by
      have hx : xs[i]? = some xs[i] := List.getElem?_eq_getElem lt
      obtain ⟨u, hu, ru⟩ := r1.get hx
      rw [← Array.getElem?_toList] at g1
      rw [show v1.toArray.toList = v1 from rfl, hu] at g1
      exact ⟨_, hx, Option.some.inj g1 ▸ ru⟩
    obtain ⟨u2, e2, w2⟩ : ∃ u, ys[i]? = some u ∧ RelV u x2 := by
      have hx : ys[i]? = some ys[i] := List.getElem?_eq_getElem (by omega)
      obtain ⟨u, hu, ru⟩ := r2.get hx
      rw [← Array.getElem?_toList] at g2
      rw [show v2.toArray.toList = v2 from rfl, hu] at g2
      exact ⟨_, hx, Option.some.inj g2 ▸ ru⟩
    obtain ⟨u3, e3, w3⟩ : ∃ u, zs[i]? = some u ∧ RelV u x3 := by
      have hx : zs[i]? = some zs[i] := List.getElem?_eq_getElem (by omega)
      obtain ⟨u, hu, ru⟩ := r3.get hx
      rw [← Array.getElem?_toList] at g3
      rw [show v3.toArray.toList = v3 from rfl, hu] at g3
      exact ⟨_, hx, Option.some.inj g3 ▸ ru⟩
    have new : ObjOk X.prog X.w (upd H s.heap.objs.size (.tup [u1, u2, u3])) h'' s.heap.objs.size (.tup [u1, u2, u3]) :=
      ⟨by show 3 ≤ sizeLine; decide, [x1, x2, x3], .cons w1 (.cons w2 (.cons w3 .nil)), _, tup2, rfl, _, rfl⟩
    have kp2 : ∀ q o, q ∉ cells z TI TO i1 i2 i3 → s.heap.get? q = some o → h''.get? q = some o := fun q o nq e => by
      simp only [cells, List.mem_cons, List.not_mem_nil, or_false, not_or] at nq
      exact (sb.2 q nq.1).trans (kp q o nq.1 nq.2.2.1 nq.2.2.2.1 nq.2.2.2.2.1 nq.2.2.2.2.2 e)
    have I1 : Inv X pins σ (upd H s.heap.objs.size (.tup [u1, u2, u3])) { s with heap := h'', toks := tk } := I.turnedNew (t' := tk) (ch := cells z TI TO i1 i2 i3) kp2 free (Nat.le_refl _) new
    refine ⟨.ref s.heap.objs.size, _, I1, rfl, ⟨_, u1, u2, u3, rfl, I.hok.fresh (Nat.le_refl _), rfl, fun l hl => by rw [I.list_inj hl q1]; exact e1, fun l hl => by rw [I.list_inj hl q2]; exact e2, fun l hl => by rw [I.list_inj hl q3]; exact e3⟩, ⟨z'', ?_, ⟨x1, x2, x3, ?_⟩, ?_, ?_, ?_⟩, fun q hq => ?_⟩
    · exact (sb.2 _ S.TIz).trans (kp _ _ S.TIz S.TITO S.TIi1 S.TIi2 S.TIi3 hTI)
    · exact (sb.2 _ S.TOz).trans TO'
    · exact t1.1.at fun o e => (sb.2 _ S.zi1.symm).trans e
    · exact t2.1.at fun o e => (sb.2 _ S.zi2.symm).trans e
    · exact t3.1.at fun o e => (sb.2 _ S.zi3.symm).trans e
    · have below : q < s.heap.objs.size := by
        simp only [cells, List.mem_cons, List.not_mem_nil, or_false] at hq
        rcases hq with rfl | rfl | rfl | rfl | rfl | rfl
        · exact zl
        · exact Heap.lt_size hTI
        · exact Heap.lt_size hTO
        · obtain ⟨_, e, _⟩ := h1; exact Heap.lt_size e
        · obtain ⟨_, e, _⟩ := h2; exact Heap.lt_size e
        · obtain ⟨_, e, _⟩ := h3; exact Heap.lt_size e
      rw [upd_ne (Nat.ne_of_lt below)]
      exact (free q hq).1
  done := by
    rintro X rfl rfl rfl calm i pins s σ H E I free st ⟨xs, ys, zs, q1, q2, q3, l2, l3, l1⟩
    obtain ⟨hz, hTI, ⟨x0, y0, u0, hTO⟩, h1, h2, h3⟩ := st
    obtain ⟨v1, r1, p1, _⟩ := I.list q1
    obtain ⟨v2, r2, p2, _⟩ := I.list q2
    obtain ⟨v3, r3, p3, _⟩ := I.list q3
    have hh : X.A.in1.handled = none := I.ok.hd calm
    have D1 := Draws.list (prog := X.prog) (w := X.w) hh i1 a n1 v1.toArray
    have D2 := Draws.list (prog := X.prog) (w := X.w) hh i2 b n2 v2.toArray
    have D3 := Draws.list (prog := X.prog) (w := X.w) hh i3 c n3 v3.toArray
    have s1 : v1.toArray.size = xs.length := by rw [List.size_toArray, ← r1.length]
    have s2 : v2.toArray.size = ys.length := by rw [List.size_toArray, ← r2.length]
    have s3 : v3.toArray.size = zs.length := by rw [List.size_toArray, ← r3.length]
    refine wpAny_pyNext_zipD3_end (i := i) S D1 D2 D3 hz hTI hTO ⟨h1, p1.isList⟩ ⟨h2, p2.isList⟩ ⟨h3, p3.isList⟩ (by omega) (by omega) (by omega) (Or.inl (by omega)) fun h' tk kp => ⟨rfl, I.turnedL (t' := tk) (ch := cells z TI TO i1 i2 i3) (fun q o nq e => ?_) free⟩
    simp only [cells, List.mem_cons, List.not_mem_nil, or_false, not_or] at nq
    exact kp q o nq.1 nq.2.2.1 nq.2.2.2.1 nq.2.2.2.2.1 nq.2.2.2.2.2 e
  self A i s Q E st h := wpAny_pyIter_zip st.1 h
def iZip3 (K : PySem.W.Frag) (ta : TA) : TI := fun σ H R => ta σ H fun vs H1 => ∃ a b c xs ys zs, vs = [.ref a, .ref b, .ref c] ∧ SqL K H1 a xs ∧ SqL K H1 b ys ∧ SqL K H1 c zs ∧ R (It3 K a b c) H1
theorem pi_zip3 {X : Cx} {e e2 e3 : Expr} {ta : TA} {p pos tpos : Pos} {elts : List Expr} {kk : Nat} (gl : Gl X "zip") (nm : X.mg "zip" = none) (args : PA X [e, e2, e3] ta)
    (one : starEach [e, e2, e3] X.env = (false, eval e X.env) :: starEach [e2, e3] X.env := by rfl) (more : (backTo pos (starEach [e2, e3] X.env)).any (·.1) = false := by rfl) :
    PI X (.Tuple elts kk tpos) (.Call (.Name "zip" p) [e, e2, e3] [] pos) (iZip3 X.K ta) := by
  constructor
  intro pins s σ H R I had
  refine Call_ (ld_blt I gl nm PyProof.Rows.boot_zip (PyProof.Rows.callWith_type1 (thn (args.run pos pins s σ H _ I had) fun us s1 got => ?_) one more))
  obtain ⟨vs, H1, I1, rel, a, b, c, xs, ys, zs, rfl, q1, q2, q3, goal⟩ := got
  obtain ⟨u1, us, rfl, ra, rel⟩ : ∃ u us', us = u :: us' ∧ RelV (.ref a) u ∧ Vals [V.ref b, V.ref c] us' := by
    cases rel with
    | cons r rr => exact ⟨_, _, rfl, r, rr⟩
  obtain ⟨u2, u3, rfl, rb, rc⟩ := vals2 rel
  cases (show u1 = Value.ref a from ra)
  cases (show u2 = Value.ref b from rb)
  cases (show u3 = Value.ref c from rc)
  obtain ⟨v1, r1, p1, _⟩ := I1.list q1
  obtain ⟨v2, r2, p2, _⟩ := I1.list q2
  obtain ⟨v3, r3, p3, _⟩ := I1.list q3
  have la : a < s1.heap.objs.size := p1.lt
  have lb : b < s1.heap.objs.size := p2.lt
  have lc : c < s1.heap.objs.size := p3.lt
  refine zip_begins3 (begins_list a v1.toArray) (begins_list b v2.toArray) (begins_list c v3.toArray) p1.isList p2.isList p3.isList fun h' hz hTI hTO g1 g2 g3 sz kp => wpAny_pyIter_zip hz ?_
  have I2 : Inv X pins σ H1 { s1 with heap := h' } := I1.kept (t' := s1.toks) kp
  have S := zip_sep3 (N := s1.heap.objs.size) (fp1 := [a]) (fp2 := [b]) (fp3 := [c]) (by simpa using la) (by simpa using lb) (by simpa using lc)
  refine ⟨s1.heap.objs.size + 5, cells (s1.heap.objs.size + 5) (s1.heap.objs.size + 3) (s1.heap.objs.size + 4) s1.heap.objs.size (s1.heap.objs.size + 1) (s1.heap.objs.size + 2), _, _, H1, rfl, I2, turn3 S (Nat.ne_of_lt la) (Nat.ne_of_lt (Nat.lt_succ_of_lt lb)) (Nat.ne_of_lt (Nat.lt_succ_of_lt (Nat.lt_succ_of_lt lc))), ⟨hz, hTI, ⟨_, _, _, hTO⟩, ⟨_, g1, rfl, rfl⟩, ⟨_, g2, rfl, rfl⟩, ⟨_, g3, rfl, rfl⟩⟩, fun q hq => ?_, goal⟩
  have le : s1.heap.objs.size ≤ q := by
    simp only [cells, List.mem_cons, List.not_mem_nil, or_false] at hq
    rcases hq with rfl | rfl | rfl | rfl | rfl | rfl
    · exact Nat.le_add_right _ _
    · exact Nat.le_add_right _ _
    · exact Nat.le_add_right _ _
    · exact Nat.le_refl _
    · exact Nat.le_add_right _ _
    · exact Nat.le_add_right _ _
  exact I1.fpOk le (I1.hok.fresh le)
/-- a new triple of the i-th ones -/
def YTri (xs ys zs : List V) : Nat → Hp → V → Hp → Prop := fun i H v H' => ∃ T x y z, v = .ref T ∧ H T = none ∧ H' = upd H T (.tup [x, y, z]) ∧ xs[i]? = some x ∧ ys[i]? = some y ∧ zs[i]? = some z
theorem walk_zip3 {K : PySem.W.Frag} {a b c : Addr} {xs ys zs : List V} (l2 : ys.length = xs.length) (l3 : zs.length = xs.length) : Walk (It3 K a b c) xs.length (fun H => SqL K H a xs ∧ SqL K H b ys ∧ SqL K H c zs) (YTri xs ys zs) where
  goes _ _ lt q := ⟨xs, ys, zs, q.1, q.2.1, q.2.2, l2, l3, lt⟩
  stops _ q := ⟨xs, ys, zs, q.1, q.2.1, q.2.2, l2, l3, rfl⟩
  yields _ _ _ _ _ q := fun ⟨T, x, y, z, e1, e2, e3, e4, e5, e6⟩ => ⟨T, x, y, z, e1, e2, e3, e4 xs q.1, e5 ys q.2.1, e6 zs q.2.2⟩
end RZ3

/-! a def called in an except suite with the exception itself -/
namespace HotE
open PySem PySem.Spec PyProof.Rows L2 L2H
/-- a promise that is told of the handled exception: its place, its class, its dict -/
abbrev SpE := Addr → Value → Option Addr → Sp
structure FnE (P : Program) (w : World) (K : PySem.W.Frag) (mg : Str → Option Value) (base : Heap) (CX : CXT) (k : Nat) (f : Addr) (fd : FuncData) (ps : List Str) (sp : SpE) : Prop where
  len : ∀ a c d vs H Q E, sp a c d vs H Q E → vs.length = ps.length
  run : ∀ (A : Around) (outer : List Env) (s : Shared) (H : Hp) (args : Args) (us : List Value) (vs : List V) (Q : VK) (E : XK) (p : Addr × Obj) (c : Value) (d : Option Addr),
    RoomH k A → Hot1 A p → PinOk outer H s p → Zc c d p.2 → Env0 P w K mg base A outer s H → BindsTo s fd args (ps.zip us) → Vals vs us → sp p.1 c d vs H Q E →
      codeAny (model P w) A (.call (.ref f) args) (CR CX outer P w H s Q E) s
section
variable {CX : CXT} {P : Program} {w : World} {K : PySem.W.Frag} {mg : Str → Option Value} {base : Heap} {k : Nat} {f : Addr} {N ps : List Str} {sp : SpE}
theorem fn_ofE {name qual : Str} {params : Arguments} {body : List Stmt} {scope : Scope} {dV kV doc pm cdv ct oc : Value} {an od : Option Addr} {osl : Array (Option Value)}
    (there : K.lookup f = some ⟨oc, od, .func (PySem.W.fnOf name qual params body scope dV kV doc pm an cdv ct), osl⟩) (code : PySem.W.codeIn K cdv qual = true) (S : FnScope N ps scope)
    (len : ∀ a c d vs H Q E, sp a c d vs H Q E → vs.length = ps.length)
    (does : ∀ (A : Around) (outer : List Env) (s : Shared) (H : Hp) (vs : List V) (Q : VK) (E : XK) (p : Addr × Obj) (c : Value) (d : Option Addr), Hot1 A p → Zc c d p.2 → RoomH k (A.deeper (envOfC qual scope s.heap.objs.size f cdv)) → sp p.1 c d vs H Q E →
      ∃ t, PSs (cxH CX P w K mg base N qual scope f cdv A outer s H E p) body t ∧ t { nx := fun _ H' => Q .non H', rt := Q } (L2.start N vs) H) :
    FnE P w K mg base CX (k + 1) f (PySem.W.fnOf name qual params body scope dV kV doc pm an cdv ct) ps sp where
  len := len
  run A outer s H args us vs Q E p c d room hot pin zc env bound rel told := by
    have ln := len _ _ _ _ _ _ _ told
    have KX : K.In s.heap := env.mod.kin.keeps fun b o e => And.left (env.bs b o e)
    have free := env.mod.nolimit.keeps fun b o e => And.left (env.bs b o e)
    refine codeAny_call_function room.depth (KX _ _ there) rfl S.co S.gen rfl (PySem.W.codeRec_of KX code) (bound _ _ _ _ (wpAny_newFunctionEnv_cells S.kind (fun nv inz => ?_) fun env2 eq2 s1 x => ?_))
    · obtain ⟨n, v⟩ := nv
      cases S.par n (List.of_mem_zip inz).1 with
      | inl q => exact Or.inl q
      | inr q => exact Or.inr ⟨q, PySem.W.cellsFrom_some _ _ _ (Or.inl q)⟩
    subst eq2
    obtain ⟨t, ht, goal⟩ := does A outer s H vs Q E p c d hot zc (room.deeper _) told
    have I : Inv (cxH CX P w K mg base N qual scope f cdv A outer s H E p) [] (L2.start N vs) H s1 := by exact inv_startH S pin env ln rel x
    refine ⟨free.keeps x.toInCall.keep, codeAny_func (wpAny_mono (ht.run [] s1 _ H _ I goal) (fun fl s' out => ?_) fun _ _ z => z)⟩
    match fl, out with
    | .ret u, ⟨v, σ', H', J, rv, q⟩ => exact ⟨v, H', J.os, J.bare, J.base, J.hok, rv, q⟩
    | .next, ⟨σ', H', J, q⟩ => exact ⟨V.non, H', J.os, J.bare, J.base, J.hok, rfl, q⟩
    | .brk, ⟨_, _, _, q⟩ => exact q.elim
    | .cont, ⟨_, _, _, q⟩ => exact q.elim
/-- a def of the text, called so; it lets nothing out -/
theorem okE {x qual : Str} {st : Stmt} {fd : FuncData} (F : Fun K x qual st f fd) (S : FnScope N ps (defScope st)) (len : ∀ a c d vs H Q E, sp a c d vs H Q E → vs.length = ps.length)
    (does : ∀ (cdv : Value) (A : Around) (outer : List Env) (s : Shared) (H : Hp) (vs : List V) (Q : VK) (E : XK) (p : Addr × Obj) (c : Value) (d : Option Addr), Hot1 A p → Zc c d p.2 → RoomH k (A.deeper (envOfC qual (defScope st) s.heap.objs.size f cdv)) → sp p.1 c d vs H Q E →
      ∃ t, PSs (cxH CX0 P w K mg base N qual (defScope st) f cdv A outer s H E p).nox (defBody st) t ∧ t { nx := fun _ H' => Q .non H', rt := Q } (L2.start N vs) H) : FnE P w K mg base CX0 (k + 1) f fd ps sp := by
  obtain ⟨oc, od, kV, doc, pm, an, cdv, ct, osl, rfl, there, code⟩ := F.ex
  refine fn_ofE there code S len fun A outer s H vs Q E p c d hot zc room told => ?_
  obtain ⟨t, h, q⟩ := does cdv A outer s H vs Q E p c d hot zc room told
  exact ⟨t, h.nox, q⟩
end
/-- the context bears the exception at a, of this class and dict -/
def HotP (X : Cx) (a : Addr) (c : Value) (d : Option Addr) : Prop := ∃ o : Obj, Hot1 X.A (a, o) ∧ (a, o) ∈ X.pn ∧ Zc c d o
theorem hotP_suite {X : Cx} {a : Addr} {oe : Obj} {c : Value} {d : Option Addr} {pn : List (Addr × Obj)} (hz : L2N.Zn c d oe) (hf : ∃ vs, oe.data = .fields vs) : HotP (X.suite a ((a, oe) :: pn)) a c d := by
  obtain ⟨vs, hv⟩ := hf
  exact ⟨oe, ⟨rfl, vs, hv, hz.2.2 vs hv⟩, List.mem_cons_self, hz.zc⟩
section
variable {X : Cx} {CX : CXT} {k : Nat} {f a : Addr} {c : Value} {d : Option Addr} {fd : FuncData} {ps : List Str} {sp : SpE} {E : L2.St → XK} {x : Str} {q pos : Pos} {e : Expr} {es : List Expr} {t : TA}
/-- f(.., the exception, ..) in its suite -/
theorem pe_callE (F : FnE X.prog X.w X.K X.mg X.base CX k f fd ps sp) (room : RoomH k X.A) (hot : HotP X a c d) (gl : Gl X x) (there : X.mg x = some (.ref f)) (kp : PySem.W.keepIn X.K (.ref f) = true) (bi : Binds X.K fd ps []) (pass : ∀ σ, PassesAt CX X σ (E σ))
    (args : PA X (e :: es) t) (nodebug : (x == ("__debug__" : Str)) = false := by decide) (one : starEach (e :: es) X.env = (false, eval e X.env) :: starEach es X.env := by rfl) (more : (backTo pos (starEach es X.env)).any (·.1) = false := by rfl) :
    PE X (.Call (.Name x q) (e :: es) [] pos) (tCallS (sp a c d) E t) := by
  constructor
  intro pins s σ H Q I had
  refine wpAny_Call_Name_kw (ld_glob I gl there ?_ nodebug)
  refine PySem.W.callWith_K (h₀ := X.base) I.ok.mod.kin kp (thn (args.run pos pins s σ H _ I had) ?_) one more
  rintro us s1 ⟨vs, G, I1, rel, told⟩
  obtain ⟨o, h1, inp, zc⟩ := hot
  have bnd := bi s1 us I1.kIn (by rw [List.append_nil, ← rel.length]; exact F.len _ _ _ _ _ _ _ told)
  rw [List.append_nil] at bnd
  obtain ⟨p1, p2, p3, p4, p5⟩ := I1.pin (a, o) (List.mem_append_left _ inp)
  have pin : PinOk X.stack G s1 (a, o) := ⟨p1, p2, fun z => (List.mem_cons.mp (I1.stkSub a z)).elim p3 p4, p5⟩
  refine ⟨I1.kIn, wpAny_call (codeAny_mono (F.run X.A X.stack s1 G ⟨us, []⟩ us vs Q (E σ) (a, o) c d room h1 pin zc I1.env0 bnd rel told) fun r s2 h2 => ?_)⟩
  match r, h2 with
  | .error er, h2 => exact pass σ pins G s1 er s2 I1 h2
  | .ok (.ret u), h2 => exact I1.after h2
  | .ok .next, h2 => exact h2.elim
  | .ok .brk, h2 => exact h2.elim
  | .ok .cont, h2 => exact h2.elim
end
/-- isinstance(e, c), e the exception that the context bears -/
theorem call_isP {X : Cx} {K : PySem.W.Frag} {a : Addr} {cls : Value} {d : Option Addr} (hK : X.K = K) (hot : HotP X a cls d) : CallR X (.builtin "isinstance") (rIsS2 K a cls d) := by
  subst hK
  rintro pins s σ H _ us Q I rel ⟨C, c, u, b, rfl, rfl, kind, D, isC, ans, goal⟩
  obtain ⟨u1, u2, rfl, r1, r2⟩ := vals2 rel
  cases isC.eq r2
  cases (show u1 = Value.ref a from r1)
  obtain ⟨o, ⟨_, vs, hv, _⟩, inp, zc1, zc2⟩ := hot
  have here : s.heap.get? a = some o := (I.pin (a, o) (List.mem_append_left _ inp)).1
  have nc : PySem.W.notCls o = true := by
    unfold PySem.W.notCls
    rw [show o.data = .fields vs from hv]
  rcases kind with rfl | ⟨dd, fs, rfl, there⟩
  · have J : PySem.W.InstAt s.heap a o C none := ⟨here, zc1, nc, by rw [zc2]; trivial⟩
    exact PySem.W.kia_one (kitX_err D) I.kIn J ans (fun z => nomatch z) fun tk => ⟨.bl b, H, I.kept (t' := tk) fun _ _ z => z, rfl, goal⟩
  · have hx : ObjOk X.prog X.w H s.heap dd (.xd fs) := I.hok dd _ there
    obtain ⟨mA, hns, _⟩ := hx
    obtain ⟨od, ho, _⟩ := lookIn_ns hns
    have J : PySem.W.InstAt s.heap a o C (some od) := ⟨here, zc1, nc, by rw [zc2]; exact ho⟩
    exact PySem.W.kia_one (kitX_err D) I.kIn J ans (fun z => nomatch z) fun tk => ⟨.bl b, H, I.kept (t' := tk) fun _ _ z => z, rfl, goal⟩
end HotE

namespace StK
open PySem PySem.Spec PyProof.Rows L2 StX
section
variable {X : Cx} {CX : CXT} {k : Nat} {f : Addr} {sp : Sp} {E : L2.St → XK} {x : Str} {p pos : Pos} {e : Expr} {es : List Expr} {t : TA}
/-- f(e, ..) of a def that may raise and is told of its values alone -/
theorem pe_callRS (F : FnR X.prog X.w X.K X.mg X.base CX k f sp) (room : Room k X.A) (gl : Gl X x) (there : X.mg x = some (.ref f)) (kp : PySem.W.keepIn X.K (.ref f) = true) (pass : ∀ σ, PassesAt CX X σ (E σ))
    (ha : PA X (e :: es) t) (nd : (x == ("__debug__" : Str)) = false := by decide) (st : starEach (e :: es) X.env = (false, eval e X.env) :: starEach es X.env := by rfl) (pl : (backTo pos (starEach es X.env)).any (·.1) = false := by rfl) :
    PE X (.Call (.Name x p) (e :: es) [] pos) (tCallS sp E t) := by
  constructor
  intro pins s σ H Q I had
  refine wpAny_Call_Name_kw (ld_glob I gl there ?_ nd)
  refine PySem.W.callWith_K (h₀ := X.base) I.ok.mod.kin kp (thn (ha.run pos pins s σ H _ I had) ?_) st pl
  rintro us s1 ⟨vs, H1, I1, r, g1⟩
  refine ⟨I1.kIn, wpAny_call (codeAny_mono (F X.A X.stack s1 H1 us vs Q (E σ) room I1.env0 r g1) fun out s' h' => ?_)⟩
  match out, h' with
  | .error e, h' => exact pass σ pins H1 s1 e s' I1 h'
  | .ok (.ret u), h' => exact I1.after h'
  | .ok .next, h' => exact h'.elim
  | .ok .brk, h' => exact h'.elim
  | .ok .cont, h' => exact h'.elim
theorem pe_callRS0 (F : FnR X.prog X.w X.K X.mg X.base CX k f sp) (room : Room k X.A) (gl : Gl X x) (there : X.mg x = some (.ref f)) (kp : PySem.W.keepIn X.K (.ref f) = true) (pass : ∀ σ, PassesAt CX X σ (E σ))
    (nd : (x == ("__debug__" : Str)) = false := by decide) : PE X (.Call (.Name x p) [] [] pos) (tCallS sp E tNil) := by
  constructor
  intro pins s σ H Q I had
  refine wpAny_Call_Name_kw (ld_glob I gl there (PySem.W.callWith_K0 I.kIn kp ?_) nd)
  refine wpAny_call (codeAny_mono (F X.A X.stack s H [] [] Q (E σ) room I.env0 .nil had) fun out s' h' => ?_)
  match out, h' with
  | .error e, h' => exact pass σ pins H s e s' I h'
  | .ok (.ret u), h' => exact I.after h'
  | .ok .next, h' => exact h'.elim
  | .ok .brk, h' => exact h'.elim
  | .ok .cont, h' => exact h'.elim
end
end StK
namespace RvT
open PySem PySem.Spec PyProof.Rows L2
theorem op_notInTK {X : Cx} {K : PySem.W.Frag} (h : X.K = K) (room : X.A.units + 65 < cLine) : OpR X (compareOp .NotIn) (rNotInT K) := by
  subst h
  exact op_notInT room
end RvT

/-! xs[::-1] of a list; x in d as a test -/
namespace StK
open PySem PySem.Spec PyProof.Rows L2
section
variable {X : Cx} {e st : Expr} {te tk : TE} {pos p2 : Pos}
def tBack (K : PySem.W.Frag) (te tk : TE) : TE := fun σ H Q => te σ H fun x H1 => tk σ H1 fun z H2 => z = .int (-1) ∧ ∃ a xs, x = .ref a ∧ SqL K H2 a xs ∧ ∀ p, H2 p = none → Q (.ref p) (upd H2 p (.lst xs.reverse))
theorem pe_back (he : PE X e te) (hk : PE X st tk) : PE X (.Subscript e (.Slice none none (some st) p2) pos) (tBack X.K te tk) := by
  refine ⟨fun pins s σ H Q I h => Subscript_ (thn (he.run pins s σ H _ I h) ?_)⟩
  rintro v s1 ⟨x, H1, I1, r1, q1⟩
  refine wpAny_Slice ?_
  rw [evalPart_none]
  refine wpAny_pure (wpAny_pure ?_)
  rw [evalPart_some]
  refine thn (hk.run pins s1 σ H1 _ I1 q1) ?_
  rintro vk s3 ⟨z, H3, I3, rz, rfl, a, xs, rfl, hx, q⟩
  cases r1
  obtain ⟨tk3, rfl⟩ : ∃ t, vk = .int (-1) t := by
    obtain ⟨t, e⟩ := rz
    exact ⟨t, e⟩
  have I4 : Inv X pins σ H3 { s3 with heap := s3.heap.push { cls := .type "slice", data := .fields #[.none, .none, .int (-1) tk3] } } := I3.kept (t' := s3.toks) fun b ob g => Heap.get?_push_of_some _ g
  obtain ⟨its, r, ht, hz⟩ := I4.list hx
  have rl := r.length
  have sl : ({ s3 with heap := s3.heap.push { cls := .type "slice", data := .fields #[.none, .none, .int (-1) tk3] } } : Shared).heap.IsSliceOf s3.heap.objs.size .none .none (.int (-1) tk3) := Heap.IsSliceOf.new ..
  refine tail_any (T := "list") (ops := [.ref a, .ref s3.heap.objs.size]) ht.isList.typeIs slot_list_getitem.lookup ?_ rfl
  refine wpAny_getItem_list_slice ht.isList sl .none .none (.int _ _) (by decide) ?_ (by rw [List.size_toArray]; omega)
  rw [PySem.W.krv_pick]
  refine ⟨.ref _, _, I4.laid (t' := s3.toks) (o := .lst xs.reverse) (fun b ob g => Heap.get?_push_of_some _ g) (Nat.le_refl _) ?_, rfl, q _ (I4.hok.fresh (Nat.le_refl _))⟩
  exact ⟨by rw [List.length_reverse]; omega, _, 0, r.reverse, Heap.get?_push_size _ rfl⟩
end
end StK

/-! data of one shape: <, <= and sorted; xs[:0:-1]; C(e, ..) that may raise -/
namespace DaS
open PySem PySem.Spec PyProof.Rows PySem.W L2
/-- two things of one shape, compared -/
def Two (K : PySem.W.Frag) (H : Hp) (x y : V) (d e : PyData) : Prop := Dp K H x d ∧ Dp K H y e ∧ alike d e = true ∧ d ≠ .none ∧ d.depth ≤ 64
def rLeD (K : PySem.W.Frag) : R2 := fun x y H Q => ∃ d e, Two K H x y d e ∧ Q (.bl (!dataLt e d)) H
def rLtD (K : PySem.W.Frag) : R2 := fun x y H Q => ∃ d e, Two K H x y d e ∧ Q (.bl (dataLt d e)) H
section
variable {X : Cx}
theorem op_leD (room : X.A.units + 64 < cLine) : OpR X (compareOp .LtE) (rLeD X.K) := by
  rintro pins s σ H x y v u Q I rx ry ⟨d, e, ⟨hd, he, al, nn, dp⟩, q⟩
  obtain ⟨as, reads1⟩ := Dp.reads I d x v hd rx
  obtain ⟨bs, reads2⟩ := Dp.reads I e y u he ry
  exact le_data reads1 reads2 al nn (by omega) ⟨.bl _, H, I, rfl, q⟩
theorem op_ltD (room : X.A.units + 64 < cLine) : OpR X (compareOp .Lt) (rLtD X.K) := by
  rintro pins s σ H x y v u Q I rx ry ⟨d, e, ⟨hd, he, al, nn, dp⟩, q⟩
  obtain ⟨as, reads1⟩ := Dp.reads I d x v hd rx
  obtain ⟨bs, reads2⟩ := Dp.reads I e y u he ry
  exact lt_data reads1 reads2 al nn (by omega) ⟨.bl _, H, I, rfl, q⟩
/-- sorted of a list of things of one shape -/
def rSortD (K : PySem.W.Frag) : List V → Hp → VK → Prop := fun vs H Q => ∃ (a : Addr) (bs : List (V × PyData)), vs = [.ref a] ∧ SqL K H a (bs.map Prod.fst) ∧ (∀ b ∈ bs, Dp K H b.1 b.2 ∧ b.2.depth ≤ 60) ∧ AllAlike (bs.map Prod.snd) ∧ Sortable (bs.map Prod.snd) ∧
  ∀ p, H p = none → Q (.ref p) (upd H p (.lst ((bs.mergeSort (dataLe false Prod.snd)).map Prod.fst)))
theorem each_vals {R : V × PyData → Prop} : ∀ {bs : List (V × PyData)} {us : List Value}, Vals (bs.map Prod.fst) us → (∀ b ∈ bs, R b) → EachIs (fun v b => RelV b.1 v ∧ R b) us bs
  | [], _, r, _ => by cases r; exact .nil
  | b :: bs, _, r, h => by
    cases r with
    | cons r1 r2 => exact .cons ⟨r1, h b (List.mem_cons_self ..)⟩ (each_vals r2 fun c hc => h c (List.mem_cons_of_mem _ hc))
theorem vals_each {R : V × PyData → Prop} : ∀ {bs : List (V × PyData)} {us : List Value}, EachIs (fun v b => RelV b.1 v ∧ R b) us bs → Vals (bs.map Prod.fst) us
  | _, _, .nil => .nil
  | _, _, .cons h t => .cons h.1 (vals_each t)
theorem each_mono {α β : Type} {R S : α → β → Prop} (h : ∀ a b, R a b → S a b) : ∀ {as : List α} {bs : List β}, EachIs R as bs → EachIs S as bs
  | _, _, .nil => .nil
  | _, _, .cons r t => .cons (h _ _ r) (each_mono h t)
theorem cr_sortD (room : X.A.units + 64 < cLine) : CallR X (.builtin "sorted") (rSortD X.K) := by
  rintro pins s σ H vs us Q I r ⟨a, bs, rfl, hs, hd, al, so, q⟩
  obtain ⟨its, rv, hl, hz⟩ := I.list hs
  rw [Vals.ref1 r]
  have ln : its.length = bs.length := by rw [← rv.length, List.length_map]
  rw [List.length_map] at hz
  have E1 := each_vals (R := fun b => b ∈ bs) rv fun b hb => hb
  refine sorted_data (enc := Prod.snd) hl.isList E1 (each_mono (fun v b rb => Dp.reads I b.2 b.1 v (hd b rb.2).1 rb.1) E1) al so hz (fun b hb => ?_) fun out lo eo => ?_
  · have := (hd b hb).2
    omega
  · obtain ⟨n, hn⟩ := sortedAll_at s.heap its out.toArray
    have rv2 := vals_each eo
    have kp : ∀ b o, s.heap.get? b = some o → (sortedAll s.heap its out.toArray).get? b = some o := fun b o e => sortedAll_old e
    have hz2 : ((bs.mergeSort (dataLe false Prod.snd)).map Prod.fst).length ≤ sizeLine := by
      rw [List.length_map, List.length_mergeSort]
      exact hz
    refine ⟨.ref (s.heap.objs.size + 1), upd H (s.heap.objs.size + 1) (.lst ((bs.mergeSort (dataLe false Prod.snd)).map Prod.fst)), I.laid (t' := s.toks) kp (Nat.le_succ _) ⟨hz2, out, n, rv2, hn⟩, rfl, q _ (I.hok.fresh (Nat.le_succ _))⟩
end
section
variable {X : Cx} {CX : CXT} {k : Nat} {f C : Addr} {fd : FuncData} {ps : List Str} {sp : Sp} {E : L2.St → XK} {x : Str} {p pos : Pos} {e : Expr} {es : List Expr} {t : TA}
/-- C(e, ..), its __init__ may raise -/
def tMakeP (C : Addr) (sp : Sp) (E : L2.St → XK) (t : TA) : TE := fun σ H Q => t σ H fun vs G => ∀ c dx, G c = none → G dx = none → dx ≠ c →
  sp (.ref c :: (vs ++ [])) (upd (upd G dx (.own c)) c (.ins C dx [])) (fun v G2 => v = .non ∧ Q (.ref c) G2) (E σ)
theorem pe_makeP (M : Mk X.K C f) (F : FnOk X.prog X.w X.K X.mg X.base CX k f fd ps sp) (room : Room (k + 1) X.A) (g : Gl X x) (m : X.mg x = some (.ref C)) (b : Binds X.K fd ps []) (pass : ∀ σ, PassesAt CX X σ (E σ)) (args : PA X (e :: es) t)
    (nodebug : (x == ("__debug__" : Str)) = false := by decide) (one : starEach (e :: es) X.env = (false, eval e X.env) :: starEach es X.env := by rfl) (more : (backTo pos (starEach es X.env)).any (·.1) = false := by rfl) :
    PE X (.Call (.Name x p) (e :: es) [] pos) (tMakeP C sp E t) := by
  constructor
  intro pins s σ H Q I had
  refine wpAny_Call_Name_kw (ld_glob I g m ?_ nodebug)
  refine PySem.W.callWith_K (h₀ := X.base) I.ok.mod.kin M.kp (thn (args.run pos pins s σ H _ I had) ?_) one more
  rintro us s1 ⟨vs, G, I1, rel, q⟩
  have free : ∀ c, s1.heap.objs.size ≤ c → G c = none := fun c le => I1.hok.fresh le
  have had1 := q (s1.heap.objs.size + 1) s1.heap.objs.size (free _ (Nat.le_succ _)) (free _ (Nat.le_refl _)) (Nat.ne_of_lt (Nat.lt_succ_self _))
  have I2 := Inv.made I1 (C := C)
  have rel2 : Vals (V.ref (s1.heap.objs.size + 1) :: (vs ++ [])) ((Value.ref (s1.heap.objs.size + 1) :: us) ++ []) := by
    rw [List.append_nil, List.append_nil]
    exact .cons rfl rel
  have len : ((Value.ref (s1.heap.objs.size + 1) :: us) ++ []).length = ps.length := by
    rw [← F.len _ _ _ _ had1]
    exact rel2.length.symm
  refine ⟨I1.kIn, wpAny_call (make_map (f := f) I1.kIn M.makes M.init (beq_iff_eq.mp M.fn) (codeAny_mono (F.run _ X.stack _ _ ⟨Value.ref (s1.heap.objs.size + 1) :: us, []⟩ ((Value.ref (s1.heap.objs.size + 1) :: us) ++ []) _ _ (E σ) (room.make C us [])
    (I2.env0.make C us []) (b _ _ I2.kIn len) rel2 had1) fun r s2 told => ?_))⟩
  match r, told with
  | .error er, told => exact pass σ pins _ _ er s2 I2 told
  | .ok (.ret u), told =>
    obtain ⟨v, G2, I3, ru, rfl, q2⟩ := I2.after told
    exact ⟨ru, V.ref (s1.heap.objs.size + 1), G2, I3, rfl, q2⟩
  | .ok .next, told => exact told.elim
  | .ok .brk, told => exact told.elim
  | .ok .cont, told => exact told.elim
end
end DaS
namespace DaS
open PySem PySem.Spec PyProof.Rows PySem.W L2
theorem low_range (n : Nat) : (List.range n).map (fun k => n - k) = ((List.range n).map (1 + ·)).reverse := by
  apply List.ext_getElem
  · simp
  · intro i h1 h2
    rw [List.length_map, List.length_range] at h1
    rw [List.getElem_map, List.getElem_range, List.getElem_reverse, List.getElem_map, List.getElem_range, List.length_map, List.length_range]
    omega
theorem low_bounds (n : Nat) : sliceBounds none (some 0) (some (-1)) n = ((n : Int) - 1, (if n = 0 then -1 else 0), -1) := by
  unfold sliceBounds
  show ((n : Int) - 1, max (-1) (min 0 ((n : Int) - 1)), (-1 : Int)) = _
  by_cases c : n = 0
  · rw [if_pos c, c]
    rfl
  · rw [if_neg c, show min (0 : Int) ((n : Int) - 1) = 0 by omega]
    rfl
theorem low_sliceRange (n : Nat) : sliceRange ((n : Int) - 1) (if n = 0 then -1 else 0) (-1) = (List.range (n - 1)).map fun k => n - 1 - k := by
  unfold sliceRange
  have h1 : ¬ ((-1 : Int) > 0) := by decide
  by_cases c : n = 0
  · subst c
    rfl
  · rw [if_neg c]
    by_cases h : (n : Int) - 1 > 0
    · have e : ((n : Int) - 1 - 0 - -1 - 1) / (- -1) = ((n - 1 : Nat) : Int) := by
        rw [show (- -1 : Int) = 1 by decide, Int.ediv_one]
        omega
      simp only [h1, if_false, h, if_true, e, Int.toNat_natCast]
      apply List.map_congr_left
      intro k hk
      have := List.mem_range.mp hk
      omega
    · have e : n = 1 := by omega
      subst e
      rfl
theorem low_pick (items : Array Value) : slicePick items none (some 0) (some (-1)) = items.toList.tail.reverse.toArray := by
  unfold slicePick
  rw [low_bounds]
  show ((sliceRange ((items.size : Int) - 1) (if items.size = 0 then -1 else 0) (-1)).filterMap (items[·]?)).toArray = _
  rw [low_sliceRange, low_range, List.filterMap_reverse, pick_run]
  congr 2
  rw [List.take_of_length_le (by rw [List.length_drop, Array.length_toList]; omega), List.drop_one]
section
variable {X : Cx} {e up st : Expr} {te tu tk : TE} {pos p2 : Pos}
/-- xs[:0:-1]: all but the first, backwards -/
def tLow (K : PySem.W.Frag) (te tu tk : TE) : TE := fun σ H Q => te σ H fun x H1 => tu σ H1 fun y H2 => y = .int 0 ∧ tk σ H2 fun z H3 => z = .int (-1) ∧ ∃ a xs, x = .ref a ∧ SqL K H3 a xs ∧ ∀ p, H3 p = none → Q (.ref p) (upd H3 p (.lst xs.tail.reverse))
theorem pe_low (he : PE X e te) (hu : PE X up tu) (hk : PE X st tk) : PE X (.Subscript e (.Slice none (some up) (some st) p2) pos) (tLow X.K te tu tk) := by
  refine ⟨fun pins s σ H Q I h => Subscript_ (thn (he.run pins s σ H _ I h) ?_)⟩
  rintro v s1 ⟨x, H1, I1, r1, q1⟩
  refine wpAny_Slice ?_
  rw [evalPart_none]
  refine wpAny_pure ?_
  rw [evalPart_some]
  refine thn (hu.run pins s1 σ H1 _ I1 q1) ?_
  rintro vu s2 ⟨y, H2, I2, ry, rfl, q2⟩
  rw [evalPart_some]
  refine thn (hk.run pins s2 σ H2 _ I2 q2) ?_
  rintro vk s3 ⟨z, H3, I3, rz, rfl, a, xs, rfl, hx, q⟩
  cases r1
  obtain ⟨tu3, rfl⟩ : ∃ t, vu = .int 0 t := by
    obtain ⟨t, e⟩ := ry
    exact ⟨t, e⟩
  obtain ⟨tk3, rfl⟩ : ∃ t, vk = .int (-1) t := by
    obtain ⟨t, e⟩ := rz
    exact ⟨t, e⟩
  have I4 : Inv X pins σ H3 { s3 with heap := s3.heap.push { cls := .type "slice", data := .fields #[.none, .int 0 tu3, .int (-1) tk3] } } := I3.kept (t' := s3.toks) fun b ob g => Heap.get?_push_of_some _ g
  obtain ⟨its, r, ht, hz⟩ := I4.list hx
  have rl := r.length
  have sl : ({ s3 with heap := s3.heap.push { cls := .type "slice", data := .fields #[.none, .int 0 tu3, .int (-1) tk3] } } : Shared).heap.IsSliceOf s3.heap.objs.size .none (.int 0 tu3) (.int (-1) tk3) := Heap.IsSliceOf.new ..
  refine tail_any (T := "list") (ops := [.ref a, .ref s3.heap.objs.size]) ht.isList.typeIs slot_list_getitem.lookup ?_ rfl
  refine wpAny_getItem_list_slice ht.isList sl .none (.int _ _) (.int _ _) (by decide) ?_ (by rw [List.size_toArray]; omega)
  rw [low_pick]
  have r' : Vals xs.tail its.tail := by
    cases r with
    | nil => exact .nil
    | cons _ r2 => exact r2
  refine ⟨.ref _, _, I4.laid (t' := s3.toks) (o := .lst xs.tail.reverse) (fun b ob g => Heap.get?_push_of_some _ g) (Nat.le_refl _) ?_, rfl, q _ (I4.hok.fresh (Nat.le_refl _))⟩
  exact ⟨by rw [List.length_reverse, List.length_tail]; omega, _, 0, r'.reverse, Heap.get?_push_size _ rfl⟩
end
end DaS

/-! sorted of a tuple of data of one shape -/
namespace DaS
open PySem PySem.Spec PyProof.Rows PySem.W PySem.Calls L2
section
variable {X : Cx}
def rSortT (K : PySem.W.Frag) : List V → Hp → VK → Prop := fun vs H Q => ∃ (a : Addr) (bs : List (V × PyData)), vs = [.ref a] ∧ SqT K H a (bs.map Prod.fst) ∧ (∀ b ∈ bs, Dp K H b.1 b.2 ∧ b.2.depth ≤ 60) ∧ AllAlike (bs.map Prod.snd) ∧ Sortable (bs.map Prod.snd) ∧
  ∀ p, H p = none → Q (.ref p) (upd H p (.lst ((bs.mergeSort (dataLe false Prod.snd)).map Prod.fst)))
theorem cr_sortT (room : X.A.units + 64 < cLine) : CallR X (.builtin "sorted") (rSortT X.K) := by
  rintro pins s σ H vs us Q I r ⟨a, bs, rfl, hs, hd, al, so, q⟩
  obtain ⟨its, rv, hl, hz⟩ := I.tuple hs
  rw [Vals.ref1 r]
  have ln : its.length = bs.length := by rw [← rv.length, List.length_map]
  rw [List.length_map] at hz
  have E1 := each_vals (R := fun b => b ∈ bs) rv fun b hb => hb
  obtain ⟨o, ho, hc, n, hdat⟩ := hl
  refine call_function_entry kind_sorted plain_sorted entry_sorted (args_sorted1 _) ?_
  unfold Builtin.«sorted»
  refine wpAny_bind (m := checkCount "sorted" 1 1 _) (wpAny_pure ?_)
  refine wpAny_bind (wpAny_collect_seq a (.inr rfl) ho hc hdat (fun h' kp => ?_) (by rw [List.size_toArray, ln]; exact hz))
  refine wpAny_bind (wpAny_newList ?_ (by show its.length ≤ _; rw [ln]; exact hz))
  have e2 : its.toArray.toList = its := rfl
  show wpAny _ X.A.in1 _ _ _ { s with heap := h'.push (seqObj "list" its.toArray 0) }
  have hD : (h'.push (seqObj "list" its.toArray 0)).get? h'.objs.size = some (seqObj "list" its.toArray 0) := Heap.get?_push_size _ rfl
  have old : ∀ b o, s.heap.get? b = some o → b ≠ h'.objs.size ∧ (h'.push (seqObj "list" its.toArray 0)).get? b = some o := fun b o e =>
    ⟨Nat.ne_of_lt (Heap.lt_size (kp b o e)), Heap.get?_push_of_some _ (kp b o e)⟩
  have er : EachIs (fun v b => ∃ as, Reads (sortingHeap (h'.push (seqObj "list" its.toArray 0)) h'.objs.size its) v b.2 as) its bs := each_mono (fun v b rb => by
    obtain ⟨as, r⟩ := Dp.reads I b.2 b.1 v (hd b rb.2).1 rb.1
    exact ⟨as, PyProof.Rows.Reads.keeps (fun b o e => sortingHeap_old (old b o e).1 (old b o e).2) r⟩) E1
  have run : wpAny (model X.prog X.w) X.A.in1 (call (.builtin "list.sort") [.ref h'.objs.size]) (fun _ s' => s' = { s with heap := sortedHeap (h'.push (seqObj "list" its.toArray 0)) h'.objs.size its (sortVals (dataKind (sortingHeap (h'.push (seqObj "list" its.toArray 0)) h'.objs.size its) (bs.map Prod.snd)) false its its).toArray }) X.xe { s with heap := h'.push (seqObj "list" its.toArray 0) } :=
    wpAny_call_entry slot_list_sort ⟨_, hD, rfl⟩ entry_list_sort (list_sort_vals (κ := dataKind (sortingHeap (h'.push (seqObj "list" its.toArray 0)) h'.objs.size its) (bs.map Prod.snd)) hD
      (SortsAt.data (s := { s with heap := sortingHeap (h'.push (seqObj "list" its.toArray 0)) h'.objs.size its }) (each_map (R := fun v d => ∃ as, Reads (sortingHeap (h'.push (seqObj "list" its.toArray 0)) h'.objs.size its) v d as) Prod.snd er) al so (bound_map fun b hb => by
        have := (hd b hb).2
        show X.A.units + 1 + 1 + b.2.depth < cLine
        omega)) (by rw [ln]; exact hz) ⟨.none, rfl, rfl⟩) (args_list_sort _)
  refine wpAny_bind (wpAny_holding (wpAny_mono run (fun _ s' x => ?_) fun _ _ e => e))
  subst x
  refine wpAny_pure ⟨_, rfl, ?_⟩
  obtain ⟨m, hm⟩ := sortedHeap_at (out := (sortVals (dataKind (sortingHeap (h'.push (seqObj "list" its.toArray 0)) h'.objs.size its) (bs.map Prod.snd)) false its its).toArray) hD
  have rs := vals_each (sortVals_data (enc := Prod.snd) false E1 er al)
  have hz2 : ((bs.mergeSort (dataLe false Prod.snd)).map Prod.fst).length ≤ sizeLine := by
    rw [List.length_map, List.length_mergeSort]
    exact hz
  have I1 : Inv X pins σ H { s with heap := h' } := I.kept (t' := s.toks) kp
  exact ⟨.ref h'.objs.size, upd H h'.objs.size (.lst ((bs.mergeSort (dataLe false Prod.snd)).map Prod.fst)), I1.laid (t' := s.toks) (fun b o e => by rw [sortedHeap_old (Nat.ne_of_lt (Heap.lt_size e)) (Heap.lt_size (Heap.get?_push_of_some _ e))]; exact Heap.get?_push_of_some _ e) (Nat.le_refl _) ⟨hz2, _, m, rs, hm⟩, rfl, q _ (I1.hok.fresh (Nat.le_refl _))⟩
end
end DaS

/-! a walk over zip of four lists of one length: by a loop lemma over the iterators -/
namespace RZ4
open PySem PySem.Spec PyProof.Rows L2
/-- a for loop over a list that never leaves early -/
theorem forIn_all {α β : Type} {M : Model} {A : Around} {E : Value → Shared → Prop} {F : α → β → Sem (ForInStep β)} {b : β} {Q : β → Shared → Prop} (J : List α → Shared → Prop)
    (step : ∀ x xs s, J (x :: xs) s → wpAny M A (F x b) (fun r s' => r = .yield b ∧ J xs s') E s) : ∀ (l : List α) (s : Shared), J l s → (∀ s', J [] s' → Q b s') → wpAny M A (forIn l b F) Q E s
  | [], s, j, q => by
    rw [List.forIn_nil]
    exact wpAny_pure (q s j)
  | x :: xs, s, j, q => by
    rw [List.forIn_cons]
    refine wpAny_bind (thn (step x xs s j) fun r s' ⟨e, j'⟩ => ?_)
    subst e
    exact forIn_all J step xs s' j' q
abbrev Tup4 (h : Heap) (T : Addr) (xs : Array Value) : Prop := h.get? T = some { cls := .type "tuple", data := .seq xs }
/-- the cells of a zip over iterators (js: iterator, list) lie apart -/
structure Sep (zp TI TO : Addr) (js : List (Addr × Addr)) : Prop where
  iz : TI ≠ zp
  oz : TO ≠ zp
  io : TI ≠ TO
  ti : ∀ j ∈ js, TI ≠ j.1
  z1 : ∀ j ∈ js, zp ≠ j.1
  z2 : ∀ j ∈ js, zp ≠ j.2
  o1 : ∀ j ∈ js, TO ≠ j.1
  o2 : ∀ j ∈ js, TO ≠ j.2
  nd : (js.map Prod.fst).Nodup
  ap : ∀ j ∈ js, ∀ k ∈ js, j.2 ≠ k.1
/-- the list j of lists at its i-th item -/
def At (h : Heap) (j : Addr × Addr) (v : Array Value) (i : Nat) : Prop := h.IsListIter j.1 j.2 i ∧ h.IsList j.2 v
theorem At.keep {h h' : Heap} {j : Addr × Addr} {v : Array Value} {i : Nat} (a : At h j v i) (k1 : ∀ o, h.get? j.1 = some o → h'.get? j.1 = some o) (k2 : ∀ o, h.get? j.2 = some o → h'.get? j.2 = some o) : At h' j v i :=
  ⟨a.1.at k1, a.2.at k2⟩
section
variable {prog : Program} {w : World} {A : Around} {E : Value → Shared → Prop} {s : Shared} {zp TI TO : Addr} {js : List (Addr × Addr)} {vs : List (Array Value)} {i n : Nat}
/-- in a turn: q iterators have told their item -/
structure Mid (zp TI TO : Addr) (js : List (Addr × Addr)) (vs : List (Array Value)) (i : Nat) (hp0 h : Heap) (q : Nat) : Prop where
  zz : IsZip h zp TI TO .ellipsis
  sz : h.objs.size = hp0.objs.size
  out : ∃ xs : Array Value, Tup4 h TO xs ∧ xs.size = js.length ∧ ∀ (p : Nat) (v : Array Value), p < q → vs[p]? = some v → v[i]? = xs[p]?
  its : ∀ (p : Nat) (j : Addr × Addr) (v : Array Value), js[p]? = some j → vs[p]? = some v → At h j v (if p < q then i + 1 else i)
  kept : ∀ c o, c ≠ zp → c ≠ TO → c ∉ js.map Prod.fst → hp0.get? c = some o → h.get? c = some o
theorem next_item {Q : Value → Shared → Prop} (calm : A.handled = none) (S : Sep zp TI TO js) (lv : vs.length = js.length) (few : js.length ≤ 4) (hz0 : IsZip s.heap zp TI TO .none) (hI : Tup4 s.heap TI (js.map fun j => Value.ref j.1).toArray) {xs0 : Array Value} (hO : Tup4 s.heap TO xs0) (x0 : xs0.size = js.length) (ne : js ≠ [])
    (at_ : ∀ (p : Nat) (j : Addr × Addr) (v : Array Value), js[p]? = some j → vs[p]? = some v → At s.heap j v i ∧ i < v.size)
    (hQ : ∀ (xs : Array Value) (h' : Heap) (tk : Tok), xs.size = js.length → (∀ (p : Nat) (v : Array Value), vs[p]? = some v → v[i]? = xs[p]?) → IsZip h' zp TI TO (rawInt s.heap.objs.size) → Tup4 h' TO xs → (∀ (p : Nat) (j : Addr × Addr) (v : Array Value), js[p]? = some j → vs[p]? = some v → At h' j v (i + 1)) → Tup4 h' s.heap.objs.size xs → h'.objs.size = s.heap.objs.size + 1 →
      (∀ c o, c ≠ zp → c ≠ TO → c ∉ js.map Prod.fst → s.heap.get? c = some o → h'.get? c = some o) → Q (.ref s.heap.objs.size) { s with heap := h', toks := tk }) :
    wpAny (model prog w) A (Builtin.«zip.__next__» ⟨[.ref zp], []⟩) (fun fin s' => ∃ v, fin = .done (.ret v) ∧ Q v s') E s := by
  obtain ⟨hp0, g, d, tk0, os⟩ := s
  show wpAny _ _ (field (.ref zp) 2 >>= _) _ _ _
  refine wpAny_bind (wpAny_field hz0 rfl (x := .bool false) rfl ?_)
  refine wpAny_bind (wpAny_field hz0 rfl (x := .ref TI) rfl ?_)
  refine wpAny_bind (wpAny_seqItems hI rfl ?_)
  have em : (js.map fun j => Value.ref j.1).toArray.isEmpty = false := by
    cases js with
    | nil => exact absurd rfl ne
    | cons a b => simp
  simp only [em, if_false, Bool.false_eq_true]
  show wpAny _ _ (Builtin.SmallTypes.ownedTupleIsFree (.ref zp) >>= _) _ _ _
  refine wpAny_bind ?_; unfold Builtin.SmallTypes.ownedTupleIsFree
  refine wpAny_bind (wpAny_field hz0 rfl (x := .none) rfl (wpAny_pure ?_))
  simp only [if_true]
  refine wpAny_bind (wpAny_rule ?_)
  refine wpAny_bind (wpAny_field hz0 rfl (x := .ref TO) rfl ?_)
  refine wpAny_bind (wpAny_setField_rec hz0 (by simp) fun g0 hz1 hs0 => ?_)
  replace hz1 : IsZip g0 zp TI TO .ellipsis := hz1
  replace hs0 : Heap.SameBut zp hp0 g0 := hs0
  refine wpAny_bind ?_
  refine forIn_all (fun rest s' => ∃ q h tk, rest = ((js.map fun j => Value.ref j.1).zipIdx).drop q ∧ q ≤ js.length ∧ s' = ⟨h, g, d, tk, os⟩ ∧ Mid zp TI TO js vs i hp0 h q) ?_ _ _ ?_ ?_
  · rintro x rest s' ⟨q, h, tk, er, ql, rfl, M⟩
    have q2 : q < js.length := by
      rcases Nat.lt_or_ge q js.length with c | c
      · exact c
      · rw [List.drop_eq_nil_of_le (by rw [List.length_zipIdx, List.length_map]; exact c)] at er
        cases er
    rw [List.drop_eq_getElem_cons (by rw [List.length_zipIdx, List.length_map]; exact q2), List.getElem_zipIdx, List.getElem_map, Nat.zero_add] at er
    injection er with ex erest
    subst ex
    have jq : js[q]? = some js[q] := List.getElem?_eq_getElem q2
    have vq : vs[q]? = some (vs[q]'(by omega)) := List.getElem?_eq_getElem (by omega)
    generalize hj : js[q] = j at jq ⊢
    generalize vs[q]'(by omega) = v at vq
    have jm : j ∈ js := List.mem_of_getElem? jq
    have aq := M.its q j v jq vq
    rw [if_neg (Nat.lt_irrefl q)] at aq
    have iv := (at_ q j v jq vq).2
    refine wpAny_bind (wpAny_onRaise ?_)
    show wpAny _ _ (Builtin.SmallTypes.nextOf (.ref j.1) >>= _) _ _ ⟨h, g, d, tk, os⟩
    refine wpAny_bind ((Draws.list (prog := prog) (w := w) calm j.1 j.2 (S.ap j jm j jm) v).item i _ _ _ iv aq fun y p1 tk1 hy sn hp1 => wpAny_pure ?_)
    replace hp1 : Heap.SameBut j.1 h p1 := hp1
    obtain ⟨xs, hx, xsz, xv⟩ := M.out
    have hU : Tup4 p1 TO xs := hp1.extBut _ _ (S.o1 j jm) hx
    refine wpAny_bind (wpAny_seqItems (s := ⟨p1, g, d, tk1, os⟩) hU rfl ?_)
    refine wpAny_bind (wpAny_updateSeq (s := ⟨p1, g, d, tk1, os⟩) hU rfl ?_ (by rw [xsz]; exact Nat.le_trans few (by decide)) (by rw [Array.size_setIfInBounds, xsz]; exact Nat.le_trans few (by decide)))
    refine wpAny_bind (wpAny_letGo (wpAny_pure ⟨rfl, q + 1, _, tk1, erest, q2, rfl, ?_⟩))
    have same : Heap.SameBut TO p1 (p1.update TO (Obj.mapSeq fun a => a.setIfInBounds q y)) := Heap.SameBut.update ..
    have hN : Tup4 (p1.update TO (Obj.mapSeq fun a => a.setIfInBounds q y)) TO (xs.setIfInBounds q y) := by
      show Heap.get? _ _ = _
      rw [Heap.get?_update_self _ hU rfl]
      simp [Obj.mapSeq]
    show Mid zp TI TO js vs i hp0 (p1.update TO (Obj.mapSeq fun a => a.setIfInBounds q y)) (q + 1)
    generalize p1.update TO (Obj.mapSeq fun a => a.setIfInBounds q y) = h2 at same hN ⊢
    refine ⟨same.extBut _ _ S.oz.symm (hp1.extBut _ _ (S.z1 j jm) M.zz), by rw [same.1, hp1.1, M.sz], ⟨_, hN, by rw [Array.size_setIfInBounds, xsz], fun p u pl hu => ?_⟩, fun p k u hk hu => ?_, fun c o c1 c2 c3 ho => ?_⟩
    · rw [Array.getElem?_setIfInBounds]
      by_cases e : q = p
      · subst e
        rw [if_pos rfl, if_pos (by rw [xsz]; exact q2)]
        rw [hu] at vq
        cases vq
        exact hy
      · rw [if_neg e]
        exact xv p u (by omega) hu
    · have km : k ∈ js := List.mem_of_getElem? hk
      by_cases e : p = q
      · subst e
        rw [hk] at jq
        cases jq
        rw [hu] at vq
        cases vq
        rw [if_pos (Nat.lt_succ_self _)]
        exact At.keep (h := p1) sn (fun o e => same.extBut _ _ (S.o1 _ jm).symm e) fun o e => same.extBut _ _ (S.o2 _ jm).symm e
      · have a0 := M.its p k u hk hu
        have e3 : (if p < q + 1 then i + 1 else i) = (if p < q then i + 1 else i) := by
          by_cases c : p < q
          · rw [if_pos c, if_pos (by omega)]
          · rw [if_neg c, if_neg (by omega)]
        rw [e3]
        have n1 : k.1 ≠ j.1 := fun zp => e (by
          have lp : p < (js.map Prod.fst).length := by
            rw [List.length_map]
            exact (List.getElem?_eq_some_iff.mp hk).1
          exact (List.getElem?_inj lp S.nd).mp (by rw [List.getElem?_map, List.getElem?_map, hk, jq]; exact congrArg some zp))
        exact At.keep a0 (fun o e => same.extBut _ _ (S.o1 k km).symm (hp1.extBut _ _ n1 e)) fun o e => same.extBut _ _ (S.o2 k km).symm (hp1.extBut _ _ (S.ap k km j jm) e)
    · exact same.extBut _ _ c2 (hp1.extBut _ _ (fun e => c3 (List.mem_map.mpr ⟨j, jm, e.symm⟩)) (M.kept c o c1 c2 c3 ho))
  · refine ⟨0, g0, tk0, by rw [List.drop_zero], Nat.zero_le _, rfl, hz1, hs0.1, ⟨xs0, hs0.extBut _ _ S.oz hO, x0, fun p v l => by omega⟩, fun p j v hj hv => ?_, fun c o c1 _ _ ho => hs0.extBut _ _ c1 ho⟩
    rw [if_neg (Nat.not_lt_zero _)]
    have jm : j ∈ js := List.mem_of_getElem? hj
    exact At.keep (at_ p j v hj hv).1 (fun o e => hs0.extBut _ _ (S.z1 j jm).symm e) fun o e => hs0.extBut _ _ (S.z2 j jm).symm e
  · rintro s' ⟨q, h, tk, er, ql, rfl, M⟩
    have qe : q = js.length := by
      have h1 := congrArg List.length er
      rw [List.length_drop, List.length_zipIdx, List.length_map] at h1
      have h1 : 0 = js.length - q := h1
      omega
    subst qe
    obtain ⟨xs, hx, xsz, xv⟩ := M.out
    refine wpAny_bind (wpAny_seqItems (s := ⟨h, g, d, tk, os⟩) hx rfl ?_)
    refine wpAny_bind (wpAny_newTuple ?_ (by show xs.toList.length ≤ sizeLine; rw [Array.length_toList, xsz]; exact Nat.le_trans few (by decide)))
    have eN : h.objs.size = hp0.objs.size := M.sz
    have zlt : zp < h.objs.size := Heap.lt_size M.zz
    show wpAny _ _ (Builtin.SmallTypes.ownedTupleHandOut (.ref zp) (.ref h.objs.size) >>= _) _ _ ⟨h.push { cls := .type "tuple", data := .seq xs }, g, d, tk, os⟩
    refine wpAny_bind ?_; unfold Builtin.SmallTypes.ownedTupleHandOut
    have w1 : IsZip (h.push { cls := .type "tuple", data := .seq xs }) zp TI TO .ellipsis := Heap.get?_push_of_some _ M.zz
    refine wpAny_bind (wpAny_setField_rec w1 (by simp) fun h1 w2 s1 => ?_)
    replace w2 : IsZip h1 zp TI TO (rawInt h.objs.size) := w2
    refine wpAny_setField_rec w2 (by simp) fun h2 w3 s2 => ?_
    replace w3 : IsZip h2 zp TI TO (rawInt h.objs.size) := w3
    replace s1 : Heap.SameBut zp (h.push { cls := .type "tuple", data := .seq xs }) h1 := s1
    replace s2 : Heap.SameBut zp h1 h2 := s2
    have up : ∀ c o, c ≠ zp → h.get? c = some o → h2.get? c = some o := fun c o cz e => s2.extBut _ _ cz (s1.extBut _ _ cz (Heap.get?_push_of_some _ e))
    have new : Tup4 h2 h.objs.size xs := s2.extBut _ _ (Nat.ne_of_gt zlt) (s1.extBut _ _ (Nat.ne_of_gt zlt) (Heap.get?_push_size _ rfl))
    have len : h2.objs.size = h.objs.size + 1 := by rw [s2.1, s1.1, Heap.size_push]
    rw [eN] at w3 new len
    refine wpAny_pure ⟨_, rfl, ?_⟩
    show Q (.ref h.objs.size) ⟨h2, g, d, tk, os⟩
    rw [eN]
    refine hQ xs h2 tk xsz (fun p v hv => xv p v (by rw [← lv]; exact (List.getElem?_eq_some_iff.mp hv).1) hv) w3 (up _ _ S.oz hx) (fun p j v hj hv => ?_) new len fun c o c1 c2 c3 ho => up c o c1 (M.kept c o c1 c2 c3 ho)
    have jm : j ∈ js := List.mem_of_getElem? hj
    have a0 := M.its p j v hj hv
    rw [if_pos (List.getElem?_eq_some_iff.mp hj).1] at a0
    exact At.keep a0 (fun o e => up _ _ (S.z1 j jm).symm e) fun o e => up _ _ (S.z2 j jm).symm e
theorem next_end {Q : Fin → Shared → Prop} (calm : A.handled = none) (S : Sep zp TI TO js) (few : js.length ≤ 4) (hz0 : IsZip s.heap zp TI TO .none) (hI : Tup4 s.heap TI (js.map fun j => Value.ref j.1).toArray)
    {j0 : Addr × Addr} {v0 : Array Value} (j0q : js[0]? = some j0) (a0 : At s.heap j0 v0 v0.size)
    (hE : ∀ (h' : Heap) (tk : Tok) (e : Addr), (∀ c o, c ≠ zp → c ≠ TO → c ∉ js.map Prod.fst → s.heap.get? c = some o → h'.get? c = some o) → (∃ o, h'.get? e = some o ∧ o.cls = .type "StopIteration") → E (.ref e) { s with heap := h', toks := tk }) :
    wpAny (model prog w) A (Builtin.«zip.__next__» ⟨[.ref zp], []⟩) Q E s := by
  obtain ⟨hp0, g, d, tk0, os⟩ := s
  have jm : j0 ∈ js := List.mem_of_getElem? j0q
  show wpAny _ _ (field (.ref zp) 2 >>= _) _ _ _
  refine wpAny_bind (wpAny_field hz0 rfl (x := .bool false) rfl ?_)
  refine wpAny_bind (wpAny_field hz0 rfl (x := .ref TI) rfl ?_)
  refine wpAny_bind (wpAny_seqItems hI rfl ?_)
  obtain ⟨rest, ejs⟩ : ∃ rest, js = j0 :: rest := by
    cases js with
    | nil => cases j0q
    | cons a b => cases j0q; exact ⟨b, rfl⟩
  have em : (js.map fun j => Value.ref j.1).toArray.isEmpty = false := by
    rw [ejs]
    simp
  simp only [em, if_false, Bool.false_eq_true]
  show wpAny _ _ (Builtin.SmallTypes.ownedTupleIsFree (.ref zp) >>= _) _ _ _
  refine wpAny_bind ?_; unfold Builtin.SmallTypes.ownedTupleIsFree
  refine wpAny_bind (wpAny_field hz0 rfl (x := .none) rfl (wpAny_pure ?_))
  simp only [if_true]
  refine wpAny_bind (wpAny_rule ?_)
  refine wpAny_bind (wpAny_field hz0 rfl (x := .ref TO) rfl ?_)
  refine wpAny_bind (wpAny_setField_rec hz0 (by simp) fun g0 hz1 hs0 => ?_)
  replace hz1 : IsZip g0 zp TI TO .ellipsis := hz1
  replace hs0 : Heap.SameBut zp hp0 g0 := hs0
  have lst : ((js.map fun j => Value.ref j.1).toArray.toList.zipIdx) = (Value.ref j0.1, 0) :: (rest.map fun j => Value.ref j.1).zipIdx 1 := by rw [ejs]; rfl
  rw [lst]
  refine wpAny_bind ?_
  rw [List.forIn_cons]
  refine wpAny_bind (wpAny_bind (wpAny_onRaise ?_))
  show wpAny _ _ (Builtin.SmallTypes.nextOf (.ref j0.1) >>= _) _ _ ⟨g0, g, d, tk0, os⟩
  refine wpAny_bind ((Draws.list (prog := prog) (w := w) calm j0.1 j0.2 (S.ap j0 jm j0 jm) v0).done ⟨g0, g, d, tk0, os⟩ _ _ (At.keep a0 (fun o e => hs0.extBut _ _ (S.z1 j0 jm).symm e) fun o e => hs0.extBut _ _ (S.z2 j0 jm).symm e) fun p e hq he => ?_)
  replace hq : Heap.ExtBut j0.1 g0 p := hq
  obtain ⟨oe, ho, hc⟩ := he
  replace ho : p.get? e = some oe := ho
  have w1 : IsZip p zp TI TO .ellipsis := hq _ _ (S.z1 j0 jm) hz1
  have nz : e ≠ zp := fun x => by
    subst x
    rw [w1] at ho
    cases ho
    simp at hc
  refine wpAny_setField_rec (s := ⟨p, g, d, tk0, os⟩) w1 (by simp) fun p2 _ s2 => ?_
  replace s2 : Heap.SameBut zp p p2 := s2
  exact hE p2 tk0 e (fun c o c1 c2 c3 x => s2.extBut _ _ c1 (hq _ _ (fun y => c3 (List.mem_map.mpr ⟨j0, jm, y.symm⟩)) (hs0.extBut _ _ c1 x))) ⟨oe, s2.extBut _ _ nz ho, hc⟩
end
section
variable {prog : Program} {w : World} {A : Around} {E : Value → Shared → Prop} {s : Shared} {zp TI TO : Addr} {js : List (Addr × Addr)} {vs : List (Array Value)} {i n : Nat}
theorem py_item {Q : Option Value → Shared → Prop} (calm : A.in1.handled = none) (S : Sep zp TI TO js) (lv : vs.length = js.length) (few : js.length ≤ 4) (hz0 : IsZip s.heap zp TI TO .none) (hI : Tup4 s.heap TI (js.map fun j => Value.ref j.1).toArray) {xs0 : Array Value} (hO : Tup4 s.heap TO xs0) (x0 : xs0.size = js.length) (ne : js ≠ [])
    (at_ : ∀ (p : Nat) (j : Addr × Addr) (v : Array Value), js[p]? = some j → vs[p]? = some v → At s.heap j v i ∧ i < v.size)
    (hQ : ∀ (xs : Array Value) (h' : Heap) (tk : Tok), xs.size = js.length → (∀ (p : Nat) (v : Array Value), vs[p]? = some v → v[i]? = xs[p]?) → IsZip h' zp TI TO (rawInt s.heap.objs.size) → Tup4 h' TO xs → (∀ (p : Nat) (j : Addr × Addr) (v : Array Value), js[p]? = some j → vs[p]? = some v → At h' j v (i + 1)) → Tup4 h' s.heap.objs.size xs → h'.objs.size = s.heap.objs.size + 1 →
      (∀ c o, c ≠ zp → c ≠ TO → c ∉ js.map Prod.fst → s.heap.get? c = some o → h'.get? c = some o) → Q (some (.ref s.heap.objs.size)) { s with heap := h', toks := tk }) :
    wpAny (model prog w) A (pyNext (.ref zp)) Q E s := by
  have ty : s.TypeIs (.ref zp) "zip" := ⟨_, hz0, rfl⟩
  unfold pyNext
  exact wpAny_bind (wpAny_attempt (wpAny_callSpecial?_slot (name := Str.ofString "__next__") ty F.slot_zip_next (wpAny_call_entry F.slot_zip_next ty F.entry_zip_next
      (next_item calm S lv few hz0 hI hO x0 ne at_ fun xs h' tk b1 b2 b3 b4 b5 b6 b7 b8 => wpAny_pure (hQ xs h' tk b1 b2 b3 b4 b5 b6 b7 b8)) (F.args_zip_next_1 _))))
theorem py_end {Q : Option Value → Shared → Prop} (calm : A.in1.handled = none) (S : Sep zp TI TO js) (few : js.length ≤ 4) (hz0 : IsZip s.heap zp TI TO .none) (hI : Tup4 s.heap TI (js.map fun j => Value.ref j.1).toArray)
    {j0 : Addr × Addr} {v0 : Array Value} (j0q : js[0]? = some j0) (a0 : At s.heap j0 v0 v0.size)
    (hQ : ∀ (h' : Heap) (tk : Tok), (∀ c o, c ≠ zp → c ≠ TO → c ∉ js.map Prod.fst → s.heap.get? c = some o → h'.get? c = some o) → Q none { s with heap := h', toks := tk }) : wpAny (model prog w) A (pyNext (.ref zp)) Q E s := by
  have ty : s.TypeIs (.ref zp) "zip" := ⟨_, hz0, rfl⟩
  unfold pyNext
  refine wpAny_bind (wpAny_attempt (wpAny_callSpecial?_slot (name := Str.ofString "__next__") ty F.slot_zip_next (wpAny_call_entry F.slot_zip_next ty F.entry_zip_next
    (next_end calm S few hz0 hI j0q a0 fun h' tk e kp ⟨o, ho, hc⟩ => ?_) (F.args_zip_next_1 _))))
  exact wpAny_bind (wpAny_isInstance (T := "StopIteration") (b := true) ⟨o, ho, hc⟩ isSubtype_stop (wpAny_pure (hQ _ _ kp)))
end
/-- four lists of one length as they stand, the items in new tuples -/
def It4 (K : PySem.W.Frag) (a b c d : Addr) : It where
  go i H := ∃ (xs ys zs ws : List V), SqL K H a xs ∧ SqL K H b ys ∧ SqL K H c zs ∧ SqL K H d ws ∧ ys.length = xs.length ∧ zs.length = xs.length ∧ ws.length = xs.length ∧ i < xs.length
  yld i H v H' := ∃ T x y z u, v = .ref T ∧ H T = none ∧ H' = upd H T (.tup [x, y, z, u]) ∧ (∀ xs, SqL K H a xs → xs[i]? = some x) ∧ (∀ ys, SqL K H b ys → ys[i]? = some y) ∧ (∀ zs, SqL K H c zs → zs[i]? = some z) ∧ ∀ ws, SqL K H d ws → ws[i]? = some u
  stop i H := ∃ (xs ys zs ws : List V), SqL K H a xs ∧ SqL K H b ys ∧ SqL K H c zs ∧ SqL K H d ws ∧ ys.length = i ∧ zs.length = i ∧ ws.length = i ∧ xs.length = i
abbrev cells4 (zp TI TO i1 i2 i3 i4 : Addr) : List Addr := [zp, TI, TO, i1, i2, i3, i4]
def Tn4 (a b c d zp TI TO i1 i2 i3 i4 : Addr) (i : Nat) (h : Heap) : Prop :=
  IsZip h zp TI TO .none ∧ Tup4 h TI #[.ref i1, .ref i2, .ref i3, .ref i4] ∧ (∃ xs : Array Value, Tup4 h TO xs ∧ xs.size = 4) ∧ h.IsListIter i1 a i ∧ h.IsListIter i2 b i ∧ h.IsListIter i3 c i ∧ h.IsListIter i4 d i
theorem turn4 {P : Program} {w : World} {K : PySem.W.Frag} {elts : List Expr} {kk : Nat} {tpos : Pos} {a b c d zp TI TO i1 i2 i3 i4 : Addr} (S : Sep zp TI TO [(i1, a), (i2, b), (i3, c), (i4, d)]) :
    Turn P w K (.Tuple elts kk tpos) (It4 K a b c d) (cells4 zp TI TO i1 i2 i3 i4) zp (Tn4 a b c d zp TI TO i1 i2 i3 i4) where
  mem := List.mem_cons_self
  obj i h st q hq := by
    obtain ⟨hz, hTI, ⟨xs, hTO, _⟩, ⟨o1, e1, _, d1⟩, ⟨o2, e2, _, d2⟩, ⟨o3, e3, _, d3⟩, ⟨o4, e4, _, d4⟩⟩ := st
    simp only [cells4, List.mem_cons, List.not_mem_nil, or_false] at hq
    rcases hq with rfl | rfl | rfl | rfl | rfl | rfl | rfl
    · exact ⟨_, hz, fun v e => nomatch e⟩
    · exact ⟨_, hTI, fun v e => nomatch e⟩
    · exact ⟨_, hTO, fun v e => nomatch e⟩
    · exact ⟨o1, e1, fun v e => by rw [d1] at e; cases e⟩
    · exact ⟨o2, e2, fun v e => by rw [d2] at e; cases e⟩
    · exact ⟨o3, e3, fun v e => by rw [d3] at e; cases e⟩
    · exact ⟨o4, e4, fun v e => by rw [d4] at e; cases e⟩
  keep i h h' st k := by
    obtain ⟨hz, hTI, ⟨xs, hTO, x4⟩, h1, h2, h3, h4⟩ := st
    exact ⟨k zp (by simp) _ hz, k TI (by simp) _ hTI, ⟨xs, k TO (by simp) _ hTO, x4⟩, h1.at fun o q => k i1 (by simp) o q, h2.at fun o q => k i2 (by simp) o q, h3.at fun o q => k i3 (by simp) o q, h4.at fun o q => k i4 (by simp) o q⟩
  item := by
    rintro X rfl rfl rfl calm i pins s σ H E I free st ⟨xs, ys, zs, ws, q1, q2, q3, q4, l2, l3, l4, lt⟩
    obtain ⟨hz, hTI, ⟨xs0, hTO, x4⟩, h1, h2, h3, h4⟩ := st
    obtain ⟨v1, r1, p1, _⟩ := I.list q1
    obtain ⟨v2, r2, p2, _⟩ := I.list q2
    obtain ⟨v3, r3, p3, _⟩ := I.list q3
    obtain ⟨v4, r4, p4, _⟩ := I.list q4
    have s1 : v1.toArray.size = xs.length := by rw [List.size_toArray, ← r1.length]
    have s2 : v2.toArray.size = ys.length := by rw [List.size_toArray, ← r2.length]
    have s3 : v3.toArray.size = zs.length := by rw [List.size_toArray, ← r3.length]
    have s4 : v4.toArray.size = ws.length := by rw [List.size_toArray, ← r4.length]
    have hh : X.A.in1.handled = none := I.ok.hd calm
    have zl : zp < s.heap.objs.size := Heap.lt_size hz
    refine py_item (vs := [v1.toArray, v2.toArray, v3.toArray, v4.toArray]) (i := i) hh S rfl (Nat.le_refl 4) hz hTI hTO x4 (by simp) (fun p j v hj hv => ?_) fun rs h' tk rsz rv zz o2 its tup sz kp => ?_
    · match p, hj, hv with
      | 0, hj, hv => cases hj; cases hv; exact ⟨⟨h1, p1.isList⟩, by omega⟩
      | 1, hj, hv => cases hj; cases hv; exact ⟨⟨h2, p2.isList⟩, by omega⟩
      | 2, hj, hv => cases hj; cases hv; exact ⟨⟨h3, p3.isList⟩, by omega⟩
      | 3, hj, hv => cases hj; cases hv; exact ⟨⟨h4, p4.isList⟩, by omega⟩
      | p + 4, hj, hv => cases hj
    obtain ⟨x1, x2, x3, x4, rfl⟩ : ∃ x1 x2 x3 x4 : Value, rs = #[x1, x2, x3, x4] := by
      obtain ⟨l⟩ := rs
      match l, rsz with
      | [x1, x2, x3, x4], _ => exact ⟨x1, x2, x3, x4, rfl⟩
    have g1 : v1.toArray[i]? = some x1 := rv 0 _ rfl
    have g2 : v2.toArray[i]? = some x2 := rv 1 _ rfl
    have g3 : v3.toArray[i]? = some x3 := rv 2 _ rfl
    have g4 : v4.toArray[i]? = some x4 := rv 3 _ rfl
    refine ⟨_, rfl, wpAny_letOwnedTupleGo_zip (s := { s with heap := h', toks := tk }) zz fun h'' z'' sb => ?_⟩
    have tup2 : h''.get? s.heap.objs.size = some { cls := .type "tuple", data := .seq #[x1, x2, x3, x4] } := (sb.2 _ (Nat.ne_of_gt zl)).trans tup
    obtain ⟨u1, e1, w1⟩ : ∃ u, xs[i]? = some u ∧ RelV u x1 := by
      have hx : xs[i]? = some xs[i] := List.getElem?_eq_getElem (by omega)
      obtain ⟨u, hu, ru⟩ := r1.get hx
      rw [← Array.getElem?_toList] at g1
      rw [show v1.toArray.toList = v1 from rfl, hu] at g1
      exact ⟨_, hx, Option.some.inj g1 ▸ ru⟩
    obtain ⟨u2, e2, w2⟩ : ∃ u, ys[i]? = some u ∧ RelV u x2 := by
      have hx : ys[i]? = some ys[i] := List.getElem?_eq_getElem (by omega)
      obtain ⟨u, hu, ru⟩ := r2.get hx
      rw [← Array.getElem?_toList] at g2
      rw [show v2.toArray.toList = v2 from rfl, hu] at g2
      exact ⟨_, hx, Option.some.inj g2 ▸ ru⟩
    obtain ⟨u3, e3, w3⟩ : ∃ u, zs[i]? = some u ∧ RelV u x3 := by
      have hx : zs[i]? = some zs[i] := List.getElem?_eq_getElem (by omega)
      obtain ⟨u, hu, ru⟩ := r3.get hx
      rw [← Array.getElem?_toList] at g3
      rw [show v3.toArray.toList = v3 from rfl, hu] at g3
      exact ⟨_, hx, Option.some.inj g3 ▸ ru⟩
    obtain ⟨u4, e4, w4⟩ : ∃ u, ws[i]? = some u ∧ RelV u x4 := by
      have hx : ws[i]? = some ws[i] := List.getElem?_eq_getElem (by omega)
      obtain ⟨u, hu, ru⟩ := r4.get hx
      rw [← Array.getElem?_toList] at g4
      rw [show v4.toArray.toList = v4 from rfl, hu] at g4
      exact ⟨_, hx, Option.some.inj g4 ▸ ru⟩
    have new : ObjOk X.prog X.w (upd H s.heap.objs.size (.tup [u1, u2, u3, u4])) h'' s.heap.objs.size (.tup [u1, u2, u3, u4]) :=
      ⟨by show 4 ≤ sizeLine; decide, [x1, x2, x3, x4], .cons w1 (.cons w2 (.cons w3 (.cons w4 .nil))), _, tup2, rfl, _, rfl⟩
    have kp2 : ∀ q o, q ∉ cells4 zp TI TO i1 i2 i3 i4 → s.heap.get? q = some o → h''.get? q = some o := fun q o nq e => by
      simp only [cells4, List.mem_cons, List.not_mem_nil, or_false, not_or] at nq
      exact (sb.2 q nq.1).trans (kp q o nq.1 nq.2.2.1 (by simp only [List.map_cons, List.map_nil, List.mem_cons, List.not_mem_nil, or_false, not_or]; exact nq.2.2.2) e)
    have I1 : Inv X pins σ (upd H s.heap.objs.size (.tup [u1, u2, u3, u4])) { s with heap := h'', toks := tk } := I.turnedNew (t' := tk) (ch := cells4 zp TI TO i1 i2 i3 i4) kp2 free (Nat.le_refl _) new
    refine ⟨.ref s.heap.objs.size, _, I1, rfl, ⟨_, u1, u2, u3, u4, rfl, I.hok.fresh (Nat.le_refl _), rfl, fun l hl => by rw [I.list_inj hl q1]; exact e1, fun l hl => by rw [I.list_inj hl q2]; exact e2, fun l hl => by rw [I.list_inj hl q3]; exact e3, fun l hl => by rw [I.list_inj hl q4]; exact e4⟩, ⟨z'', ?_, ⟨_, ?_, rsz⟩, ?_, ?_, ?_, ?_⟩, fun q hq => ?_⟩
    · refine (sb.2 _ S.iz).trans (kp _ _ S.iz S.io (fun m => ?_) hTI)
      obtain ⟨j, hj, e⟩ := List.mem_map.mp m
      exact S.ti j hj e.symm
    · exact (sb.2 _ S.oz).trans o2
    · exact (its 0 _ _ rfl rfl).1.at fun o e => (sb.2 _ (S.z1 (i1, a) (by simp)).symm).trans e
    · exact (its 1 _ _ rfl rfl).1.at fun o e => (sb.2 _ (S.z1 (i2, b) (by simp)).symm).trans e
    · exact (its 2 _ _ rfl rfl).1.at fun o e => (sb.2 _ (S.z1 (i3, c) (by simp)).symm).trans e
    · exact (its 3 _ _ rfl rfl).1.at fun o e => (sb.2 _ (S.z1 (i4, d) (by simp)).symm).trans e
    · have below : q < s.heap.objs.size := by
        simp only [cells4, List.mem_cons, List.not_mem_nil, or_false] at hq
        rcases hq with rfl | rfl | rfl | rfl | rfl | rfl | rfl
        · exact zl
        · exact Heap.lt_size hTI
        · exact Heap.lt_size hTO
        · obtain ⟨_, e, _⟩ := h1; exact Heap.lt_size e
        · obtain ⟨_, e, _⟩ := h2; exact Heap.lt_size e
        · obtain ⟨_, e, _⟩ := h3; exact Heap.lt_size e
        · obtain ⟨_, e, _⟩ := h4; exact Heap.lt_size e
      rw [upd_ne (Nat.ne_of_lt below)]
      exact (free q hq).1
  done := by
    rintro X rfl rfl rfl calm i pins s σ H E I free st ⟨xs, ys, zs, ws, q1, q2, q3, q4, l2, l3, l4, l1⟩
    obtain ⟨hz, hTI, ⟨xs0, hTO, x4⟩, h1, h2, h3, h4⟩ := st
    obtain ⟨v1, r1, p1, _⟩ := I.list q1
    have s1 : v1.toArray.size = i := by rw [List.size_toArray, ← r1.length, l1]
    have hh : X.A.in1.handled = none := I.ok.hd calm
    refine py_end (v0 := v1.toArray) hh S (Nat.le_refl 4) hz hTI rfl (by rw [s1]; exact ⟨h1, p1.isList⟩) fun h' tk kp => ⟨rfl, I.turnedL (t' := tk) (ch := cells4 zp TI TO i1 i2 i3 i4) (fun q o nq e => ?_) free⟩
    simp only [cells4, List.mem_cons, List.not_mem_nil, or_false, not_or] at nq
    exact kp q o nq.1 nq.2.2.1 (by simp only [List.map_cons, List.map_nil, List.mem_cons, List.not_mem_nil, or_false, not_or]; exact nq.2.2.2) e
  self A i s Q E st h := wpAny_pyIter_zip st.1 h
abbrev hT4 (h : Heap) (o1 o2 o3 o4 : Obj) : Heap := ((((h.push o1).push o2).push o3).push o4).push { cls := .type "tuple", data := .seq #[.ref h.objs.size, .ref (h.push o1).objs.size, .ref ((h.push o1).push o2).objs.size, .ref (((h.push o1).push o2).push o3).objs.size] }
abbrev hO4 (h : Heap) (o1 o2 o3 o4 : Obj) : Heap := (hT4 h o1 o2 o3 o4).push { cls := .type "tuple", data := .seq #[.none, .none, .none, .none] }
abbrev hZ4 (h : Heap) (o1 o2 o3 o4 : Obj) : Heap := (hO4 h o1 o2 o3 o4).push { cls := .type "zip", data := .fields #[.none, .bool false, .bool false, .ref ((((h.push o1).push o2).push o3).push o4).objs.size, .ref (hT4 h o1 o2 o3 o4).objs.size] }
theorem typeCall4 (a b c d : Value) : checkTypeCall "zip" ⟨[a, b, c, d], []⟩ = pure () := by kernel_rfl
theorem newCall4 (a b c d : Value) : checkBuiltinCall "zip.__new__" ⟨[.type "zip", a, b, c, d], []⟩ = pure () := by kernel_rfl
theorem initArgs5 (obj a b c d : Value) : argsOk "object.__init__" ⟨[obj, a, b, c, d], []⟩ := by unfold argsOk; kernel_rfl
theorem meets4 {v1 v2 v3 v4 : Value} {o1 o2 o3 o4 : Obj} {J1 J2 J3 J4 : Heap → Prop} (B1 : Begins v1 o1 J1) (B2 : Begins v2 o2 J2) (B3 : Begins v3 o3 J3) (B4 : Begins v4 o4 J4) :
    Meets (Builtin.«zip.__new__» ⟨[.type "zip", v1, v2, v3, v4], []⟩) (fun _ R s => (J1 s.heap ∧ J2 s.heap ∧ J3 s.heap ∧ J4 s.heap) ∧
      R (.ok (.ret (.ref (hO4 s.heap o1 o2 o3 o4).objs.size))) { s with heap := hZ4 s.heap o1 o2 o3 o4 }) :=
  .of_wp fun prog w A R s hh => by
    obtain ⟨h0, g, d, tk, os⟩ := s
    obtain ⟨⟨j1, j2, j3, j4⟩, hh⟩ := hh
    have hsub := sub_zip
    have q1 : ∀ {A' : Around} {E : Value → Shared → Prop} {Q : Value → Shared → Prop}, Q (.ref h0.objs.size) ⟨(h0.push o1), g, d, tk, os⟩ → wpAny (model prog w) A' (pyIter v1) Q E ⟨h0, g, d, tk, os⟩ :=
      fun q => B1.iter prog w _ _ ⟨h0, g, d, tk, os⟩ _ (B1.keeps _ _ j1 fun b o' e => e) q
    have q2 : ∀ {A' : Around} {E : Value → Shared → Prop} {Q : Value → Shared → Prop}, Q (.ref (h0.push o1).objs.size) ⟨((h0.push o1).push o2), g, d, tk, os⟩ → wpAny (model prog w) A' (pyIter v2) Q E ⟨(h0.push o1), g, d, tk, os⟩ :=
      fun q => B2.iter prog w _ _ ⟨(h0.push o1), g, d, tk, os⟩ _ (B2.keeps _ _ j2 fun b o' e => (Heap.get?_push_of_some _ e)) q
    have q3 : ∀ {A' : Around} {E : Value → Shared → Prop} {Q : Value → Shared → Prop}, Q (.ref ((h0.push o1).push o2).objs.size) ⟨(((h0.push o1).push o2).push o3), g, d, tk, os⟩ → wpAny (model prog w) A' (pyIter v3) Q E ⟨((h0.push o1).push o2), g, d, tk, os⟩ :=
      fun q => B3.iter prog w _ _ ⟨((h0.push o1).push o2), g, d, tk, os⟩ _ (B3.keeps _ _ j3 fun b o' e => (Heap.get?_push_of_some _ (Heap.get?_push_of_some _ e))) q
    have q4 : ∀ {A' : Around} {E : Value → Shared → Prop} {Q : Value → Shared → Prop}, Q (.ref (((h0.push o1).push o2).push o3).objs.size) ⟨((((h0.push o1).push o2).push o3).push o4), g, d, tk, os⟩ → wpAny (model prog w) A' (pyIter v4) Q E ⟨(((h0.push o1).push o2).push o3), g, d, tk, os⟩ :=
      fun q => B4.iter prog w _ _ ⟨(((h0.push o1).push o2).push o3), g, d, tk, os⟩ _ (B4.keeps _ _ j4 fun b o' e => (Heap.get?_push_of_some _ (Heap.get?_push_of_some _ (Heap.get?_push_of_some _ e)))) q
    wp_walk using q1, q2, q3, q4
    exact ⟨_, rfl, hh⟩
theorem begins4 {prog : Program} {w : World} {A : Around} {E : Value → Shared → Prop} {s : Shared} {v1 v2 v3 v4 : Value} {o1 o2 o3 o4 : Obj} {J1 J2 J3 J4 : Heap → Prop} {Q : Value → Shared → Prop} (B1 : Begins v1 o1 J1) (B2 : Begins v2 o2 J2) (B3 : Begins v3 o3 J3) (B4 : Begins v4 o4 J4) (j1 : J1 s.heap) (j2 : J2 s.heap) (j3 : J3 s.heap) (j4 : J4 s.heap)
    (h : ∀ h', IsZip h' (s.heap.objs.size + 6) (s.heap.objs.size + 4) (s.heap.objs.size + 5) .none → Tup4 h' (s.heap.objs.size + 4) #[.ref s.heap.objs.size, .ref (s.heap.objs.size + 1), .ref (s.heap.objs.size + 2), .ref (s.heap.objs.size + 3)] →
      Tup4 h' (s.heap.objs.size + 5) #[.none, .none, .none, .none] → h'.get? s.heap.objs.size = some o1 → h'.get? (s.heap.objs.size + 1) = some o2 → h'.get? (s.heap.objs.size + 2) = some o3 → h'.get? (s.heap.objs.size + 3) = some o4 →
      (∀ c o, s.heap.get? c = some o → h'.get? c = some o) → Q (.ref (s.heap.objs.size + 6)) { s with heap := h' }) :
    wpAny (model prog w) A (call (.type "zip") [v1, v2, v3, v4]) Q E s := by
  refine callType_new F.called_zip (by decide) (typeCall4 _ _ _ _) (newCall4 _ _ _ _) (fun obj => initArgs5 obj _ _ _ _) F.entry_zip_new (meets4 B1 B2 B3 B4) ⟨⟨j1, j2, j3, j4⟩, ?_⟩
  have k1 : (s.heap.push o1).objs.size = s.heap.objs.size + 1 := by rw [Heap.size_push]
  have k2 : ((s.heap.push o1).push o2).objs.size = s.heap.objs.size + 2 := by rw [Heap.size_push, k1]
  have k3 : (((s.heap.push o1).push o2).push o3).objs.size = s.heap.objs.size + 3 := by rw [Heap.size_push, k2]
  have k4 : ((((s.heap.push o1).push o2).push o3).push o4).objs.size = s.heap.objs.size + 4 := by rw [Heap.size_push, k3]
  have kT : (hT4 s.heap o1 o2 o3 o4).objs.size = s.heap.objs.size + 5 := by rw [Heap.size_push, k4]
  have kO : (hO4 s.heap o1 o2 o3 o4).objs.size = s.heap.objs.size + 6 := by rw [Heap.size_push, kT]
  have up : ∀ {h : Heap} {o o' : Obj} {c : Addr}, h.get? c = some o → (h.push o').get? c = some o := fun e => Heap.get?_push_of_some _ e
  have tZ : (hZ4 s.heap o1 o2 o3 o4).get? (hO4 s.heap o1 o2 o3 o4).objs.size = some { cls := .type "zip", data := .fields #[.none, .bool false, .bool false, .ref ((((s.heap.push o1).push o2).push o3).push o4).objs.size, .ref (hT4 s.heap o1 o2 o3 o4).objs.size] } := Heap.get?_push_size _ rfl
  have tO : (hZ4 s.heap o1 o2 o3 o4).get? (hT4 s.heap o1 o2 o3 o4).objs.size = some { cls := .type "tuple", data := .seq #[.none, .none, .none, .none] } := up (Heap.get?_push_size _ rfl)
  have tT : (hZ4 s.heap o1 o2 o3 o4).get? ((((s.heap.push o1).push o2).push o3).push o4).objs.size = some { cls := .type "tuple", data := .seq #[.ref s.heap.objs.size, .ref (s.heap.push o1).objs.size, .ref ((s.heap.push o1).push o2).objs.size, .ref (((s.heap.push o1).push o2).push o3).objs.size] } := up (up (Heap.get?_push_size _ rfl))
  have t1 : (hZ4 s.heap o1 o2 o3 o4).get? s.heap.objs.size = some o1 := up (up (up (up (up (up (Heap.get?_push_size _ B1.free))))))
  have t2 : (hZ4 s.heap o1 o2 o3 o4).get? (s.heap.push o1).objs.size = some o2 := up (up (up (up (up (Heap.get?_push_size _ B2.free)))))
  have t3 : (hZ4 s.heap o1 o2 o3 o4).get? ((s.heap.push o1).push o2).objs.size = some o3 := up (up (up (up (Heap.get?_push_size _ B3.free))))
  have t4 : (hZ4 s.heap o1 o2 o3 o4).get? (((s.heap.push o1).push o2).push o3).objs.size = some o4 := up (up (up (Heap.get?_push_size _ B4.free)))
  rw [kO, kT, k4] at tZ
  rw [kT] at tO
  rw [k4, k3, k2, k1] at tT
  rw [k1] at t2
  rw [k2] at t3
  rw [k3] at t4
  show _ ∧ _
  rw [kO]
  exact ⟨⟨_, tZ, rfl⟩, h _ tZ tT tO t1 t2 t3 t4 fun c o e => up (up (up (up (up (up (up e))))))⟩
def iZip4 (K : PySem.W.Frag) (ta : TA) : TI := fun σ H R => ta σ H fun vs H1 => ∃ a b c d xs ys zs ws, vs = [.ref a, .ref b, .ref c, .ref d] ∧ SqL K H1 a xs ∧ SqL K H1 b ys ∧ SqL K H1 c zs ∧ SqL K H1 d ws ∧ R (It4 K a b c d) H1
theorem pi_zip4 {X : Cx} {e e2 e3 e4 : Expr} {ta : TA} {p pos tpos : Pos} {elts : List Expr} {kk : Nat} (gl : Gl X "zip") (nm : X.mg "zip" = none) (args : PA X [e, e2, e3, e4] ta)
    (one : starEach [e, e2, e3, e4] X.env = (false, eval e X.env) :: starEach [e2, e3, e4] X.env := by rfl) (more : (backTo pos (starEach [e2, e3, e4] X.env)).any (·.1) = false := by rfl) :
    PI X (.Tuple elts kk tpos) (.Call (.Name "zip" p) [e, e2, e3, e4] [] pos) (iZip4 X.K ta) := by
  constructor
  intro pins s σ H R I had
  refine Call_ (ld_blt I gl nm PyProof.Rows.boot_zip (PyProof.Rows.callWith_type1 (thn (args.run pos pins s σ H _ I had) fun us s1 got => ?_) one more))
  obtain ⟨vs, H1, I1, rel, a, b, c, d, xs, ys, zs, ws, rfl, q1, q2, q3, q4, goal⟩ := got
  obtain ⟨u1, us, rfl, ra, rel⟩ : ∃ u us', us = u :: us' ∧ RelV (.ref a) u ∧ Vals [V.ref b, V.ref c, V.ref d] us' := by
    cases rel with
    | cons r rr => exact ⟨_, _, rfl, r, rr⟩
  obtain ⟨u2, us, rfl, rb, rel⟩ : ∃ u us', us = u :: us' ∧ RelV (.ref b) u ∧ Vals [V.ref c, V.ref d] us' := by
    cases rel with
    | cons r rr => exact ⟨_, _, rfl, r, rr⟩
  obtain ⟨u3, u4, rfl, rc, rd⟩ := vals2 rel
  cases (show u1 = Value.ref a from ra)
  cases (show u2 = Value.ref b from rb)
  cases (show u3 = Value.ref c from rc)
  cases (show u4 = Value.ref d from rd)
  obtain ⟨v1, r1, p1, _⟩ := I1.list q1
  obtain ⟨v2, r2, p2, _⟩ := I1.list q2
  obtain ⟨v3, r3, p3, _⟩ := I1.list q3
  obtain ⟨v4, r4, p4, _⟩ := I1.list q4
  have la := Nat.lt_of_lt_of_le p1.lt (Nat.le_refl _)
  have lb := Nat.lt_of_lt_of_le p2.lt (Nat.le_refl _)
  have lc := Nat.lt_of_lt_of_le p3.lt (Nat.le_refl _)
  have ld := Nat.lt_of_lt_of_le p4.lt (Nat.le_refl _)
  refine begins4 (begins_list a v1.toArray) (begins_list b v2.toArray) (begins_list c v3.toArray) (begins_list d v4.toArray) p1.isList p2.isList p3.isList p4.isList fun h' hz hTI hTO g1 g2 g3 g4 kp => wpAny_pyIter_zip hz ?_
  have I2 : Inv X pins σ H1 { s1 with heap := h' } := I1.kept (t' := s1.toks) kp
  have S : Sep (s1.heap.objs.size + 6) (s1.heap.objs.size + 4) (s1.heap.objs.size + 5) [(s1.heap.objs.size, a), (s1.heap.objs.size + 1, b), (s1.heap.objs.size + 2, c), (s1.heap.objs.size + 3, d)] := by
    have e4 : ∀ {p : Addr × Addr → Prop}, p (s1.heap.objs.size, a) → p (s1.heap.objs.size + 1, b) → p (s1.heap.objs.size + 2, c) → p (s1.heap.objs.size + 3, d) → ∀ j ∈ [(s1.heap.objs.size, a), (s1.heap.objs.size + 1, b), (s1.heap.objs.size + 2, c), (s1.heap.objs.size + 3, d)], p j := fun {p} y1 y2 y3 y4 j hj => by
      simp only [List.mem_cons, List.not_mem_nil, or_false] at hj
      rcases hj with rfl | rfl | rfl | rfl
      · exact y1
      · exact y2
      · exact y3
      · exact y4
    refine ⟨Nat.ne_of_lt (by omega), Nat.ne_of_lt (by omega), Nat.ne_of_lt (by omega), e4 (Nat.ne_of_gt (by omega)) (Nat.ne_of_gt (by omega)) (Nat.ne_of_gt (by omega)) (Nat.ne_of_gt (by omega)), e4 (Nat.ne_of_gt (by omega)) (Nat.ne_of_gt (by omega)) (Nat.ne_of_gt (by omega)) (Nat.ne_of_gt (by omega)), e4 (Nat.ne_of_gt (by omega)) (Nat.ne_of_gt (by omega)) (Nat.ne_of_gt (by omega)) (Nat.ne_of_gt (by omega)), e4 (Nat.ne_of_gt (by omega)) (Nat.ne_of_gt (by omega)) (Nat.ne_of_gt (by omega)) (Nat.ne_of_gt (by omega)), e4 (Nat.ne_of_gt (by omega)) (Nat.ne_of_gt (by omega)) (Nat.ne_of_gt (by omega)) (Nat.ne_of_gt (by omega)), ?_, ?_⟩
    · simp only [List.map_cons, List.map_nil, List.nodup_cons, List.mem_cons, List.not_mem_nil, or_false, not_or, List.nodup_nil]
      exact ⟨⟨Nat.ne_of_lt (by omega), Nat.ne_of_lt (by omega), Nat.ne_of_lt (by omega)⟩, ⟨Nat.ne_of_lt (by omega), Nat.ne_of_lt (by omega)⟩, Nat.ne_of_lt (by omega), not_false, trivial⟩
    · exact e4 (e4 (Nat.ne_of_lt (by omega)) (Nat.ne_of_lt (by omega)) (Nat.ne_of_lt (by omega)) (Nat.ne_of_lt (by omega))) (e4 (Nat.ne_of_lt (by omega)) (Nat.ne_of_lt (by omega)) (Nat.ne_of_lt (by omega)) (Nat.ne_of_lt (by omega))) (e4 (Nat.ne_of_lt (by omega)) (Nat.ne_of_lt (by omega)) (Nat.ne_of_lt (by omega)) (Nat.ne_of_lt (by omega))) (e4 (Nat.ne_of_lt (by omega)) (Nat.ne_of_lt (by omega)) (Nat.ne_of_lt (by omega)) (Nat.ne_of_lt (by omega)))
  refine ⟨s1.heap.objs.size + 6, cells4 (s1.heap.objs.size + 6) (s1.heap.objs.size + 4) (s1.heap.objs.size + 5) s1.heap.objs.size (s1.heap.objs.size + 1) (s1.heap.objs.size + 2) (s1.heap.objs.size + 3), _, _, H1, rfl, I2, turn4 S, ⟨hz, hTI, ⟨_, hTO, rfl⟩, ⟨_, g1, rfl, rfl⟩, ⟨_, g2, rfl, rfl⟩, ⟨_, g3, rfl, rfl⟩, ⟨_, g4, rfl, rfl⟩⟩, fun q hq => ?_, goal⟩
  have le : s1.heap.objs.size ≤ q := by
    simp only [cells4, List.mem_cons, List.not_mem_nil, or_false] at hq
    rcases hq with rfl | rfl | rfl | rfl | rfl | rfl | rfl
    all_goals first | exact Nat.le_refl _ | exact Nat.le_add_right _ _
  exact I1.fpOk le (I1.hok.fresh le)
/-- a new tuple of the four i-th ones -/
def YQua (xs ys zs ws : List V) : Nat → Hp → V → Hp → Prop := fun i H v H' => ∃ T x y z u, v = .ref T ∧ H T = none ∧ H' = upd H T (.tup [x, y, z, u]) ∧ xs[i]? = some x ∧ ys[i]? = some y ∧ zs[i]? = some z ∧ ws[i]? = some u
theorem walk_zip4 {K : PySem.W.Frag} {a b c d : Addr} {xs ys zs ws : List V} (l2 : ys.length = xs.length) (l3 : zs.length = xs.length) (l4 : ws.length = xs.length) : Walk (It4 K a b c d) xs.length (fun H => SqL K H a xs ∧ SqL K H b ys ∧ SqL K H c zs ∧ SqL K H d ws) (YQua xs ys zs ws) where
  goes _ _ lt q := ⟨xs, ys, zs, ws, q.1, q.2.1, q.2.2.1, q.2.2.2, l2, l3, l4, lt⟩
  stops _ q := ⟨xs, ys, zs, ws, q.1, q.2.1, q.2.2.1, q.2.2.2, l2, l3, l4, rfl⟩
  yields _ _ _ _ _ q := fun ⟨T, x, y, z, u, e1, e2, e3, e4, e5, e6, e7⟩ => ⟨T, x, y, z, u, e1, e2, e3, e4 xs q.1, e5 ys q.2.1, e6 zs q.2.2.1, e7 ws q.2.2.2⟩
end RZ4

/-! list.reverse() -/
namespace RvL
open PySem PySem.Spec PyProof.Rows L2
theorem mt_reverse {X : Cx} : MtR X "list.reverse" (fun x vs H Q => ∃ (l : Addr) (xs : List V), x = .ref l ∧ vs = [] ∧ H l = some (.lst xs) ∧ Q .non (upd H l (.lst xs.reverse))) := by
  intro pins s σ H x vs v us Q I rx rv h
  obtain ⟨l, xs, rfl, rfl, was, goal⟩ := h
  cases rx
  have none : us = [] := by
    cases rv
    rfl
  subst none
  obtain ⟨z, its, n, r, len, e⟩ := I.lstM was
  refine call_meets PySem.F.slot_list_reverse ⟨_, e, rfl⟩ PySem.F.entry_list_reverse (PySem.F.args_list_reverse_1 _) (PySem.AutoSeq1.list_reverse_list_0 l its.toArray n (by rw [List.size_toArray]; omega)) ⟨e, ?_⟩
  have back : ∀ {xs : List V} {its : List Value}, Vals xs its → Vals xs.reverse its.reverse := fun {xs its} r => by
    induction r with
    | nil => exact .nil
    | cons a _ ih => rw [List.reverse_cons, List.reverse_cons]; exact ih.append (.cons a .nil)
  refine ⟨.non, _, I.lset (its' := its.reverse) was e (by simp) (back r) ?_, rfl, goal⟩
  rw [List.length_reverse]
  exact z
/-- t.index(y), flat items, the first place -/
theorem mt_tupIndex {X : Cx} : MtR X "tuple.index" (fun x xs H Q => ∃ (p : Addr) (ys : List V) (y : V) (j : Nat) (z : V), x = .ref p ∧ xs = [y] ∧ SqT X.K H p ys ∧ flatV y = true ∧ ys.all flatV = true ∧ ys[j]? = some z ∧ eqV z y = true ∧
    (∀ (m : Nat) (z' : V), m < j → ys[m]? = some z' → eqV z' y = false) ∧ Q (.int (j : Nat)) H) := by
  intro pins s σ H x xs v us Q I rx rs h
  obtain ⟨p, ys, y, j, z, rfl, rfl, seq, fy, fall, zat, same, before, goal⟩ := h
  cases rx
  obtain ⟨u, rfl, ru⟩ := vals1 rs
  obtain ⟨its, r, pl, _⟩ := I.tuple seq
  obtain ⟨⟨cls, dd, dt, sl⟩, there, c1, n, d1⟩ := pl
  simp only at c1 d1
  subst c1
  subst d1
  have size : its.toArray.size = ys.length := by rw [List.size_toArray, ← r.length]
  have jl : j < its.toArray.size := by rw [size]; exact (List.getElem?_eq_some_iff.mp zat).1
  have item : ∀ (m : Nat) (lt : m < its.toArray.size) (z' : V), ys[m]? = some z' → eqU y (its.toArray[m]) = eqV z' y := fun m lt z' e => by
    obtain ⟨w, hw, rw'⟩ := r.get e
    have e1 : its.toArray[m] = w := by
      have := (List.getElem?_eq_some_iff.mp hw).2
      rw [← this]
      simp
    rw [e1]
    exact eqU_of rw' (flat_at fall e)
  refine call_meets PySem.F.slot_tuple_index ⟨_, there, rfl⟩ PySem.F.entry_tuple_index (PySem.F.args_tuple_index_2 _ _) (TI.tuple_indexAt p its.toArray n dd sl u (eqU y) j jl ?_ ?_)
    ⟨there, fun w hw => mem_eqAt ru fy r fall w (by simpa using hw), ⟨.int (j : Nat), H, I.tok _, ⟨_, rfl⟩, goal⟩⟩
  · rw [item j jl z zat]
    exact same
  · intro m lt mj
    have e : ys[m]? = some (ys[m]'(by omega)) := List.getElem?_eq_getElem _
    rw [item m lt _ e]
    exact before m _ mj e
end RvL

/-! tuples whose object is known (no dict): a method of such a tuple may be called -/
namespace FrT
open PySem PySem.Spec PyProof.Rows L2
/-- a tuple whose object is known -/
def Fz (H : Hp) (a : Addr) (xs : List V) : Prop := ∃ o : Obj, H a = some (.frz o (.tup xs)) ∧ o.cls = .type "tuple" ∧ o.dict = none
theorem Fz.sq {K : PySem.W.Frag} {H : Hp} {a : Addr} {xs : List V} (f : Fz H a xs) : SqT K H a xs := by
  obtain ⟨o, e, _⟩ := f
  exact .inl (.inr ⟨o, e⟩)
section
variable {X : Cx} {e : Expr} {es : List Expr} {pos : Pos}
def tTupF (t : TA) : TE := fun σ H Q => t σ H fun xs H1 => xs.length ≤ sizeLine ∧ ∀ (p : Addr) (o : Obj), H1 p = none → o.cls = .type "tuple" → o.dict = none → Q (.ref p) (upd H1 p (.frz o (.tup xs)))
theorem pe_tupF {t : TA} {kk : Nat} (items : PA X es t) : PE X (.Tuple es kk pos) (tTupF t) := by
  constructor
  intro pins s σ H Q I want
  refine wpAny_Tuple_spliced (thn (items.run pos pins s σ H _ I want) fun us s1 got => ?_)
  obtain ⟨xs, H1, I1, rel, few, goal⟩ := got
  refine ⟨by rw [← rel.length]; exact few, .ref s1.heap.objs.size, _, I1.laid (o := .frz { cls := .type "tuple", data := .seq us.toArray } (.tup xs)) (t' := s1.toks) (fun b u q => Heap.get?_push_of_some _ q) (Nat.le_refl _) (by show _ ∧ _ ∧ _; exact ⟨Heap.get?_push_size _ rfl, few, us, rel, ⟨_, Heap.get?_push_size _ rfl, rfl, _, rfl⟩⟩), rfl, goal _ { cls := .type "tuple", data := .seq us.toArray } (I1.hok.fresh (Nat.le_refl _)) rfl rfl⟩
theorem call_tupleF : CallR X (.type "tuple") (fun xs H Q => ∃ (p : Addr) (ys : List V), xs = [.ref p] ∧ SqL X.K H p ys ∧ ∀ (l : Addr) (o : Obj), H l = none → o.cls = .type "tuple" → o.dict = none → Q (.ref l) (upd H l (.frz o (.tup ys)))) := by
  intro pins s σ H xs us Q I rel want
  obtain ⟨p, ys, rfl, seq, goal⟩ := want
  obtain ⟨u, rfl, ru⟩ := vals1 rel
  cases ru
  obtain ⟨its, r, pl, few⟩ := I.list seq
  have len := r.length
  refine call_tuple_list pl.isList (fun h' kp => ?_) (by simp only [List.size_toArray]; omega)
  have I1 : Inv X pins σ H { s with heap := h' } := I.kept (t' := s.toks) kp
  exact ⟨.ref h'.objs.size, _, I1.laid (o := .frz { cls := .type "tuple", data := .seq its.toArray } (.tup ys)) (t' := s.toks) (fun b u q => Heap.get?_push_of_some _ q) (Nat.le_refl _) (by show _ ∧ _ ∧ _; exact ⟨Heap.get?_push_size _ rfl, few, its, r, IsTup.new _ _⟩), rfl, goal _ { cls := .type "tuple", data := .seq its.toArray } (I1.hok.fresh (Nat.le_refl _)) rfl rfl⟩
/-- a method of such a tuple -/
def tBMF (r : V → List V → Hp → VK → Prop) (to : TE) (t : TA) : TE := fun σ H Q => to σ H fun x H1 => (∃ p xs, x = .ref p ∧ Fz H1 p xs) ∧ t σ H1 fun ys H2 => r x ys H2 Q
theorem pe_bmF {a : Expr} {name : Str} {apos cpos : Pos} {id : String} {r : V → List V → Hp → VK → Prop} {to : TE} {t : TA} (pa : PlainAttrs "tuple") (slot : Slot "tuple" name id) (md : typeOf (.builtin id) = pure (.type "method_descriptor")) (mt : MtR X id r) (obj : PE X a to) (args : PA X (e :: es) t)
    (b1 : attributeBase a name X.env (eval a X.env) = eval a X.env := by rfl)
    (b2 : ((backTo cpos (starEach (e :: es) X.env)).all (fun x => !x.1) && (backToKw cpos (keywordEach [] X.env)).all (fun x => x.1.isSome) && decide ((e :: es).length + ([] : List Keyword).length + (if ([] : List Keyword).isEmpty then 0 else 1) < 30)) = true := by rfl)
    (b3 : (apos.endLine == cpos.line) = true := by rfl) (b4 : starEach (e :: es) X.env = (false, eval e X.env) :: starEach es X.env := by rfl) (b5 : (backTo cpos (starEach es X.env)).any (·.1) = false := by rfl) :
    PE X (.Call (.Attribute a name apos) (e :: es) [] cpos) (tBMF r to t) := by
  constructor
  intro pins s σ H Q I want
  refine wpAny_Call_method_late b1 b2 b3 rfl (thn (obj.run pins s σ H _ I want) fun v s1 got => ?_)
  obtain ⟨x, H1, I1, r1, ⟨p, xs, rfl, o, there, cls, dict⟩, goal⟩ := got
  have was : s1.heap.get? p = some o := (I1.hok p _ there).1
  cases r1
  refine ⟨"tuple", id, pa, slot, md, ⟨o, was, cls⟩, fun q eq => ?_, ?_⟩
  · cases eq
    exact ⟨o, was, dict⟩
  have go := args.run cpos pins s1 σ H1 _ I1 goal
  rw [b4] at go ⊢
  refine Calls.callWith_builtin (by show (false || (backTo cpos (starEach es X.env)).any (·.1)) = false; rw [b5]; rfl) (Calls.evalArgs_plain ?_)
  exact thn go fun us s2 ⟨vs, H2, I2, r2, q2⟩ => mt pins s2 σ H2 (.ref p) vs _ us Q I2 rfl r2 q2
end
end FrT

namespace Pv
open PySem L2
/-! ### error classes -/
def veM (M : Addr) : List Value := [.ref M, .type "ValueError", .type "Exception", .type "BaseException", .type "object"]
structure ErrK (K : PySem.W.Frag) (mg : Str → Option Value) (M C : Addr) (x : Str) : Prop where
  g : mg x = some (.ref C)
  k : PySem.W.keepIn K (.ref C) = true
  l : ∃ nm q N bs sn sub ab col dd k0 k1 k2 k3 k5, K.lookup C = some (excClassObj nm q C N bs (veM M) true sn sub ab col dd k0 k1 k2 k3 k5 "ValueError.__new__")
  sa : PySem.W.findIn K (.ref C) "__setattr__" = some (some (.builtin "object.__setattr__"))
  ga : PySem.W.findIn K (.ref C) "__getattribute__" = some (some (.builtin "BaseException.__getattribute__"))
  gg : PySem.W.findIn K (.ref C) "__getattr__" = some none
  ca : PySem.W.findIn K (.ref C) "__class__" = some (some (.builtin "object.__class__"))
structure ErrM (K : PySem.W.Frag) (mg : Str → Option Value) (M : Addr) : Prop where
  g : mg "MendError" = some (.ref M)
  l : ∃ nm q N bs bm sn sub ab col dd k0 k1 k2 k3 k5, K.lookup M = some (excClassObj nm q M N bs bm true sn sub ab col dd k0 k1 k2 k3 k5 "ValueError.__new__")
structure ErrF (K : PySem.W.Frag) (C I : Addr) (qual f : Str) (st : Stmt) : Prop where
  i : PySem.W.findIn K (.ref C) "__init__" = some (some (.ref I))
  t : PySem.W.typeIn K (.ref I) = some (.type "function")
  nf : PySem.W.findIn K (.ref C) f = some none
  fn : ∃ fd, Fun K "__init__" qual st I fd
section
variable {K : PySem.W.Frag} {mg : Str → Option Value} {M C D : Addr} {x : Str}
theorem ErrK.ty (E : ErrK K mg M C x) : PySem.W.typeIn K (.ref C) = some (.type "type") := by
  obtain ⟨nm, q, N, bs, sn, sub, ab, col, dd, k0, k1, k2, k3, k5, h⟩ := E.l
  show (K.lookup C).map (·.cls) = _
  rw [h]
  rfl
theorem ErrM.ty (E : ErrM K mg M) : PySem.W.typeIn K (.ref M) = some (.type "type") := by
  obtain ⟨nm, q, N, bs, bm, sn, sub, ab, col, dd, k0, k1, k2, k3, k5, h⟩ := E.l
  show (K.lookup M).map (·.cls) = _
  rw [h]
  rfl
theorem ErrM.cls (E : ErrM K mg M) : (PySem.W.clsIn K M).isSome = true := by
  obtain ⟨nm, q, N, bs, bm, sn, sub, ab, col, dd, k0, k1, k2, k3, k5, h⟩ := E.l
  unfold PySem.W.clsIn
  rw [h]
  rfl
theorem ErrK.mro (E : ErrK K mg M C x) (v : Value) : PySem.W.mroIn K C v = some ((Value.ref C :: veM M).contains v) := by
  obtain ⟨nm, q, N, bs, sn, sub, ab, col, dd, k0, k1, k2, k3, k5, h⟩ := E.l
  unfold PySem.W.mroIn PySem.W.clsIn
  rw [h]
  rfl
theorem ErrK.cls (E : ErrK K mg M C x) : (PySem.W.clsIn K C).isSome = true := by
  obtain ⟨nm, q, N, bs, sn, sub, ab, col, dd, k0, k1, k2, k3, k5, h⟩ := E.l
  unfold PySem.W.clsIn
  rw [h]
  rfl
theorem ErrK.hd (E : ErrK K mg M C x) : PySem.W.hasDictIn K C = true := by
  obtain ⟨nm, q, N, bs, sn, sub, ab, col, dd, k0, k1, k2, k3, k5, h⟩ := E.l
  unfold PySem.W.hasDictIn PySem.W.clsIn
  rw [h]
  rfl
theorem ErrK.sub (E : ErrK K mg M C x) : PySem.W.subIn K (.ref C) (.type "BaseException") = some true := by
  show PySem.W.mroIn K C _ = _
  rw [E.mro]
  simp [veM]
theorem ErrK.xfc (E : ErrK K mg M C x) : XfC K C := ⟨E.ga, E.gg, E.sub, E.hd⟩
theorem ErrK.oex (E : ErrK K mg M C x) : OexC K C := by
  obtain ⟨nm, q, N, bs, sn, sub, ab, col, dd, k0, k1, k2, k3, k5, h⟩ := E.l
  exact ⟨⟨nm, q, N, bs, veM M, sn, sub, ab, col, dd, k0, k1, k2, k3, k5, h, rfl⟩, E.sa, E.sub, E.ty, E.k⟩
theorem ErrK.exc (E : ErrK K mg M C x) (cn : PySem.W.specialIn K (.builtin "object.__class__") "__get__" = some (some (.builtin "getset_descriptor.__get__"))) (ct : PySem.W.takesIn K (.builtin "object.__class__") = some true) : ExcC K C :=
  ⟨E.ga, E.gg, E.sub, E.hd, E.ca, cn, ct, by rw [E.mro]; simp [veM]⟩
theorem kitCls_ref {t : Value} (h1 : (PySem.W.clsIn K D).isSome = true) (h2 : PySem.W.typeIn K (.ref D) = some (.type "type")) : PySem.W.kitCls K t (.ref D) = PySem.W.subIn K t (.ref D) := by
  show (if ((PySem.W.clsIn K D).isSome && PySem.W.typeIn K (.ref D) == some (.type "type")) = true then PySem.W.subIn K t (.ref D) else none) = _
  rw [h1, h2, if_pos (by simp)]
/-- isinstance against the class itself, its base, ValueError, another class -/
theorem kit_self : PySem.W.kitOne K (.ref C) (.ref C) = some true := by
  unfold PySem.W.kitOne
  rw [if_pos (by simp)]
theorem ErrK.kit_ne {y : Str} (E : ErrK K mg M C x) (F : ErrK K mg M D y) (h : C ≠ D) (hM : M ≠ D) : PySem.W.kitOne K (.ref C) (.ref D) = some false := by
  unfold PySem.W.kitOne
  rw [if_neg (by simp [h])]
  rw [kitCls_ref F.cls F.ty]
  show PySem.W.mroIn K C _ = _
  rw [E.mro]
  have h1 : D ≠ C := fun z => h z.symm
  have h2 : D ≠ M := fun z => hM z.symm
  simp [veM, h1, h2]
theorem ErrK.kit_base (E : ErrK K mg M C x) (F : ErrM K mg M) (h : C ≠ M) : PySem.W.kitOne K (.ref C) (.ref M) = some true := by
  unfold PySem.W.kitOne
  rw [if_neg (by simp [h])]
  rw [kitCls_ref F.cls F.ty]
  show PySem.W.mroIn K C _ = _
  rw [E.mro]
  simp [veM]
theorem ErrK.kit_ve (E : ErrK K mg M C x) : PySem.W.kitOne K (.ref C) (.type "ValueError") = some true := by
  unfold PySem.W.kitOne
  rw [if_neg (by simp)]
  unfold PySem.W.kitCls
  show (if PySem.W.kitMeta "ValueError" = true then PySem.W.mroIn K C (.type "ValueError") else none) = _
  rw [if_pos (by decide +kernel), E.mro]
  simp [veM]
theorem ErrK.exm (E : ErrK K mg M C x) : PySem.W.exmOne K (.ref C) (.ref C) = some true := by
  unfold PySem.W.exmOne
  rw [E.sub, if_pos (by simp)]
  rw [kitCls_ref E.cls E.ty]
  show PySem.W.mroIn K C _ = _
  rw [E.mro]
  simp
theorem ErrK.exm_ne {y : Str} (E : ErrK K mg M C x) (F : ErrK K mg M D y) (h : C ≠ D) (hM : M ≠ D) : PySem.W.exmOne K (.ref C) (.ref D) = some false := by
  unfold PySem.W.exmOne
  rw [F.sub, if_pos (by simp)]
  rw [kitCls_ref F.cls F.ty]
  show PySem.W.mroIn K C _ = _
  rw [E.mro]
  have h1 : D ≠ C := fun z => h z.symm
  have h2 : D ≠ M := fun z => hM z.symm
  simp [veM, h1, h2]
end
def word : Nat → Str
  | 0 => "free" | 1 => "pair" | 2 => "claim" | 3 => "hook" | 4 => "relay" | 5 => "clamp" | 6 => "trail" | _ => "wheel"
def wordsV : List V := [.str "free", .str "pair", .str "claim", .str "hook", .str "relay", .str "clamp", .str "trail", .str "wheel"]
def formsT : List (List Nat × Str) := [([0], "free"), ([1, 0], "pair"), ([1, 1], "claim"), ([1, 2, 1], "hook"), ([1, 2, 2], "relay"), ([1, 2, 1, 2], "clamp"), ([1, 2, 3, 2], "trail"), ([1, 2, 3, 0], "wheel")]
/-- a def with its promise: how it binds, too -/
def Okd (P : Program) (w : World) (K : PySem.W.Frag) (mg : Str → Option Value) (base : Heap) (CX : CXT) (k : Nat) (f : Addr) (ps : List Str) (sp : Sp) : Prop := ∃ fd, FnOk P w K mg base CX k f fd ps sp ∧ Binds K fd ps []
/-- a def called where an exception is handled, with its promise -/
def Okh (P : Program) (w : World) (K : PySem.W.Frag) (mg : Str → Option Value) (base : Heap) (CX : CXT) (k : Nat) (f : Addr) (ps : List Str) (sp : Sp) : Prop := ∃ fd, L2H.FnH P w K mg base CX k f fd ps sp ∧ Binds K fd ps []
/-! ### the text -/
def top (i : Nat) : Stmt := PySem.Challenge.pw_peermend_k21_whole_distance.main.body.getD i (.Pass ⟨0, 0, 0, 0⟩)
abbrev s_check_image : Stmt := top 8
abbrev s_check_state : Stmt := top 9
abbrev s_check_pair : Stmt := top 10
abbrev s_parts : Stmt := top 12
abbrev s_part_of : Stmt := top 13
abbrev s_walk : Stmt := top 14
abbrev s_distance : Stmt := top 16
abbrev s_part_distance : Stmt := top 17
abbrev s_law_whole : Stmt := top 19
abbrev s_law_bag : Stmt := top 20
abbrev s_law_draw : Stmt := top 21
abbrev s_law_shuffled : Stmt := top 22
abbrev s_law_size : Stmt := top 23
abbrev s_law_state : Stmt := top 24
abbrev s_law_built : Stmt := top 25
abbrev s_law_two : Stmt := top 26
abbrev s_law_lots : Stmt := top 27
abbrev s_law_far : Stmt := top 28
abbrev s_law_relinked : Stmt := top 29
abbrev s_law_near : Stmt := top 30
abbrev s_law_alone : Stmt := top 31
abbrev s_law_refusal : Stmt := top 32
abbrev s_law_bent_row : Stmt := top 33
abbrev s_law_table_due : Stmt := top 34
abbrev s_law_bent_two : Stmt := top 35
abbrev s_law_two_due : Stmt := top 36
abbrev s_law_met : Stmt := top 37
abbrev s_law_told : Stmt := top 38
abbrev s_law_steps_right : Stmt := top 39
abbrev s_law : Stmt := top 40
abbrev s_InvalidImage : Stmt := inClass (top 2) 0
abbrev s_NotState : Stmt := inClass (top 3) 0
abbrev s_Busy : Stmt := inClass (top 4) 0
structure Ad where
  check_image : Addr
  check_state : Addr
  check_pair : Addr
  parts : Addr
  part_of : Addr
  walk : Addr
  distance : Addr
  part_distance : Addr
  law_whole : Addr
  law_bag : Addr
  law_draw : Addr
  law_shuffled : Addr
  law_size : Addr
  law_state : Addr
  law_built : Addr
  law_two : Addr
  law_lots : Addr
  law_far : Addr
  law_relinked : Addr
  law_near : Addr
  law_alone : Addr
  law_refusal : Addr
  law_bent_row : Addr
  law_table_due : Addr
  law_bent_two : Addr
  law_two_due : Addr
  law_met : Addr
  law_told : Addr
  law_steps_right : Addr
  law : Addr
  MendError : Addr
  InvalidImage : Addr
  NotState : Addr
  Busy : Addr
  UnequalSizes : Addr
  InvalidChange : Addr
  i_InvalidImage : Addr
  i_NotState : Addr
  i_Busy : Addr
abbrev N_check_image : List Str := ["image", "size", "record", "name"]
abbrev P_check_image : List Str := ["image"]
theorem sc_check_image : FnScope N_check_image P_check_image (defScope s_check_image) := ⟨rfl, rfl, rfl, by decide +kernel, rfl, by decide +kernel, by decide +kernel⟩
abbrev N_check_state : List Str := ["state", "record", "name"]
abbrev P_check_state : List Str := ["state"]
theorem sc_check_state : FnScope N_check_state P_check_state (defScope s_check_state) := ⟨rfl, rfl, rfl, by decide +kernel, rfl, by decide +kernel, by decide +kernel⟩
abbrev N_check_pair : List Str := ["first", "second"]
abbrev P_check_pair : List Str := ["first", "second"]
theorem sc_check_pair : FnScope N_check_pair P_check_pair (defScope s_check_pair) := ⟨rfl, rfl, rfl, by decide +kernel, rfl, by decide +kernel, by decide +kernel⟩
abbrev N_parts : List Str := ["before", "after", "found", "seen", "record", "name", "part"]
abbrev P_parts : List Str := ["before", "after"]
theorem sc_parts : FnScope N_parts P_parts (defScope s_parts) := ⟨rfl, rfl, rfl, by decide +kernel, rfl, by decide +kernel, by decide +kernel⟩
abbrev N_part_of : List Str := ["before", "after", "least", "row", "back"]
abbrev P_part_of : List Str := ["before", "after", "least"]
theorem sc_part_of : FnScope N_part_of P_part_of (defScope s_part_of) := ⟨rfl, rfl, rfl, by decide +kernel, rfl, by decide +kernel, by decide +kernel⟩
abbrev N_walk : List Str := ["first", "second", "start", "row", "here"]
abbrev P_walk : List Str := ["first", "second", "start"]
theorem sc_walk : FnScope N_walk P_walk (defScope s_walk) := ⟨rfl, rfl, rfl, by decide +kernel, rfl, by decide +kernel, by decide +kernel⟩
abbrev N_distance : List Str := ["before", "after", "part"]
abbrev P_distance : List Str := ["before", "after"]
theorem sc_distance : FnScope N_distance P_distance (defScope s_distance) := ⟨rfl, rfl, rfl, by decide +kernel, rfl, by decide +kernel, by decide +kernel⟩
abbrev N_part_distance : List Str := ["part", "shape", "row"]
abbrev P_part_distance : List Str := ["part"]
theorem sc_part_distance : FnScope N_part_distance P_part_distance (defScope s_part_distance) := ⟨rfl, rfl, rfl, by decide +kernel, rfl, by decide +kernel, by decide +kernel⟩
abbrev N_law_whole : List Str := ["told"]
abbrev P_law_whole : List Str := ["told"]
theorem sc_law_whole : FnScope N_law_whole P_law_whole (defScope s_law_whole) := ⟨rfl, rfl, rfl, by decide +kernel, rfl, by decide +kernel, by decide +kernel⟩
abbrev N_law_bag : List Str := ["script", "cells", "seed", "cell"]
abbrev P_law_bag : List Str := ["script"]
theorem sc_law_bag : FnScope N_law_bag P_law_bag (defScope s_law_bag) := ⟨rfl, rfl, rfl, by decide +kernel, rfl, by decide +kernel, by decide +kernel⟩
abbrev N_law_draw : List Str := ["bag", "many", "cell", "digit", "mixed"]
abbrev P_law_draw : List Str := ["bag", "many"]
theorem sc_law_draw : FnScope N_law_draw P_law_draw (defScope s_law_draw) := ⟨rfl, rfl, rfl, by decide +kernel, rfl, by decide +kernel, by decide +kernel⟩
abbrev N_law_shuffled : List Str := ["bag", "things", "pool", "order", "turn"]
abbrev P_law_shuffled : List Str := ["bag", "things"]
theorem sc_law_shuffled : FnScope N_law_shuffled P_law_shuffled (defScope s_law_shuffled) := ⟨rfl, rfl, rfl, by decide +kernel, rfl, by decide +kernel, by decide +kernel⟩
abbrev N_law_size : List Str := ["bag", "most", "wide"]
abbrev P_law_size : List Str := ["bag", "most"]
theorem sc_law_size : FnScope N_law_size P_law_size (defScope s_law_size) := ⟨rfl, rfl, rfl, by decide +kernel, rfl, by decide +kernel, by decide +kernel⟩
abbrev N_law_state : List Str := ["bag", "size", "share", "order", "row", "place", "turn", "pick"]
abbrev P_law_state : List Str := ["bag", "size"]
theorem sc_law_state : FnScope N_law_state P_law_state (defScope s_law_state) := ⟨rfl, rfl, rfl, by decide +kernel, rfl, by decide +kernel, by decide +kernel⟩
abbrev N_law_built : List Str := ["bag", "size", "reach", "order", "rows", "place", "turn", "length", "closed", "first", "k", "one", "mate", "row"]
abbrev P_law_built : List Str := ["bag", "size"]
theorem sc_law_built : FnScope N_law_built P_law_built (defScope s_law_built) := ⟨rfl, rfl, rfl, by decide +kernel, rfl, by decide +kernel, by decide +kernel⟩
abbrev N_law_two : List Str := ["bag", "size", "how", "row"]
abbrev P_law_two : List Str := ["bag", "size"]
theorem sc_law_two : FnScope N_law_two P_law_two (defScope s_law_two) := ⟨rfl, rfl, rfl, by decide +kernel, rfl, by decide +kernel, by decide +kernel⟩
abbrev N_law_lots : List Str := ["before", "after", "seen", "lots", "start", "line", "step", "y", "ends", "x"]
abbrev P_law_lots : List Str := ["before", "after"]
theorem sc_law_lots : FnScope N_law_lots P_law_lots (defScope s_law_lots) := ⟨rfl, rfl, rfl, by decide +kernel, rfl, by decide +kernel, by decide +kernel⟩
abbrev N_law_far : List Str := ["before", "after", "lots", "uneven", "closed", "lot"]
abbrev P_law_far : List Str := ["before", "after"]
theorem sc_law_far : FnScope N_law_far P_law_far (defScope s_law_far) := ⟨rfl, rfl, rfl, by decide +kernel, rfl, by decide +kernel, by decide +kernel⟩
abbrev N_law_relinked : List Str := ["row", "links", "bent", "link"]
abbrev P_law_relinked : List Str := ["row", "links"]
theorem sc_law_relinked : FnScope N_law_relinked P_law_relinked (defScope s_law_relinked) := ⟨rfl, rfl, rfl, by decide +kernel, rfl, by decide +kernel, by decide +kernel⟩
abbrev N_law_near : List Str := ["row", "lone", "pairs", "found", "k", "x", "pair", "one", "mate"]
abbrev P_law_near : List Str := ["row"]
theorem sc_law_near : FnScope N_law_near P_law_near (defScope s_law_near) := ⟨rfl, rfl, rfl, by decide +kernel, rfl, by decide +kernel, by decide +kernel⟩
abbrev N_law_alone : List Str := ["raised", "known"]
abbrev P_law_alone : List Str := ["raised"]
theorem sc_law_alone : FnScope N_law_alone P_law_alone (defScope s_law_alone) := ⟨rfl, rfl, rfl, by decide +kernel, rfl, by decide +kernel, by decide +kernel⟩
abbrev N_law_refusal : List Str := ["word", "raised", "at"]
abbrev P_law_refusal : List Str := ["word", "raised", "at"]
theorem sc_law_refusal : FnScope N_law_refusal P_law_refusal (defScope s_law_refusal) := ⟨rfl, rfl, rfl, by decide +kernel, rfl, by decide +kernel, by decide +kernel⟩
abbrev N_law_bent_row : List Str := ["bag", "row", "how", "bent", "size", "place", "spot"]
abbrev P_law_bent_row : List Str := ["bag", "row"]
theorem sc_law_bent_row : FnScope N_law_bent_row P_law_bent_row (defScope s_law_bent_row) := ⟨rfl, rfl, rfl, by decide +kernel, rfl, by decide +kernel, by decide +kernel⟩
abbrev N_law_table_due : List Str := ["row", "x"]
abbrev P_law_table_due : List Str := ["row"]
theorem sc_law_table_due : FnScope N_law_table_due P_law_table_due (defScope s_law_table_due) := ⟨rfl, rfl, rfl, by decide +kernel, rfl, by decide +kernel, by decide +kernel⟩
abbrev N_law_bent_two : List Str := ["bag", "before", "after", "other", "first", "second", "size"]
abbrev P_law_bent_two : List Str := ["bag", "before", "after"]
theorem sc_law_bent_two : FnScope N_law_bent_two P_law_bent_two (defScope s_law_bent_two) := ⟨rfl, rfl, rfl, by decide +kernel, rfl, by decide +kernel, by decide +kernel⟩
abbrev N_law_two_due : List Str := ["first", "second", "due"]
abbrev P_law_two_due : List Str := ["first", "second"]
theorem sc_law_two_due : FnScope N_law_two_due P_law_two_due (defScope s_law_two_due) := ⟨rfl, rfl, rfl, by decide +kernel, rfl, by decide +kernel, by decide +kernel⟩
abbrev N_law_met : List Str := ["first", "second", "raised"]
abbrev P_law_met : List Str := ["first", "second"]
theorem sc_law_met : FnScope N_law_met P_law_met (defScope s_law_met) := ⟨rfl, rfl, rfl, by decide +kernel, rfl, by decide +kernel, by decide +kernel⟩
abbrev N_law_told : List Str := ["first", "second", "passed", "met"]
abbrev P_law_told : List Str := ["first", "second"]
theorem sc_law_told : FnScope N_law_told P_law_told (defScope s_law_told) := ⟨rfl, rfl, rfl, by decide +kernel, rfl, by decide +kernel, by decide +kernel⟩
abbrev N_law_steps_right : List Str := ["bag", "before", "after", "base", "near", "small", "least", "row", "told", "k"]
abbrev P_law_steps_right : List Str := ["bag", "before", "after", "base"]
theorem sc_law_steps_right : FnScope N_law_steps_right P_law_steps_right (defScope s_law_steps_right) := ⟨rfl, rfl, rfl, by decide +kernel, rfl, by decide +kernel, by decide +kernel⟩
abbrev N_law : List Str := ["script", "bag", "rows", "before", "after", "due", "third", "one", "two", "bent", "passed", "met"]
abbrev P_law : List Str := ["script"]
theorem sc_law : FnScope N_law P_law (defScope s_law) := ⟨rfl, rfl, rfl, by decide +kernel, rfl, by decide +kernel, by decide +kernel⟩
abbrev N_InvalidImage : List Str := ["self", "record"]
abbrev P_InvalidImage : List Str := ["self", "record"]
theorem sc_InvalidImage : FnScope N_InvalidImage P_InvalidImage (defScope s_InvalidImage) := ⟨rfl, rfl, rfl, by decide +kernel, rfl, by decide +kernel, by decide +kernel⟩
abbrev N_NotState : List Str := ["self", "record"]
abbrev P_NotState : List Str := ["self", "record"]
theorem sc_NotState : FnScope N_NotState P_NotState (defScope s_NotState) := ⟨rfl, rfl, rfl, by decide +kernel, rfl, by decide +kernel, by decide +kernel⟩
abbrev N_Busy : List Str := ["self", "record"]
abbrev P_Busy : List Str := ["self", "record"]
theorem sc_Busy : FnScope N_Busy P_Busy (defScope s_Busy) := ⟨rfl, rfl, rfl, by decide +kernel, rfl, by decide +kernel, by decide +kernel⟩
structure Txt (K : PySem.W.Frag) (mg : Str → Option Value) (A : Ad) : Prop where
  g_check_image : mg "check_image" = some (.ref A.check_image)
  k_check_image : PySem.W.keepIn K (.ref A.check_image) = true
  d_check_image : ∃ fd, Fun K "check_image" "check_image" s_check_image A.check_image fd
  g_check_state : mg "check_state" = some (.ref A.check_state)
  k_check_state : PySem.W.keepIn K (.ref A.check_state) = true
  d_check_state : ∃ fd, Fun K "check_state" "check_state" s_check_state A.check_state fd
  g_check_pair : mg "check_pair" = some (.ref A.check_pair)
  k_check_pair : PySem.W.keepIn K (.ref A.check_pair) = true
  d_check_pair : ∃ fd, Fun K "check_pair" "check_pair" s_check_pair A.check_pair fd
  g_parts : mg "parts" = some (.ref A.parts)
  k_parts : PySem.W.keepIn K (.ref A.parts) = true
  d_parts : ∃ fd, Fun K "parts" "parts" s_parts A.parts fd
  g_part_of : mg "_part_of" = some (.ref A.part_of)
  k_part_of : PySem.W.keepIn K (.ref A.part_of) = true
  d_part_of : ∃ fd, Fun K "_part_of" "_part_of" s_part_of A.part_of fd
  g_walk : mg "_walk" = some (.ref A.walk)
  k_walk : PySem.W.keepIn K (.ref A.walk) = true
  d_walk : ∃ fd, Fun K "_walk" "_walk" s_walk A.walk fd
  g_distance : mg "distance" = some (.ref A.distance)
  k_distance : PySem.W.keepIn K (.ref A.distance) = true
  d_distance : ∃ fd, Fun K "distance" "distance" s_distance A.distance fd
  g_part_distance : mg "_part_distance" = some (.ref A.part_distance)
  k_part_distance : PySem.W.keepIn K (.ref A.part_distance) = true
  d_part_distance : ∃ fd, Fun K "_part_distance" "_part_distance" s_part_distance A.part_distance fd
  g_law_whole : mg "_law_whole" = some (.ref A.law_whole)
  k_law_whole : PySem.W.keepIn K (.ref A.law_whole) = true
  d_law_whole : ∃ fd, Fun K "_law_whole" "_law_whole" s_law_whole A.law_whole fd
  g_law_bag : mg "_law_bag" = some (.ref A.law_bag)
  k_law_bag : PySem.W.keepIn K (.ref A.law_bag) = true
  d_law_bag : ∃ fd, Fun K "_law_bag" "_law_bag" s_law_bag A.law_bag fd
  g_law_draw : mg "_law_draw" = some (.ref A.law_draw)
  k_law_draw : PySem.W.keepIn K (.ref A.law_draw) = true
  d_law_draw : ∃ fd, Fun K "_law_draw" "_law_draw" s_law_draw A.law_draw fd
  g_law_shuffled : mg "_law_shuffled" = some (.ref A.law_shuffled)
  k_law_shuffled : PySem.W.keepIn K (.ref A.law_shuffled) = true
  d_law_shuffled : ∃ fd, Fun K "_law_shuffled" "_law_shuffled" s_law_shuffled A.law_shuffled fd
  g_law_size : mg "_law_size" = some (.ref A.law_size)
  k_law_size : PySem.W.keepIn K (.ref A.law_size) = true
  d_law_size : ∃ fd, Fun K "_law_size" "_law_size" s_law_size A.law_size fd
  g_law_state : mg "_law_state" = some (.ref A.law_state)
  k_law_state : PySem.W.keepIn K (.ref A.law_state) = true
  d_law_state : ∃ fd, Fun K "_law_state" "_law_state" s_law_state A.law_state fd
  g_law_built : mg "_law_built" = some (.ref A.law_built)
  k_law_built : PySem.W.keepIn K (.ref A.law_built) = true
  d_law_built : ∃ fd, Fun K "_law_built" "_law_built" s_law_built A.law_built fd
  g_law_two : mg "_law_two" = some (.ref A.law_two)
  k_law_two : PySem.W.keepIn K (.ref A.law_two) = true
  d_law_two : ∃ fd, Fun K "_law_two" "_law_two" s_law_two A.law_two fd
  g_law_lots : mg "_law_lots" = some (.ref A.law_lots)
  k_law_lots : PySem.W.keepIn K (.ref A.law_lots) = true
  d_law_lots : ∃ fd, Fun K "_law_lots" "_law_lots" s_law_lots A.law_lots fd
  g_law_far : mg "_law_far" = some (.ref A.law_far)
  k_law_far : PySem.W.keepIn K (.ref A.law_far) = true
  d_law_far : ∃ fd, Fun K "_law_far" "_law_far" s_law_far A.law_far fd
  g_law_relinked : mg "_law_relinked" = some (.ref A.law_relinked)
  k_law_relinked : PySem.W.keepIn K (.ref A.law_relinked) = true
  d_law_relinked : ∃ fd, Fun K "_law_relinked" "_law_relinked" s_law_relinked A.law_relinked fd
  g_law_near : mg "_law_near" = some (.ref A.law_near)
  k_law_near : PySem.W.keepIn K (.ref A.law_near) = true
  d_law_near : ∃ fd, Fun K "_law_near" "_law_near" s_law_near A.law_near fd
  g_law_alone : mg "_law_alone" = some (.ref A.law_alone)
  k_law_alone : PySem.W.keepIn K (.ref A.law_alone) = true
  d_law_alone : ∃ fd, Fun K "_law_alone" "_law_alone" s_law_alone A.law_alone fd
  g_law_refusal : mg "_law_refusal" = some (.ref A.law_refusal)
  k_law_refusal : PySem.W.keepIn K (.ref A.law_refusal) = true
  d_law_refusal : ∃ fd, Fun K "_law_refusal" "_law_refusal" s_law_refusal A.law_refusal fd
  g_law_bent_row : mg "_law_bent_row" = some (.ref A.law_bent_row)
  k_law_bent_row : PySem.W.keepIn K (.ref A.law_bent_row) = true
  d_law_bent_row : ∃ fd, Fun K "_law_bent_row" "_law_bent_row" s_law_bent_row A.law_bent_row fd
  g_law_table_due : mg "_law_table_due" = some (.ref A.law_table_due)
  k_law_table_due : PySem.W.keepIn K (.ref A.law_table_due) = true
  d_law_table_due : ∃ fd, Fun K "_law_table_due" "_law_table_due" s_law_table_due A.law_table_due fd
  g_law_bent_two : mg "_law_bent_two" = some (.ref A.law_bent_two)
  k_law_bent_two : PySem.W.keepIn K (.ref A.law_bent_two) = true
  d_law_bent_two : ∃ fd, Fun K "_law_bent_two" "_law_bent_two" s_law_bent_two A.law_bent_two fd
  g_law_two_due : mg "_law_two_due" = some (.ref A.law_two_due)
  k_law_two_due : PySem.W.keepIn K (.ref A.law_two_due) = true
  d_law_two_due : ∃ fd, Fun K "_law_two_due" "_law_two_due" s_law_two_due A.law_two_due fd
  g_law_met : mg "_law_met" = some (.ref A.law_met)
  k_law_met : PySem.W.keepIn K (.ref A.law_met) = true
  d_law_met : ∃ fd, Fun K "_law_met" "_law_met" s_law_met A.law_met fd
  g_law_told : mg "_law_told" = some (.ref A.law_told)
  k_law_told : PySem.W.keepIn K (.ref A.law_told) = true
  d_law_told : ∃ fd, Fun K "_law_told" "_law_told" s_law_told A.law_told fd
  g_law_steps_right : mg "_law_steps_right" = some (.ref A.law_steps_right)
  k_law_steps_right : PySem.W.keepIn K (.ref A.law_steps_right) = true
  d_law_steps_right : ∃ fd, Fun K "_law_steps_right" "_law_steps_right" s_law_steps_right A.law_steps_right fd
  g_law : mg "law" = some (.ref A.law)
  k_law : PySem.W.keepIn K (.ref A.law) = true
  d_law : ∃ fd, Fun K "law" "law" s_law A.law fd
  e_MendError : ErrM K mg A.MendError
  e_InvalidImage : ErrK K mg A.MendError A.InvalidImage "InvalidImage"
  e_NotState : ErrK K mg A.MendError A.NotState "NotState"
  e_Busy : ErrK K mg A.MendError A.Busy "Busy"
  e_UnequalSizes : ErrK K mg A.MendError A.UnequalSizes "UnequalSizes"
  q_UnequalSizes : PySem.W.excIn K A.UnequalSizes [.type "ValueError", .type "Exception", .type "BaseException", .type "object"] "ValueError.__new__" = true
  e_InvalidChange : ErrK K mg A.MendError A.InvalidChange "InvalidChange"
  q_InvalidChange : PySem.W.excIn K A.InvalidChange [.type "ValueError", .type "Exception", .type "BaseException", .type "object"] "ValueError.__new__" = true
  f_InvalidImage : ErrF K A.InvalidImage A.i_InvalidImage "InvalidImage.__init__" "record" s_InvalidImage
  f_NotState : ErrF K A.NotState A.i_NotState "NotState.__init__" "record" s_NotState
  f_Busy : ErrF K A.Busy A.i_Busy "Busy.__init__" "record" s_Busy
  n_ValueError : mg "ValueError" = none
  n_int : mg "int" = none
  n_bool : mg "bool" = none
  n_str : mg "str" = none
  n_list : mg "list" = none
  n_tuple : mg "tuple" = none
  n_len : mg "len" = none
  n_range : mg "range" = none
  n_enumerate : mg "enumerate" = none
  n_isinstance : mg "isinstance" = none
  n_min : mg "min" = none
  n_abs : mg "abs" = none
  n_sorted : mg "sorted" = none
  n_all : mg "all" = none
  n_sum : mg "sum" = none
  n_zip : mg "zip" = none
  n_reversed : mg "reversed" = none
  n_max : mg "max" = none
  n_set : mg "set" = none
  cn : PySem.W.specialIn K (.builtin "object.__class__") "__get__" = some (some (.builtin "getset_descriptor.__get__"))
  ct : PySem.W.takesIn K (.builtin "object.__class__") = some true
  nd : [A.MendError, A.InvalidImage, A.NotState, A.Busy, A.UnequalSizes, A.InvalidChange].Nodup
end Pv

namespace Pv
open PySem L2
/-- all but what stands at b is as it was -/
def Mut (b : Addr) (H H' : Hp) : Prop := ∀ a o, a ≠ b → H a = some o → H' a = some o
theorem Mut.refl (b : Addr) (H : Hp) : Mut b H H := fun _ _ _ e => e
theorem Mut.trans {b : Addr} {H H1 H2 : Hp} (x : Mut b H H1) (y : Mut b H1 H2) : Mut b H H2 := fun a o n e => y a o n (x a o n e)
theorem Mut.upd {b : Addr} {H H1 : Hp} {o : HO} (x : Mut b H H1) : Mut b H (L2.upd H1 b o) := fun a u n e => by
  rw [upd_ne n]
  exact x a u n e
theorem Mut.new {b p : Addr} {H H1 : Hp} {o : HO} (x : Mut b H H1) (hp : H1 p = none) : Mut b H (L2.upd H1 p o) := fun a u n e => by
  have e1 := x a u n e
  rw [upd_ne (ne_of_none e1 hp)]
  exact e1
theorem Mut.free {b p : Addr} {H H1 : Hp} (x : Mut b H H1) (h : p ≠ b) (hp : H1 p = none) : H p = none := by
  cases e : H p with
  | none => rfl
  | some o =>
    rw [x p o h e] at hp
    cases hp
/-- the bag of the draws -/
def bagL (g f s : Int) : List V := [.int g, .int f, .int s]
structure BagOk (g f s : Int) : Prop where
  g0 : 0 ≤ g
  f0 : 0 ≤ f
  f1 : f < 2147483647
  s0 : 0 ≤ s
  s1 : s < 2147483647
def Bag (H : Hp) (b : Addr) : Prop := ∃ g f s : Int, H b = some (.lst (bagL g f s)) ∧ BagOk g f s
def spBag (K : PySem.W.Frag) : Sp := fun vs H Q _ => ∃ (a : Addr) (ns : List Int), vs = [.ref a] ∧ SqL K H a (ns.map V.int) ∧ ∀ b g f s, H b = none → BagOk g f s → Q (.ref b) (upd H b (.lst (bagL g f s)))
def spTake : Sp := fun vs H Q _ => ∃ (b : Addr) (n : Int), vs = [.ref b, .int n] ∧ 0 < n ∧ n < 1152921504606846976 ∧ Bag H b ∧ ∀ d H', 0 ≤ d → d < n → Bag H' b → Mut b H H' → Q (.int d) H'
/-- ints from 0 to below n -/
def Below (n : Int) (xs : List Int) : Prop := ∀ x ∈ xs, 0 ≤ x ∧ x < n
def ListI (H : Hp) (p : Addr) (xs : List Int) : Prop := H p = some (.lst (xs.map V.int))
def spOrder : Sp := fun vs H Q _ => ∃ (b : Addr) (n : Nat), vs = [.ref b, .int (n : Int)] ∧ n ≤ 64 ∧ Bag H b ∧ ∀ p xs H', H p = none → p ≠ b → xs.length = n → Below n xs → ListI H' p xs → Bag H' b → Mut b H H' → Q (.ref p) H'
def spSize : Sp := fun vs H Q _ => ∃ b : Addr, vs = [.ref b] ∧ Bag H b ∧ ∀ (d : Int) H', 0 ≤ d → d ≤ 64 → Bag H' b → Mut b H H' → Q (.int d) H'
def spEntry : Sp := fun vs H Q _ => ∃ (b : Addr) (n : Nat), vs = [.ref b, .int (n : Int)] ∧ 0 < n ∧ n ≤ 64 ∧ Bag H b ∧ ∀ (d : Int) H', Bag H' b → Mut b H H' → Q (.int d) H'
def spDrawn : Sp := fun vs H Q _ => ∃ (b : Addr) (n : Nat), vs = [.ref b, .int (n : Int)] ∧ n ≤ 64 ∧ Bag H b ∧ ∀ p xs H', H p = none → p ≠ b → xs.length = n → ListI H' p xs → Bag H' b → Mut b H H' → Q (.ref p) H'
theorem Bag.ne {H : Hp} {b p : Addr} (B : Bag H b) (h : H p = none) : p ≠ b := fun e => by
  obtain ⟨g, f, s, hb, _⟩ := B
  rw [e, hb] at h
  cases h
theorem Bag.keep {H H' : Hp} {b : Addr} (B : Bag H b) (h : ∀ o, H b = some o → H' b = some o) : Bag H' b := by
  obtain ⟨g, f, s, hb, ok⟩ := B
  exact ⟨g, f, s, h _ hb, ok⟩
theorem map_erase {α β : Type} (f : α → β) : ∀ (l : List α) (i : Nat), (l.map f).eraseIdx i = (l.eraseIdx i).map f
  | [], _ => rfl
  | _ :: _, 0 => rfl
  | a :: l, i + 1 => by
    show f a :: (l.map f).eraseIdx i = f a :: (l.eraseIdx i).map f
    rw [map_erase f l i]
theorem rgV_map (n : Nat) : rgV 0 (n : Int) = ((List.range n).map fun i : Nat => (i : Int)).map V.int := by
  unfold rgV
  have e : ((n : Int) - 0).toNat = n := by omega
  rw [e, List.map_map]
  refine List.map_congr_left fun i _ => ?_
  show V.int (0 + (i : Int)) = V.int (i : Int)
  rw [Int.zero_add]
theorem below_rg (n : Nat) : Below (n : Int) ((List.range n).map fun i : Nat => (i : Int)) := fun x hx => by
  obtain ⟨i, hi, rfl⟩ := List.mem_map.mp hx
  have := List.mem_range.mp hi
  omega
theorem ListI.sz {K : PySem.W.Frag} {H : Hp} {p : Addr} {xs : List Int} (h : ListI H p xs) : SqL K H p (xs.map V.int) := SqL.of h
theorem ix_map {xs : List Int} {j : Nat} (h : j < xs.length) : (xs.map V.int)[j]? = some (V.int xs[j]) := by
  rw [List.getElem?_map, List.getElem?_eq_getElem h]
  rfl
theorem at_map {xs : List Int} {j : Nat} (h : j < xs.length) : atI (xs.map V.int) (j : Int) = some (V.int xs[j]) := atI_nat (ix_map h)
theorem set_map {xs : List Int} {j : Nat} {v : Int} : (xs.map V.int).set j (V.int v) = (xs.set j v).map V.int := List.map_set.symm
theorem ite_b {b : Bool} {X Y : Prop} (h1 : b = true → X) (h2 : b = false → Y) : if b = true then X else Y := by
  cases b with
  | true => exact h1 rfl
  | false => exact h2 rfl
theorem int_at {ns : List Int} {i : Nat} {y : V} (h : (ns.map V.int)[i]? = some y) : ∃ z, ns[i]? = some z ∧ y = V.int z := by
  rw [List.getElem?_map] at h
  cases e : ns[i]? with
  | none =>
    rw [e] at h
    cases h
  | some z =>
    rw [e] at h
    exact ⟨z, rfl, (Option.some.inj h).symm⟩
end Pv

/-! states, walks along two states in turn, chains and rings -/
namespace Pv
open Pm
def gt (A : List Nat) (x : Nat) : Nat := A.getD x 0
/-- a state -/
structure Sta (A : List Nat) : Prop where
  lt : ∀ x, x < A.length → gt A x < A.length
  inv : ∀ x, x < A.length → gt A (gt A x) = x
def sel (A B : List Nat) (j : Nat) : List Nat := if j % 2 = 0 then A else B
theorem sel_len {A B : List Nat} (h : A.length = B.length) (j : Nat) : (sel A B j).length = A.length := by
  unfold sel
  split
  · rfl
  · exact h.symm
theorem sel_sta {A B : List Nat} (a : Sta A) (b : Sta B) (j : Nat) : Sta (sel A B j) := by
  unfold sel
  split
  · exact a
  · exact b
theorem sel_two {A B : List Nat} {i j : Nat} (h : i % 2 = j % 2) : sel A B i = sel A B j := by
  unfold sel
  rw [h]
/-- a walk that has not ended: from s along A and B in turn -/
structure Ptl (A B : List Nat) (s : Nat) (w : List Nat) : Prop where
  pos : 0 < w.length
  st : gt w 0 = s
  nd : w.Nodup
  lt : ∀ x ∈ w, x < A.length
  go : ∀ j, j + 1 < w.length → gt (sel A B j) (gt w j) = gt w (j + 1)
/-- a walk that has ended -/
structure Trl (A B : List Nat) (s : Nat) (w : List Nat) : Prop extends Ptl A B s w where
  fin : gt (sel A B (w.length - 1)) (gt w (w.length - 1)) = gt w (w.length - 1) ∨ gt (sel A B (w.length - 1)) (gt w (w.length - 1)) = s
theorem gt_mem {w : List Nat} {j : Nat} (h : j < w.length) : gt w j ∈ w := getD_mem h
theorem gt_inj {w : List Nat} (nd : w.Nodup) {i j : Nat} (hi : i < w.length) (hj : j < w.length) (h : gt w i = gt w j) : i = j := by
  unfold gt at h
  rw [List.getD_eq_getElem?_getD, List.getElem?_eq_getElem hi, List.getD_eq_getElem?_getD, List.getElem?_eq_getElem hj] at h
  exact (List.getElem_inj nd).mp h
theorem gt_append {w : List Nat} {y j : Nat} : gt (w ++ [y]) j = if j < w.length then gt w j else if j = w.length then y else 0 := by
  unfold gt
  rw [List.getD_eq_getElem?_getD, List.getElem?_append]
  split
  · rw [List.getD_eq_getElem?_getD]
  · rename_i c
    split
    · rename_i c2
      rw [c2, Nat.sub_self]
      rfl
    · rw [List.getElem?_eq_none (by simp; omega)]
      rfl
theorem nodup_len {w : List Nat} {n : Nat} (nd : w.Nodup) (lt : ∀ x ∈ w, x < n) : w.length ≤ n := by
  have hp : w.Perm ((List.range n).filter fun y => decide (y ∈ w)) := (List.perm_ext_iff_of_nodup nd (List.nodup_range.sublist List.filter_sublist)).mpr fun x => by
    rw [List.mem_filter, List.mem_range, decide_eq_true_eq]
    exact ⟨fun h => ⟨lt x h, h⟩, fun h => h.2⟩
  rw [hp.length_eq]
  exact Nat.le_trans (List.length_filter_le _ _) (by rw [List.length_range]; exact Nat.le_refl _)
/-- one step more -/
theorem Ptl.more {A B w : List Nat} {s : Nat} (h : A.length = B.length) (a : Sta A) (b : Sta B) (P : Ptl A B s w) (n1 : gt (sel A B (w.length - 1)) (gt w (w.length - 1)) ≠ gt w (w.length - 1)) (n2 : gt (sel A B (w.length - 1)) (gt w (w.length - 1)) ≠ s) :
    Ptl A B s (w ++ [gt (sel A B (w.length - 1)) (gt w (w.length - 1))]) := by
  have p := P.pos
  have hl := sel_len (A := A) (B := B) h
  have last := P.lt _ (gt_mem (show w.length - 1 < w.length by omega))
  have hy : gt (sel A B (w.length - 1)) (gt w (w.length - 1)) < A.length := by
    have := (sel_sta a b (w.length - 1)).lt _ (by rw [hl]; exact last)
    rw [hl] at this
    exact this
  refine ⟨by rw [List.length_append]; omega, ?_, ?_, fun x hx => ?_, fun j hj => ?_⟩
  · rw [gt_append, if_pos p]
    exact P.st
  · rw [List.nodup_append]
    refine ⟨P.nd, by simp, fun x hx y hy e => ?_⟩
    rw [List.mem_singleton.mp hy] at e
    obtain ⟨i, hi, hx⟩ := mem_getD hx
    have hx : gt w i = x := hx
    rw [← hx] at e
    by_cases c0 : i = 0
    · rw [c0, P.st] at e
      exact n2 e.symm
    · by_cases cl : i = w.length - 1
      · rw [cl] at e
        exact n1 e.symm
      · have hin := P.lt _ (gt_mem hi)
        have back : gt (sel A B (w.length - 1)) (gt w i) = gt w (w.length - 1) := by
          rw [e]
          exact (sel_sta a b _).inv _ (by rw [hl]; exact last)
        by_cases cp : (w.length - 1) % 2 = i % 2
        · rw [sel_two cp, P.go i (by omega)] at back
          have := gt_inj P.nd (by omega) (by omega) back
          omega
        · have e2 : gt (sel A B (i - 1)) (gt w i) = gt w (i - 1) := by
            have g := P.go (i - 1) (by omega)
            rw [show i - 1 + 1 = i by omega] at g
            rw [← g]
            exact (sel_sta a b _).inv _ (by rw [hl]; exact P.lt _ (gt_mem (by omega)))
          rw [sel_two (show (w.length - 1) % 2 = (i - 1) % 2 by omega), e2] at back
          have := gt_inj P.nd (by omega) (by omega) back
          omega
  · rcases List.mem_append.mp hx with hx | hx
    · exact P.lt x hx
    · rw [List.mem_singleton.mp hx]
      exact hy
  · rw [List.length_append, List.length_singleton] at hj
    rw [gt_append, if_pos (by omega), gt_append]
    by_cases c : j + 1 < w.length
    · rw [if_pos c]
      exact P.go j c
    · rw [if_neg c, if_pos (by omega), show w.length - 1 = j by omega]
theorem Ptl.ends {A B : List Nat} {s : Nat} (h : A.length = B.length) (a : Sta A) (b : Sta B) : ∀ (m : Nat) (w : List Nat), Ptl A B s w → A.length - w.length = m → ∃ w', Trl A B s w' := by
  intro m
  induction m with
  | zero =>
    intro w P hm
    by_cases c : gt (sel A B (w.length - 1)) (gt w (w.length - 1)) = gt w (w.length - 1) ∨ gt (sel A B (w.length - 1)) (gt w (w.length - 1)) = s
    · exact ⟨w, P, c⟩
    · have Q := P.more h a b (fun z => c (.inl z)) (fun z => c (.inr z))
      have := nodup_len Q.nd Q.lt
      rw [List.length_append, List.length_singleton] at this
      omega
  | succ m ih =>
    intro w P hm
    by_cases c : gt (sel A B (w.length - 1)) (gt w (w.length - 1)) = gt w (w.length - 1) ∨ gt (sel A B (w.length - 1)) (gt w (w.length - 1)) = s
    · exact ⟨w, P, c⟩
    · have Q := P.more h a b (fun z => c (.inl z)) (fun z => c (.inr z))
      exact ih _ Q (by rw [List.length_append, List.length_singleton]; omega)
theorem trl_ex {A B : List Nat} {s : Nat} (h : A.length = B.length) (a : Sta A) (b : Sta B) (hs : s < A.length) : ∃ w, Trl A B s w :=
  Ptl.ends h a b _ [s] ⟨Nat.succ_pos 0, rfl, by simp, fun x hx => by rw [List.mem_singleton.mp hx]; exact hs, fun j hj => absurd hj (by simp)⟩ rfl
theorem Trl.at_ {A B w w' : List Nat} {s : Nat} (T : Trl A B s w) (T' : Trl A B s w') : ∀ j, j < w.length → j < w'.length → gt w j = gt w' j
  | 0, _, _ => T.st.trans T'.st.symm
  | j + 1, h, h' => by rw [← T.go j h, ← T'.go j h', T.at_ T' j (by omega) (by omega)]
theorem Trl.le {A B w w' : List Nat} {s : Nat} (T : Trl A B s w) (T' : Trl A B s w') : w'.length ≤ w.length := by
  apply Nat.le_of_not_lt
  intro c
  have p := T.pos
  have e := T.at_ T' (w.length - 1) (by omega) (by omega)
  have g := T'.go (w.length - 1) (by omega)
  have f := T.fin
  rw [e, g] at f
  rcases f with f | f
  · have := gt_inj T'.nd (by omega) (by omega) f
    omega
  · rw [← T'.st] at f
    have := gt_inj T'.nd (by omega) (by omega) f
    omega
theorem ext_gt {w w' : List Nat} (hl : w.length = w'.length) (h : ∀ j, j < w.length → gt w j = gt w' j) : w = w' := by
  refine List.ext_getElem hl fun j h1 h2 => ?_
  have := h j h1
  unfold gt at this
  rw [List.getD_eq_getElem?_getD, List.getElem?_eq_getElem h1, List.getD_eq_getElem?_getD, List.getElem?_eq_getElem h2] at this
  exact this
theorem Trl.uniq {A B w w' : List Nat} {s : Nat} (T : Trl A B s w) (T' : Trl A B s w') : w = w' := by
  have hl := Nat.le_antisymm (T'.le T) (T.le T')
  exact ext_gt hl fun j hj => T.at_ T' j hj (by omega)
open Classical in
/-- the walk -/
noncomputable def walkF (A B : List Nat) (s : Nat) : List Nat := if h : ∃ w, Trl A B s w then Classical.choose h else []
theorem walkF_ok {A B : List Nat} {s : Nat} (h : ∃ w, Trl A B s w) : Trl A B s (walkF A B s) := by
  unfold walkF
  rw [dif_pos h]
  exact Classical.choose_spec h
theorem walkF_eq {A B w : List Nat} {s : Nat} (T : Trl A B s w) : walkF A B s = w := (walkF_ok ⟨w, T⟩).uniq T
/-- the part that holds x: a ring or not, its records -/
noncomputable def partF (A B : List Nat) (x : Nat) : Bool × List Nat :=
  if gt B x ∈ (walkF A B x).tail then (true, walkF A B x)
  else (false, if gt ((walkF B A x).tail.reverse ++ walkF A B x) 0 > gt ((walkF B A x).tail.reverse ++ walkF A B x) (((walkF B A x).tail.reverse ++ walkF A B x).length - 1) then ((walkF B A x).tail.reverse ++ walkF A B x).reverse else (walkF B A x).tail.reverse ++ walkF A B x)
noncomputable def partsF (A B : List Nat) : Nat → List (Bool × List Nat)
  | 0 => []
  | i + 1 => if gt A i ≠ gt B i ∧ i ∉ (partsF A B i).flatMap (·.2) then partsF A B i ++ [partF A B i] else partsF A B i
end Pv

/-! pieces laid out: free, pair, chain, ring -/
namespace Pv
open Pm
/-- a word, the records, which sort of link comes first -/
abbrev Pc := Nat × List Nat × Nat
/-- whom the k-th record shows in the row r -/
def nb (r w n s k : Nat) : Nat :=
  if w = 0 then k
  else if w = 1 then 1 - k
  else if (s + k) % 2 = r then (if k + 1 < n then k + 1 else if w = 3 then 0 else k)
  else (if 0 < k then k - 1 else if w = 3 then n - 1 else k)
structure PcOk (p : Pc) : Prop where
  w : p.1 < 4
  s : p.2.2 < 2
  nd : p.2.1.Nodup
  l0 : p.1 = 0 → p.2.1.length = 1
  l1 : p.1 = 1 → p.2.1.length = 2
  l2 : p.1 = 2 → 2 ≤ p.2.1.length
  l3 : p.1 = 3 → 4 ≤ p.2.1.length ∧ p.2.1.length % 2 = 0
def PcAt (A : List Nat) (r : Nat) (p : Pc) : Prop := ∀ k, k < p.2.1.length → gt A (gt p.2.1 k) = gt p.2.1 (nb r p.1 p.2.1.length p.2.2 k)
theorem PcOk.pos {p : Pc} (h : PcOk p) : 0 < p.2.1.length := by
  have h0 := h.l0
  have h1 := h.l1
  have h2 := h.l2
  have h3 := h.l3
  have hw := h.w
  omega
theorem nb_lt {p : Pc} (h : PcOk p) {r k : Nat} (hk : k < p.2.1.length) : nb r p.1 p.2.1.length p.2.2 k < p.2.1.length := by
  have h0 := h.l0
  have h1 := h.l1
  have h2 := h.l2
  have h3 := h.l3
  unfold nb
  split
  · exact hk
  · split
    · omega
    · split
      · split
        · omega
        · split <;> omega
      · split
        · omega
        · split <;> omega
theorem gt_drop {l : List Nat} {q j : Nat} : gt (l.drop q) j = gt l (q + j) := by
  unfold gt
  rw [List.getD_eq_getElem?_getD, List.getElem?_drop, List.getD_eq_getElem?_getD]
theorem gt_take {l : List Nat} {q j : Nat} (h : j < q) : gt (l.take q) j = gt l j := by
  unfold gt
  rw [List.getD_eq_getElem?_getD, List.getElem?_take_of_lt h, List.getD_eq_getElem?_getD]
theorem gt_app {l m : List Nat} {j : Nat} : gt (l ++ m) j = if j < l.length then gt l j else gt m (j - l.length) := by
  unfold gt
  rw [List.getD_eq_getElem?_getD, List.getElem?_append]
  split
  · rw [List.getD_eq_getElem?_getD]
  · rw [List.getD_eq_getElem?_getD]
theorem gt_rev {l : List Nat} {j : Nat} (h : j < l.length) : gt l.reverse j = gt l (l.length - 1 - j) := by
  unfold gt
  rw [List.getD_eq_getElem?_getD, List.getElem?_reverse h, List.getD_eq_getElem?_getD]
/-- a walk told by places -/
theorem trl_of {A B : List Nat} {p : Pc} {r q m : Nat} {ix : Nat → Nat} {W : List Nat} (ok : PcOk p) (hr : r < 2) (a : PcAt A r p) (b : PcAt B (1 - r) p) (lt : ∀ x ∈ p.2.1, x < A.length) (hm : 0 < m) (hl : W.length = m) (h0 : ix 0 = q)
    (hi : ∀ j, j < m → ix j < p.2.1.length) (inj : ∀ i j, i < m → j < m → ix i = ix j → i = j) (hW : ∀ j, j < m → gt W j = gt p.2.1 (ix j)) (go : ∀ j, j + 1 < m → nb ((r + j) % 2) p.1 p.2.1.length p.2.2 (ix j) = ix (j + 1))
    (fin : nb ((r + (m - 1)) % 2) p.1 p.2.1.length p.2.2 (ix (m - 1)) = ix (m - 1) ∨ nb ((r + (m - 1)) % 2) p.1 p.2.1.length p.2.2 (ix (m - 1)) = q) : Trl A B (gt p.2.1 q) W := by
  have row : ∀ j k, k < p.2.1.length → gt (sel A B j) (gt p.2.1 k) = gt p.2.1 (nb ((r + j) % 2) p.1 p.2.1.length p.2.2 k) := fun j k hk => by
    unfold sel
    by_cases c : j % 2 = 0
    · rw [if_pos c, show (r + j) % 2 = r by omega]
      exact a k hk
    · rw [if_neg c, show (r + j) % 2 = 1 - r by omega]
      exact b k hk
  refine ⟨⟨by omega, by rw [hW 0 hm, h0], ?_, fun x hx => ?_, fun j hj => ?_⟩, ?_⟩
  · rw [List.nodup_iff_pairwise_ne, List.pairwise_iff_getElem]
    intro i j hi' hj' hij e
    have ei : W[i] = gt W i := by
      unfold gt
      rw [List.getD_eq_getElem?_getD, List.getElem?_eq_getElem hi']
      rfl
    have ej : W[j] = gt W j := by
      unfold gt
      rw [List.getD_eq_getElem?_getD, List.getElem?_eq_getElem hj']
      rfl
    rw [ei, ej, hW i (by omega), hW j (by omega)] at e
    have := inj i j (by omega) (by omega) (gt_inj ok.nd (hi i (by omega)) (hi j (by omega)) e)
    omega
  · obtain ⟨j, hj, hx⟩ := mem_getD hx
    have hx : gt W j = x := hx
    rw [← hx, hW j (by omega)]
    exact lt _ (gt_mem (hi j (by omega)))
  · rw [hl] at hj
    rw [hW j (by omega), row j _ (hi j (by omega)), go j hj, hW (j + 1) hj]
  · rw [hl, hW (m - 1) (by omega), row _ _ (hi _ (by omega))]
    rcases fin with f | f
    · left
      rw [f]
    · right
      rw [f]
section
variable {A B : List Nat} {p : Pc} {r q : Nat}
theorem trl_up2 (ok : PcOk p) (hw : p.1 = 2) (hr : r < 2) (a : PcAt A r p) (b : PcAt B (1 - r) p) (lt : ∀ x ∈ p.2.1, x < A.length) (hq : q < p.2.1.length) (par : (p.2.2 + q) % 2 = r) : Trl A B (gt p.2.1 q) (p.2.1.drop q) := by
  refine trl_of (m := p.2.1.length - q) (ix := fun j => q + j) ok hr a b lt (by omega) (by rw [List.length_drop]) rfl (fun j hj => by show q + j < _; omega) (fun i j _ _ e => by have e : q + i = q + j := e; omega) (fun j _ => gt_drop) (fun j hj => ?_) (.inl ?_)
  · show nb _ _ _ _ (q + j) = q + (j + 1)
    unfold nb
    rw [if_neg (by omega), if_neg (by omega), if_pos (by omega), if_pos (by omega)]
    rfl
  · show nb _ _ _ _ (q + (p.2.1.length - q - 1)) = q + (p.2.1.length - q - 1)
    unfold nb
    rw [if_neg (by omega), if_neg (by omega), if_pos (by omega), if_neg (by omega), if_neg (by omega)]
theorem trl_dn2 (ok : PcOk p) (hw : p.1 = 2) (hr : r < 2) (a : PcAt A r p) (b : PcAt B (1 - r) p) (lt : ∀ x ∈ p.2.1, x < A.length) (hq : q < p.2.1.length) (par : (p.2.2 + q) % 2 ≠ r) : Trl A B (gt p.2.1 q) (p.2.1.take (q + 1)).reverse := by
  have tl : (p.2.1.take (q + 1)).length = q + 1 := by rw [List.length_take]; omega
  refine trl_of (m := q + 1) (ix := fun j => q - j) ok hr a b lt (by omega) (by rw [List.length_reverse, tl]) rfl (fun j hj => by show q - j < _; omega) (fun i j _ _ e => by have e : q - i = q - j := e; omega) (fun j hj => ?_) (fun j hj => ?_) (.inl ?_)
  · rw [gt_rev (by omega), tl, gt_take (by omega)]
    congr 1
  · show nb _ _ _ _ (q - j) = q - (j + 1)
    unfold nb
    rw [if_neg (by omega), if_neg (by omega), if_neg (by omega), if_pos (by omega)]
    omega
  · show nb _ _ _ _ (q - (q + 1 - 1)) = q - (q + 1 - 1)
    unfold nb
    rw [if_neg (by omega), if_neg (by omega), if_neg (by omega), if_neg (by omega), if_neg (by omega)]
theorem trl_up3 (ok : PcOk p) (hw : p.1 = 3) (hr : r < 2) (a : PcAt A r p) (b : PcAt B (1 - r) p) (lt : ∀ x ∈ p.2.1, x < A.length) (hq : q < p.2.1.length) (par : (p.2.2 + q) % 2 = r) : Trl A B (gt p.2.1 q) (p.2.1.drop q ++ p.2.1.take q) := by
  obtain ⟨n4, n2⟩ := ok.l3 hw
  have tl : (p.2.1.take q).length = q := by rw [List.length_take]; omega
  refine trl_of (m := p.2.1.length) (ix := fun j => if q + j < p.2.1.length then q + j else q + j - p.2.1.length) ok hr a b lt (by omega) (by rw [List.length_append, List.length_drop, tl]; omega) (by show (if q + 0 < _ then q + 0 else _) = q; rw [if_pos (by omega)]; rfl) (fun j hj => ?_) (fun i j hi hj e => ?_) (fun j hj => ?_) (fun j hj => ?_) (.inr ?_)
  · show (if q + j < p.2.1.length then q + j else q + j - p.2.1.length) < _
    split <;> omega
  · have e : (if q + i < p.2.1.length then q + i else q + i - p.2.1.length) = (if q + j < p.2.1.length then q + j else q + j - p.2.1.length) := e
    split at e <;> split at e <;> omega
  · show _ = gt p.2.1 (if q + j < p.2.1.length then q + j else q + j - p.2.1.length)
    rw [gt_app, List.length_drop]
    by_cases c : q + j < p.2.1.length
    · rw [if_pos (by omega), if_pos c, gt_drop]
    · rw [if_neg (by omega), if_neg c, gt_take (by omega)]
      congr 1
      omega
  · show nb _ _ _ _ (if q + j < p.2.1.length then q + j else q + j - p.2.1.length) = (if q + (j + 1) < p.2.1.length then q + (j + 1) else q + (j + 1) - p.2.1.length)
    unfold nb
    rw [if_neg (by omega), if_neg (by omega)]
    by_cases c : q + j < p.2.1.length
    · rw [if_pos c, if_pos (by omega)]
      by_cases c2 : q + j + 1 < p.2.1.length
      · rw [if_pos c2, if_pos (by omega)]
        omega
      · rw [if_neg c2, if_pos hw, if_neg (by omega)]
        omega
    · rw [if_neg c, if_pos (by omega), if_pos (by omega), if_neg (by omega)]
      omega
  · show nb _ _ _ _ (if q + (p.2.1.length - 1) < p.2.1.length then q + (p.2.1.length - 1) else q + (p.2.1.length - 1) - p.2.1.length) = q
    unfold nb
    rw [if_neg (by omega), if_neg (by omega)]
    by_cases c : q + (p.2.1.length - 1) < p.2.1.length
    · rw [if_pos c, if_pos (by omega), if_neg (by omega), if_pos hw]
      omega
    · rw [if_neg c, if_pos (by omega), if_pos (by omega)]
      omega
theorem trl_dn3 (ok : PcOk p) (hw : p.1 = 3) (hr : r < 2) (a : PcAt A r p) (b : PcAt B (1 - r) p) (lt : ∀ x ∈ p.2.1, x < A.length) (hq : q < p.2.1.length) (par : (p.2.2 + q) % 2 ≠ r) : Trl A B (gt p.2.1 q) ((p.2.1.take (q + 1)).reverse ++ (p.2.1.drop (q + 1)).reverse) := by
  obtain ⟨n4, n2⟩ := ok.l3 hw
  have tl : (p.2.1.take (q + 1)).length = q + 1 := by rw [List.length_take]; omega
  have dl : (p.2.1.drop (q + 1)).length = p.2.1.length - (q + 1) := by rw [List.length_drop]
  refine trl_of (m := p.2.1.length) (ix := fun j => if j ≤ q then q - j else q + p.2.1.length - j) ok hr a b lt (by omega) (by rw [List.length_append, List.length_reverse, List.length_reverse, tl, dl]; omega) (by show (if 0 ≤ q then q - 0 else _) = q; rw [if_pos (by omega)]; rfl) (fun j hj => ?_) (fun i j hi hj e => ?_) (fun j hj => ?_) (fun j hj => ?_) (.inr ?_)
  · show (if j ≤ q then q - j else q + p.2.1.length - j) < _
    split <;> omega
  · have e : (if i ≤ q then q - i else q + p.2.1.length - i) = (if j ≤ q then q - j else q + p.2.1.length - j) := e
    split at e <;> split at e <;> omega
  · show _ = gt p.2.1 (if j ≤ q then q - j else q + p.2.1.length - j)
    rw [gt_app, List.length_reverse, tl]
    by_cases c : j ≤ q
    · rw [if_pos (by omega), if_pos c, gt_rev (by omega), tl, gt_take (by omega)]
      congr 1
    · rw [if_neg (by omega), if_neg c, gt_rev (by omega), dl, gt_drop]
      congr 1
      omega
  · show nb _ _ _ _ (if j ≤ q then q - j else q + p.2.1.length - j) = (if j + 1 ≤ q then q - (j + 1) else q + p.2.1.length - (j + 1))
    unfold nb
    rw [if_neg (by omega), if_neg (by omega)]
    by_cases c : j ≤ q
    · rw [if_pos c, if_neg (by omega)]
      by_cases c2 : j = q
      · rw [if_neg (by omega), if_pos hw, if_neg (by omega)]
        omega
      · rw [if_pos (by omega), if_pos (by omega)]
        omega
    · rw [if_neg c, if_neg (by omega), if_pos (by omega), if_neg (by omega)]
      omega
  · show nb _ _ _ _ (if p.2.1.length - 1 ≤ q then q - (p.2.1.length - 1) else q + p.2.1.length - (p.2.1.length - 1)) = q
    unfold nb
    rw [if_neg (by omega), if_neg (by omega)]
    by_cases c : p.2.1.length - 1 ≤ q
    · rw [if_pos c, if_neg (by omega), if_neg (by omega), if_pos hw]
      omega
    · rw [if_neg c, if_neg (by omega), if_pos (by omega)]
      omega
end
end Pv

/-! the parts of pieces laid out -/
namespace Pv
open Pm
/-- how a chain or a ring is written -/
def canonP (A : List Nat) (p : Pc) : List Nat :=
  if p.1 = 2 then (if gt p.2.1 (p.2.1.length - 1) < gt p.2.1 0 then p.2.1.reverse else p.2.1)
  else if gt A (gt (p.2.1.drop (p.2.1.idxOf (mn p.2.1)) ++ p.2.1.take (p.2.1.idxOf (mn p.2.1))) 0) ≠ gt (p.2.1.drop (p.2.1.idxOf (mn p.2.1)) ++ p.2.1.take (p.2.1.idxOf (mn p.2.1))) 1
    then (p.2.1.drop (p.2.1.idxOf (mn p.2.1)) ++ p.2.1.take (p.2.1.idxOf (mn p.2.1))).take 1 ++ (p.2.1.drop (p.2.1.idxOf (mn p.2.1)) ++ p.2.1.take (p.2.1.idxOf (mn p.2.1))).tail.reverse
    else p.2.1.drop (p.2.1.idxOf (mn p.2.1)) ++ p.2.1.take (p.2.1.idxOf (mn p.2.1))
theorem take_succ' {l : List Nat} {q : Nat} (h : q < l.length) : l.take (q + 1) = l.take q ++ [gt l q] := by
  unfold gt
  rw [List.take_add_one, List.getElem?_eq_getElem h, List.getD_eq_getElem?_getD, List.getElem?_eq_getElem h]
  rfl
theorem drop_cons' {l : List Nat} {q : Nat} (h : q < l.length) : l.drop q = gt l q :: l.drop (q + 1) := by
  unfold gt
  rw [List.drop_eq_getElem_cons h, List.getD_eq_getElem?_getD, List.getElem?_eq_getElem h]
  rfl
theorem rev_take {l : List Nat} {q : Nat} (h : q < l.length) : (l.take (q + 1)).reverse = gt l q :: (l.take q).reverse := by
  rw [take_succ' h, List.reverse_append]
  rfl
section
variable {A B : List Nat} {p : Pc} {r q : Nat}
theorem gt_lt' (l : List Nat) {x : Nat} : (¬ gt l 0 > gt l (l.length - 1)) = ¬ gt l (l.length - 1) < gt l 0 := rfl
theorem idx_gt {l : List Nat} {x : Nat} (h : x ∈ l) : l.idxOf x < l.length ∧ gt l (l.idxOf x) = x := by
  have hl := List.idxOf_lt_length_of_mem h
  refine ⟨hl, ?_⟩
  unfold gt
  rw [List.getD_eq_getElem?_getD, List.getElem?_eq_getElem hl]
  exact List.getElem_idxOf hl
/-- a chain from its lesser end: the same from both ends -/
def lessE (l : List Nat) : List Nat := if gt l 0 > gt l (l.length - 1) then l.reverse else l
theorem lessE_rev {l : List Nat} (nd : l.Nodup) (h2 : 2 ≤ l.length) : lessE l.reverse = lessE l := by
  have hl : l.reverse.length = l.length := List.length_reverse
  unfold lessE
  rw [hl, gt_rev (by omega), gt_rev (by omega), show l.length - 1 - 0 = l.length - 1 by omega, show l.length - 1 - (l.length - 1) = 0 by omega, List.reverse_reverse]
  have ne : gt l 0 ≠ gt l (l.length - 1) := fun e => by
    have := gt_inj nd (by omega) (by omega) e
    omega
  by_cases c : gt l (l.length - 1) > gt l 0
  · rw [if_pos c, if_neg (by omega)]
  · rw [if_neg c, if_pos (by omega)]
theorem part_chain (ok : PcOk p) (hw : p.1 = 2) (hr : r < 2) (a : PcAt A r p) (b : PcAt B (1 - r) p) (hl : A.length = B.length) (lt : ∀ x ∈ p.2.1, x < A.length) (hq : q < p.2.1.length) : partF A B (gt p.2.1 q) = (false, lessE p.2.1) := by
  have n2 := ok.l2 hw
  have b' : PcAt A (1 - (1 - r)) p := by rw [show 1 - (1 - r) = r by omega]; exact a
  have lt' : ∀ x ∈ p.2.1, x < B.length := fun x hx => by rw [← hl]; exact lt x hx
  have other : gt B (gt p.2.1 q) = gt p.2.1 (nb (1 - r) p.1 p.2.1.length p.2.2 q) := b q hq
  have pars := ok.s
  by_cases c : (p.2.2 + q) % 2 = r
  · have w1 := walkF_eq (trl_up2 ok hw hr a b lt hq c)
    have w2 := walkF_eq (trl_dn2 ok hw (by omega) b b' lt' hq (by omega))
    have no : gt B (gt p.2.1 q) ∉ (p.2.1.drop q).tail := by
      rw [List.tail_drop, other]
      intro h
      obtain ⟨j, hj, e⟩ := mem_getD h
      rw [List.length_drop] at hj
      have e : gt (p.2.1.drop (q + 1)) j = _ := e
      rw [gt_drop] at e
      have e := gt_inj ok.nd (by omega) (nb_lt ok hq) e
      unfold nb at e
      rw [if_neg (by omega), if_neg (by omega), if_neg (by omega)] at e
      split at e
      · omega
      · rw [if_neg (by omega)] at e
        omega
    have row : (p.2.1.take (q + 1)).reverse.tail.reverse ++ p.2.1.drop q = p.2.1 := by
      rw [rev_take hq]
      show (p.2.1.take q).reverse.reverse ++ _ = _
      rw [List.reverse_reverse, List.take_append_drop]
    unfold partF
    rw [w1, w2, if_neg no, row]
    rfl
  · have w1 := walkF_eq (trl_dn2 ok hw hr a b lt hq c)
    have w2 := walkF_eq (trl_up2 ok hw (by omega) b b' lt' hq (by omega))
    have no : gt B (gt p.2.1 q) ∉ (p.2.1.take (q + 1)).reverse.tail := by
      rw [rev_take hq, other]
      show _ ∉ (p.2.1.take q).reverse
      rw [List.mem_reverse]
      intro h
      obtain ⟨j, hj, e⟩ := mem_getD h
      rw [List.length_take] at hj
      have e : gt (p.2.1.take q) j = _ := e
      rw [gt_take (by omega)] at e
      have e := gt_inj ok.nd (by omega) (nb_lt ok hq) e
      unfold nb at e
      rw [if_neg (by omega), if_neg (by omega), if_pos (by omega)] at e
      split at e
      · omega
      · rw [if_neg (by omega)] at e
        omega
    have row : (p.2.1.drop q).tail.reverse ++ (p.2.1.take (q + 1)).reverse = p.2.1.reverse := by
      rw [List.tail_drop, ← List.reverse_append, List.take_append_drop]
    unfold partF
    rw [w1, w2, if_neg no, row]
    exact congrArg (Prod.mk false) (lessE_rev ok.nd n2)
theorem part_ring (ok : PcOk p) (hw : p.1 = 3) (hr : r < 2) (a : PcAt A r p) (b : PcAt B (1 - r) p) (hl : A.length = B.length) (lt : ∀ x ∈ p.2.1, x < A.length) : partF A B (mn p.2.1) = (true, canonP A p) := by
  obtain ⟨n4, n2⟩ := ok.l3 hw
  have hm : mn p.2.1 ∈ p.2.1 := mn_mem (fun z => by rw [z] at n4; simp at n4)
  obtain ⟨hq, eq⟩ := idx_gt hm
  have pars := ok.s
  unfold canonP
  rw [if_neg (by omega)]
  generalize p.2.1.idxOf (mn p.2.1) = q at hq eq ⊢
  rw [← eq]
  have other : gt B (gt p.2.1 q) = gt p.2.1 (nb (1 - r) p.1 p.2.1.length p.2.2 q) := b q hq
  have mine : gt A (gt p.2.1 q) = gt p.2.1 (nb r p.1 p.2.1.length p.2.2 q) := a q hq
  have tl : (p.2.1.take q).length = q := by rw [List.length_take]; omega
  have f0 : gt (p.2.1.drop q ++ p.2.1.take q) 0 = gt p.2.1 q := by
    rw [gt_app, List.length_drop, if_pos (by omega), gt_drop]
    rfl
  have f1 : gt (p.2.1.drop q ++ p.2.1.take q) 1 = gt p.2.1 (if q + 1 < p.2.1.length then q + 1 else 0) := by
    rw [gt_app, List.length_drop]
    by_cases c : q + 1 < p.2.1.length
    · rw [if_pos (by omega), if_pos c, gt_drop]
    · rw [if_neg (by omega), if_neg c, gt_take (by omega)]
      congr 1
      omega
  have mem_at : ∀ k, k < p.2.1.length → k ≠ q → gt p.2.1 k ∈ p.2.1.drop (q + 1) ++ p.2.1.take q := fun k hk hn => by
    rw [List.mem_append]
    by_cases c : k < q
    · right
      have : gt (p.2.1.take q) k = gt p.2.1 k := gt_take c
      rw [← this]
      exact gt_mem (by omega)
    · left
      have : gt (p.2.1.drop (q + 1)) (k - (q + 1)) = gt p.2.1 k := by
        rw [gt_drop]
        congr 1
        omega
      rw [← this]
      exact gt_mem (by rw [List.length_drop]; omega)
  have nbne : ∀ r', nb r' p.1 p.2.1.length p.2.2 q ≠ q := fun r' => by
    unfold nb
    rw [if_neg (by omega), if_neg (by omega)]
    split
    · split
      · omega
      · omega
    · split
      · omega
      · omega
  by_cases c : (p.2.2 + q) % 2 = r
  · have w1 := walkF_eq (trl_up3 ok hw hr a b lt hq c)
    have e1 : gt A (gt p.2.1 q) = gt p.2.1 (if q + 1 < p.2.1.length then q + 1 else 0) := by
      rw [mine]
      unfold nb
      rw [if_neg (by omega), if_neg (by omega), if_pos c]
      split <;> rfl
    rw [f0, f1, if_neg (fun h => h e1)]
    unfold partF
    rw [w1, if_pos]
    rw [drop_cons' hq]
    show _ ∈ p.2.1.drop (q + 1) ++ p.2.1.take q
    rw [other]
    exact mem_at _ (nb_lt ok hq) (nbne _)
  · have w1 := walkF_eq (trl_dn3 ok hw hr a b lt hq c)
    have e1 : gt A (gt p.2.1 q) ≠ gt p.2.1 (if q + 1 < p.2.1.length then q + 1 else 0) := by
      rw [mine]
      intro e
      have e := gt_inj ok.nd (nb_lt ok hq) (by split <;> omega) e
      unfold nb at e
      rw [if_neg (by omega), if_neg (by omega), if_neg c] at e
      split at e
      · split at e <;> omega
      · split at e <;> omega
    rw [f0, f1, if_pos e1]
    unfold partF
    rw [w1, rev_take hq, if_pos]
    · rw [drop_cons' hq]
      show _ = (true, [gt p.2.1 q] ++ (p.2.1.drop (q + 1) ++ p.2.1.take q).reverse)
      rw [List.reverse_append]
      rfl
    · show _ ∈ (p.2.1.take q).reverse ++ (p.2.1.drop (q + 1)).reverse
      rw [← List.reverse_append, List.mem_reverse, other]
      exact mem_at _ (nb_lt ok hq) (nbne _)
end
end Pv

/-! the parts of two states put together of pieces; gains and entries -/
namespace Pv
open Pm
theorem uniqF {α : Type} {f : α → List Nat} : ∀ {ps : List α} {p q : α} {x : Nat}, (ps.flatMap f).Nodup → p ∈ ps → q ∈ ps → x ∈ f p → x ∈ f q → p = q
  | [], p, q, x, _, hp, _, _, _ => by cases hp
  | a :: ps, p, q, x, nd, hp, hq, xp, xq => by
    rw [List.flatMap_cons, List.nodup_append] at nd
    rcases List.mem_cons.mp hp with e1 | m1
    · rcases List.mem_cons.mp hq with e2 | m2
      · rw [e1, e2]
      · rw [e1] at xp
        exact absurd rfl (nd.2.2 x xp x (List.mem_flatMap.mpr ⟨q, m2, xq⟩))
    · rcases List.mem_cons.mp hq with e2 | m2
      · rw [e2] at xq
        exact absurd rfl (nd.2.2 x xq x (List.mem_flatMap.mpr ⟨p, m1, xp⟩))
      · exact uniqF nd.2.1 m1 m2 xp xq
theorem nb_cr {r w n s k : Nat} (h : 1 < w) : nb r w n s k = if (s + k) % 2 = r then (if k + 1 < n then k + 1 else if w = 3 then 0 else k) else (if 0 < k then k - 1 else if w = 3 then n - 1 else k) := by
  unfold nb
  rw [if_neg (by omega), if_neg (by omega)]
structure Bl (A B : List Nat) (f : Nat) (ps : List Pc) (n : Nat) : Prop where
  la : A.length = n
  lb : B.length = n
  hf : f < 2
  perm : (ps.flatMap (·.2.1)).Perm (List.range n)
  ok : ∀ p ∈ ps, PcOk p
  at_ : ∀ p ∈ ps, PcAt A f p ∧ PcAt B (1 - f) p
theorem Bl.swap {A B : List Nat} {f n : Nat} {ps : List Pc} (b : Bl A B f ps n) : Bl B A (1 - f) ps n :=
  ⟨b.lb, b.la, by omega, b.perm, b.ok, fun p hp => ⟨(b.at_ p hp).2, by rw [show 1 - (1 - f) = f by have := b.hf; omega]; exact (b.at_ p hp).1⟩⟩
def isCR (p : Pc) : Bool := decide (1 < p.1)
def atJ (ps : List Pc) (x : Nat) : Option Pc := ps.find? fun p => isCR p && decide (mn p.2.1 = x)
def psJ (ps : List Pc) (j : Nat) : List Pc := (List.range j).filterMap (atJ ps)
theorem psJ_step {ps : List Pc} {j : Nat} : psJ ps (j + 1) = psJ ps j ++ (match atJ ps j with | none => [] | some b => [b]) := by
  unfold psJ
  rw [List.range_succ, List.filterMap_append]
  congr 1
  rw [List.filterMap_cons, List.filterMap_nil]
  cases atJ ps j <;> rfl
def outP (A : List Nat) (p : Pc) : Bool × List Nat := (decide (p.1 = 3), canonP A p)
theorem canonP_perm {A : List Nat} {p : Pc} : (canonP A p).Perm p.2.1 := by
  have ring : (p.2.1.drop (p.2.1.idxOf (mn p.2.1)) ++ p.2.1.take (p.2.1.idxOf (mn p.2.1))).Perm p.2.1 := by
    refine List.perm_append_comm.trans ?_
    rw [List.take_append_drop]
  unfold canonP
  split
  · split
    · exact List.reverse_perm _
    · exact .refl _
  · split
    · refine List.Perm.trans ?_ ring
      generalize p.2.1.drop (p.2.1.idxOf (mn p.2.1)) ++ p.2.1.take (p.2.1.idxOf (mn p.2.1)) = l
      cases l with
      | nil => exact .refl _
      | cons a l => exact (List.reverse_perm l).cons a
    · exact ring
section
variable {A B : List Nat} {f n : Nat} {ps : List Pc}
theorem Bl.nd (b : Bl A B f ps n) : (ps.flatMap (·.2.1)).Nodup := b.perm.nodup_iff.mpr List.nodup_range
theorem Bl.lt (b : Bl A B f ps n) {p : Pc} (hp : p ∈ ps) : ∀ x ∈ p.2.1, x < n := fun x hx => List.mem_range.mp (b.perm.mem_iff.mp (List.mem_flatMap.mpr ⟨p, hp, hx⟩))
theorem Bl.own (b : Bl A B f ps n) {x : Nat} (hx : x < n) : ∃ p ∈ ps, x ∈ p.2.1 := List.mem_flatMap.mp (b.perm.mem_iff.mpr (List.mem_range.mpr hx))
theorem Bl.uq (b : Bl A B f ps n) {p q : Pc} {x : Nat} (hp : p ∈ ps) (hq : q ∈ ps) (h1 : x ∈ p.2.1) (h2 : x ∈ q.2.1) : p = q := uniqF b.nd hp hq h1 h2
theorem mn_in {p : Pc} (ok : PcOk p) : mn p.2.1 ∈ p.2.1 := mn_mem (fun z => by have := ok.pos; rw [z] at this; simp at this)
theorem atJ_some {x : Nat} {p : Pc} (h : atJ ps x = some p) : p ∈ ps ∧ 1 < p.1 ∧ mn p.2.1 = x := by
  unfold atJ at h
  have h1 := List.mem_of_find?_eq_some h
  have h2 := List.find?_some h
  rw [Bool.and_eq_true] at h2
  exact ⟨h1, of_decide_eq_true h2.1, of_decide_eq_true h2.2⟩
theorem Bl.atJ_is (b : Bl A B f ps n) {p : Pc} (hp : p ∈ ps) (h1 : 1 < p.1) : atJ ps (mn p.2.1) = some p := by
  cases h : atJ ps (mn p.2.1) with
  | none =>
    unfold atJ at h
    have := List.find?_eq_none.mp h p hp
    rw [show isCR p = true from decide_eq_true h1, decide_eq_true rfl] at this
    exact absurd rfl this
  | some q =>
    obtain ⟨hq, h2, h3⟩ := atJ_some h
    have e : q = p := b.uq hq hp (h3 ▸ mn_in (b.ok q hq)) (mn_in (b.ok p hp))
    rw [e]
theorem Bl.parts (b : Bl A B f ps n) : ∀ i, i ≤ n → partsF A B i = (psJ ps i).map (outP A)
  | 0, _ => rfl
  | i + 1, h => by
    have ih := b.parts i (by omega)
    have hi : i < n := h
    obtain ⟨p, hp, hx⟩ := b.own hi
    have ok := b.ok p hp
    obtain ⟨aA, aB⟩ := b.at_ p hp
    obtain ⟨q, hq, eq⟩ := mem_getD hx
    have eq : gt p.2.1 q = i := eq
    have hw4 := ok.w
    have hs := ok.s
    have hf := b.hf
    have seen : i ∈ (partsF A B i).flatMap (·.2) ↔ 1 < p.1 ∧ mn p.2.1 < i := by
      rw [ih, List.mem_flatMap]
      constructor
      · rintro ⟨c, hc, hic⟩
        obtain ⟨p', hp', rfl⟩ := List.mem_map.mp hc
        obtain ⟨x, hxr, hxs⟩ := List.mem_filterMap.mp hp'
        obtain ⟨m1, m2, m3⟩ := atJ_some hxs
        have hic : i ∈ p'.2.1 := canonP_perm.mem_iff.mp hic
        have := b.uq m1 hp hic hx
        subst this
        rw [m3]
        exact ⟨m2, List.mem_range.mp hxr⟩
      · rintro ⟨h1, h2⟩
        exact ⟨outP A p, List.mem_map.mpr ⟨p, List.mem_filterMap.mpr ⟨_, List.mem_range.mpr h2, b.atJ_is hp h1⟩, rfl⟩, canonP_perm.mem_iff.mpr hx⟩
    show (if gt A i ≠ gt B i ∧ i ∉ (partsF A B i).flatMap (·.2) then partsF A B i ++ [partF A B i] else partsF A B i) = _
    have eA : gt A i = gt p.2.1 (nb f p.1 p.2.1.length p.2.2 q) := by rw [← eq]; exact aA q hq
    have eB : gt B i = gt p.2.1 (nb (1 - f) p.1 p.2.1.length p.2.2 q) := by rw [← eq]; exact aB q hq
    rw [psJ_step]
    by_cases c1 : 1 < p.1
    · have differ : gt A i ≠ gt B i := by
        rw [eA, eB]
        intro e
        have e := gt_inj ok.nd (nb_lt ok hq) (nb_lt ok hq) e
        have l2 := ok.l2
        have l3 := ok.l3
        have np : nb f p.1 p.2.1.length p.2.2 q ≠ nb (1 - f) p.1 p.2.1.length p.2.2 q := by
          rw [nb_cr c1, nb_cr c1]
          by_cases par : (p.2.2 + q) % 2 = f
          · have p2 : ¬ (p.2.2 + q) % 2 = 1 - f := by omega
            rw [if_pos par, if_neg p2]
            by_cases c3 : p.1 = 3
            · obtain ⟨n4, n2⟩ := l3 c3
              rw [if_pos c3, if_pos c3]
              by_cases d1 : q + 1 < p.2.1.length
              · rw [if_pos d1]
                split <;> omega
              · rw [if_neg d1, if_pos (show 0 < q by omega)]
                omega
            · have := l2 (by omega)
              rw [if_neg c3, if_neg c3]
              by_cases d1 : q + 1 < p.2.1.length
              · rw [if_pos d1]
                split <;> omega
              · rw [if_neg d1, if_pos (show 0 < q by omega)]
                omega
          · have p2 : (p.2.2 + q) % 2 = 1 - f := by omega
            rw [if_neg par, if_pos p2]
            by_cases c3 : p.1 = 3
            · obtain ⟨n4, n2⟩ := l3 c3
              rw [if_pos c3, if_pos c3]
              by_cases d1 : q + 1 < p.2.1.length
              · rw [if_pos d1]
                split <;> omega
              · rw [if_neg d1, if_pos (show 0 < q by omega)]
                omega
            · have := l2 (by omega)
              rw [if_neg c3, if_neg c3]
              by_cases d1 : q + 1 < p.2.1.length
              · rw [if_pos d1]
                split <;> omega
              · rw [if_neg d1, if_pos (show 0 < q by omega)]
                omega
        exact np e
      by_cases cm : mn p.2.1 = i
      · have at_i : atJ ps i = some p := by rw [← cm]; exact b.atJ_is hp c1
        rw [at_i, if_pos ⟨differ, fun h => by have := (seen.mp h).2; omega⟩, ih, List.map_append]
        congr 1
        show [partF A B i] = [outP A p]
        congr 1
        have lA : ∀ x ∈ p.2.1, x < A.length := fun x hx => by rw [b.la]; exact b.lt hp x hx
        by_cases c3 : p.1 = 3
        · rw [← cm, part_ring ok c3 hf aA aB (b.la.trans b.lb.symm) lA]
          unfold outP
          rw [decide_eq_true c3]
        · rw [← eq, part_chain ok (by omega) hf aA aB (b.la.trans b.lb.symm) lA hq]
          unfold outP canonP
          rw [decide_eq_false c3, if_pos (by omega)]
          rfl
      · have lt_i : mn p.2.1 < i := by
          have := mn_le hx
          omega
        have at_i : atJ ps i = none := by
          cases h : atJ ps i with
          | none => rfl
          | some p' =>
            obtain ⟨m1, m2, m3⟩ := atJ_some h
            have := b.uq m1 hp (m3 ▸ mn_in (b.ok p' m1)) hx
            subst this
            exact absurd m3 cm
        rw [at_i, if_neg (fun h => h.2 (seen.mpr ⟨c1, lt_i⟩)), ih, List.append_nil]
    · have same : gt A i = gt B i := by
        rw [eA, eB]
        unfold nb
        by_cases c0 : p.1 = 0
        · rw [if_pos c0, if_pos c0]
        · rw [if_neg c0, if_neg c0, if_pos (by omega), if_pos (by omega)]
      have at_i : atJ ps i = none := by
        cases h : atJ ps i with
        | none => rfl
        | some p' =>
          obtain ⟨m1, m2, m3⟩ := atJ_some h
          have := b.uq m1 hp (m3 ▸ mn_in (b.ok p' m1)) hx
          subst this
          exact absurd m2 c1
      rw [at_i, if_neg (fun h => h.1 same), ih, List.append_nil]
theorem Bl.psJ_perm (b : Bl A B f ps n) : (psJ ps n).Perm (ps.filter isCR) := by
  have nd1 : (psJ ps n).Nodup := by
    have srt : (psJ ps n).Pairwise fun p q => mn p.2.1 < mn q.2.1 := by
      unfold psJ
      rw [List.pairwise_filterMap]
      refine List.Pairwise.imp ?_ List.pairwise_lt_range
      intro x y hxy p hp q hq
      have h1 := (atJ_some hp).2.2
      have h2 := (atJ_some hq).2.2
      omega
    exact srt.imp fun {p q} h z => by rw [z] at h; exact Nat.lt_irrefl _ h
  have nd2 : ps.Nodup := by
    have g : ∀ qs : List Pc, (qs.flatMap (·.2.1)).Nodup → (∀ p ∈ qs, PcOk p) → qs.Nodup := fun qs => by
      induction qs with
      | nil => exact fun _ _ => List.nodup_nil
      | cons a qs ih =>
        intro nd ok
        rw [List.flatMap_cons, List.nodup_append] at nd
        refine List.nodup_cons.mpr ⟨fun h => ?_, ih nd.2.1 fun p hp => ok p (List.mem_cons_of_mem _ hp)⟩
        have m := mn_in (ok a (List.mem_cons_self ..))
        exact nd.2.2 _ m _ (List.mem_flatMap.mpr ⟨a, h, m⟩) rfl
    exact g ps b.nd b.ok
  refine (List.perm_ext_iff_of_nodup nd1 (nd2.sublist List.filter_sublist)).mpr fun p => ?_
  rw [List.mem_filter]
  constructor
  · intro h
    obtain ⟨x, _, hx⟩ := List.mem_filterMap.mp h
    obtain ⟨m1, m2, _⟩ := atJ_some hx
    exact ⟨m1, decide_eq_true m2⟩
  · rintro ⟨h1, h2⟩
    exact List.mem_filterMap.mpr ⟨mn p.2.1, List.mem_range.mpr (b.lt h1 _ (mn_in (b.ok p h1))), b.atJ_is h1 (of_decide_eq_true h2)⟩
end
/-! gains -/
def cntA (A l : List Nat) : Nat := (l.filter fun x => decide (gt A x ≠ x)).length
def gainF (A B l : List Nat) : Int := ((cntA B l : Int) - (cntA A l : Int)) / 2
def cntF (r w n s : Nat) : Nat := ((List.range n).filter fun k => decide (nb r w n s k ≠ k)).length
theorem gain_tab : ((List.range 65).all fun n => (List.range 2).all fun s => (List.range 2).all fun f => decide (n < 2) || (((cntF (1 - f) 2 n s : Int) - (cntF f 2 n s : Int)) / 2 == if n % 2 = 1 then 0 else if s = f then -1 else 1)) = true := by decide +kernel
theorem line_map {l : List Nat} : l = (List.range l.length).map (gt l) := by
  refine List.ext_getElem (by simp) fun j h1 h2 => ?_
  rw [List.getElem_map, List.getElem_range]
  unfold gt
  rw [List.getD_eq_getElem?_getD, List.getElem?_eq_getElem h1]
  rfl
theorem cnt_line {A : List Nat} {p : Pc} {r : Nat} (ok : PcOk p) (a : PcAt A r p) : cntA A p.2.1 = cntF r p.1 p.2.1.length p.2.2 := by
  unfold cntA cntF
  conv => lhs; rw [line_map (l := p.2.1)]
  rw [List.filter_map, List.length_map]
  congr 1
  refine List.filter_congr fun k hk => ?_
  have hk := List.mem_range.mp hk
  show decide (gt A (gt p.2.1 k) ≠ gt p.2.1 k) = _
  rw [a k hk]
  rw [Bool.eq_iff_iff, decide_eq_true_eq, decide_eq_true_eq]
  constructor
  · intro h e
    rw [e] at h
    exact h rfl
  · intro h e
    exact h (gt_inj ok.nd (nb_lt ok hk) hk e)
def dueG (f : Nat) (p : Pc) : Int := if p.1 = 3 then 0 else if p.2.1.length % 2 = 1 then 0 else if p.2.2 = f then -1 else 1
theorem cnt_perm {A l m : List Nat} (h : l.Perm m) : cntA A l = cntA A m := (h.filter _).length_eq
theorem gain_is {A B : List Nat} {p : Pc} {f : Nat} (ok : PcOk p) (hf : f < 2) (h1 : 1 < p.1) (h64 : p.2.1.length ≤ 64) (a : PcAt A f p) (b : PcAt B (1 - f) p) {l : List Nat} (hl : l.Perm p.2.1) : gainF A B l = dueG f p := by
  unfold gainF dueG
  rw [cnt_perm hl, cnt_perm hl, cnt_line ok a, cnt_line ok b]
  have hw := ok.w
  by_cases c3 : p.1 = 3
  · obtain ⟨n4, n2⟩ := ok.l3 c3
    rw [if_pos c3]
    have all : ∀ r, cntF r p.1 p.2.1.length p.2.2 = p.2.1.length := fun r => by
      unfold cntF
      rw [List.filter_eq_self.mpr, List.length_range]
      intro k hk
      have hk := List.mem_range.mp hk
      refine decide_eq_true ?_
      unfold nb
      rw [if_neg (by omega), if_neg (by omega)]
      split <;> split <;> omega
    rw [all, all, Int.sub_self]
    rfl
  · have n2 := ok.l2 (by omega)
    have hs := ok.s
    rw [if_neg c3, show p.1 = 2 by omega]
    have t := gain_tab
    rw [List.all_eq_true] at t
    have t := t p.2.1.length (List.mem_range.mpr (by omega))
    rw [List.all_eq_true] at t
    have t := t p.2.2 (List.mem_range.mpr hs)
    rw [List.all_eq_true] at t
    have t := t f (List.mem_range.mpr hf)
    rw [decide_eq_false (by omega), Bool.false_or] at t
    exact beq_iff_eq.mp t
/-! entries -/
abbrev Ent := Nat × Int × Int
def entO (A B : List Nat) (c : Bool × List Nat) : Ent := (if c.1 then 1 else 0, (c.2.length : Int), gainF A B c.2)
noncomputable def entsF (A B : List Nat) (n : Nat) : List Ent := (partsF A B n).map (entO A B)
def entD (f : Nat) (p : Pc) : Ent := (if p.1 = 3 then 1 else 0, (p.2.1.length : Int), dueG f p)
def entsD (f : Nat) (ps : List Pc) : List Ent := (ps.filter isCR).map (entD f)
theorem Bl.ents {A B : List Nat} {f n : Nat} {ps : List Pc} (b : Bl A B f ps n) (h64 : n ≤ 64) : (entsF A B n).Perm (entsD f ps) := by
  unfold entsF entsD
  rw [b.parts n (Nat.le_refl _), List.map_map]
  have e : (psJ ps n).map (entO A B ∘ outP A) = (psJ ps n).map (entD f) := by
    refine List.map_congr_left fun p hp => ?_
    obtain ⟨x, _, hx⟩ := List.mem_filterMap.mp hp
    obtain ⟨m1, m2, _⟩ := atJ_some hx
    have len : p.2.1.length ≤ 64 := Nat.le_trans (nodup_len (b.ok p m1).nd (b.lt m1)) h64
    obtain ⟨aA, aB⟩ := b.at_ p m1
    show entO A B (outP A p) = entD f p
    unfold entO entD outP
    show ((if decide (p.1 = 3) = true then 1 else 0 : Nat), ((canonP A p).length : Int), gainF A B (canonP A p)) = _
    rw [gain_is (b.ok p m1) b.hf m2 len aA aB canonP_perm, canonP_perm.length_eq]
    by_cases c3 : p.1 = 3
    · rw [decide_eq_true c3, if_pos rfl, if_pos c3]
    · rw [decide_eq_false c3, if_neg c3]
      rfl
  rw [e]
  exact b.psJ_perm.map _
end Pv

namespace Pv
open PySem L2 Evl Pm
def nI (xs : List Nat) : List V := xs.map fun x : Nat => V.int (x : Int)
def ListN (H : Hp) (p : Addr) (xs : List Nat) : Prop := H p = some (.lst (nI xs))
theorem nI_len (xs : List Nat) : (nI xs).length = xs.length := List.length_map ..
theorem ListN.sz {K : PySem.W.Frag} {H : Hp} {p : Addr} {xs : List Nat} (h : ListN H p xs) : SqL K H p (nI xs) := SqL.of h
theorem ListN.ex {H H1 : Hp} {a : Addr} {xs : List Nat} (e : Ex H H1) (h : ListN H a xs) : ListN H1 a xs := e a _ h
theorem nat_at {ns : List Nat} {i : Nat} {y : V} (h : (nI ns)[i]? = some y) : i < ns.length ∧ y = V.int ((ns.getD i 0 : Nat) : Int) := by
  unfold nI at h
  rw [List.getElem?_map] at h
  cases e : ns[i]? with
  | none =>
    rw [e] at h
    cases h
  | some z =>
    rw [e] at h
    refine ⟨(List.getElem?_eq_some_iff.mp e).1, ?_⟩
    rw [List.getD_eq_getElem?_getD, e]
    exact (Option.some.inj h).symm
theorem ixN_ {xs : List Nat} {j : Nat} (h : j < xs.length) : (nI xs)[j]? = some (V.int ((xs.getD j 0 : Nat) : Int)) := by
  unfold nI
  rw [List.getElem?_map, List.getD_eq_getElem?_getD, List.getElem?_eq_getElem h]
  rfl
theorem atN {xs : List Nat} {j : Nat} (h : j < xs.length) : atI (nI xs) (j : Int) = some (V.int ((xs.getD j 0 : Nat) : Int)) := atI_nat (ixN_ h)
theorem ex_new {H H1 : Hp} {p : Addr} {o : HO} (e : Ex H H1) (h : H1 p = none) : Ex H (upd H1 p o) := e.trans (Ex.new h)
theorem nI_app {xs : List Nat} {v : Nat} : nI (xs ++ [v]) = nI xs ++ [V.int (v : Int)] := by
  unfold nI
  rw [List.map_append]
  rfl
theorem acc_step {G H' : Hp} {D : Addr} {ls : List Nat} {v : Nat} (hD : G D = none) (e : Ex G H') : Ex G (upd H' D (.lst (nI ls ++ [V.int (v : Int)]))) ∧ ListN (upd H' D (.lst (nI ls ++ [V.int (v : Int)]))) D (ls ++ [v]) := by
  refine ⟨fun b o hb => ?_, ?_⟩
  · rw [upd_ne (ne_of_none hb hD)]
    exact e b o hb
  · show upd H' D _ D = _
    rw [upd_same, nI_app]
theorem take_map_succ {xs : List Nat} {j : Nat} (h : j < xs.length) (f : Nat → Nat) : (xs.take (j + 1)).map f = (xs.take j).map f ++ [f (xs.getD j 0)] := by
  rw [List.take_add_one, List.getElem?_eq_getElem h, List.map_append, List.getD_eq_getElem?_getD, List.getElem?_eq_getElem h]
  rfl
theorem take_succ {xs : List Nat} {j : Nat} (h : j < xs.length) : xs.take (j + 1) = xs.take j ++ [xs.getD j 0] := by
  rw [List.take_add_one, List.getElem?_eq_getElem h, List.getD_eq_getElem?_getD, List.getElem?_eq_getElem h]
  rfl
theorem take_filter_pos {xs : List Nat} {j : Nat} (h : j < xs.length) {q : Nat → Bool} (c : q (xs.getD j 0) = true) : (xs.take (j + 1)).filter q = (xs.take j).filter q ++ [xs.getD j 0] := by
  rw [take_succ h, List.filter_append, List.filter_cons, if_pos c]
  rfl
theorem take_filter_neg {xs : List Nat} {j : Nat} (h : j < xs.length) {q : Nat → Bool} (c : q (xs.getD j 0) = false) : (xs.take (j + 1)).filter q = (xs.take j).filter q := by
  rw [take_succ h, List.filter_append, List.filter_cons, if_neg (by rw [c]; decide)]
  exact List.append_nil _
theorem flat_nI : ∀ xs : List Nat, (nI xs).all flatV = true
  | [] => rfl
  | _ :: xs => flat_nI xs
theorem inV_nI {x : Nat} : ∀ xs : List Nat, inV (V.int (x : Int)) (nI xs) = xs.contains x
  | [] => rfl
  | y :: xs => by
    show (eqV (V.int (y : Int)) (V.int (x : Int)) || inV (V.int (x : Int)) (nI xs)) = _
    rw [inV_nI xs, List.contains_cons]
    congr 1
    show ((y : Int) == (x : Int)) = (x == y)
    rw [Bool.eq_iff_iff, beq_iff_eq, beq_iff_eq]
    omega
theorem eqV_nat {x y : Nat} : eqV (V.int (x : Int)) (V.int (y : Int)) = true ↔ x = y := by
  show ((x : Int) == (y : Int)) = true ↔ _
  rw [beq_iff_eq]
  omega
/-! ### images of any integers -/
def ListI' (H : Hp) (p : Addr) (xs : List Int) : Prop := H p = some (.lst (xs.map V.int))
def badN (xs : List Int) (k : Nat) : Bool := decide (xs.getD k 0 < 0) || decide ((xs.length : Int) ≤ xs.getD k 0)
def firstOf (p : Nat → Bool) (n : Nat) : Option Nat := (List.range n).find? p
theorem firstOf_some {p : Nat → Bool} {n i : Nat} (hi : i < n) (hp : p i = true) (h : ∀ j, j < i → p j = false) : firstOf p n = some i := by
  unfold firstOf
  rw [List.find?_range_eq_some]
  exact ⟨hp, List.mem_range.mpr hi, fun j hj => by rw [h j hj]; rfl⟩
theorem firstOf_none {p : Nat → Bool} {n : Nat} (h : ∀ j, j < n → p j = false) : firstOf p n = none := by
  unfold firstOf
  rw [List.find?_range_eq_none]
  exact fun j hj => by rw [h j hj]; rfl
theorem firstOf_no {p : Nat → Bool} {n : Nat} (h : firstOf p n = none) : ∀ j, j < n → p j = false := by
  unfold firstOf at h
  rw [List.find?_range_eq_none] at h
  intro j hj
  have := h j hj
  simpa using this
theorem firstOf_is {p : Nat → Bool} {n i : Nat} (h : firstOf p n = some i) : i < n ∧ p i = true ∧ ∀ j, j < i → p j = false := by
  unfold firstOf at h
  rw [List.find?_range_eq_some] at h
  exact ⟨List.mem_range.mp h.2.1, h.1, fun j hj => by have := h.2.2 j hj; simpa using this⟩
/-- the first entry that is no record -/
def strayI (xs : List Int) : Option Nat := firstOf (badN xs) xs.length
def spInit (C : Addr) (f : Str) : Sp := fun vs H Q _ => ∃ (a : Addr) (v : V), vs = [.ref a, v] ∧ H a = some (exo a C none) ∧ ∀ dx, H dx = none → dx ≠ a → Q .non (upd (upd H dx (exd dx [(f, v)])) a (exo a C (some dx)))
theorem mkO_go {C : Addr} {f : Str} {v : V} {H1 : Hp} {Q : XK} (k : ∀ d H', Ex H1 H' → H' d = some (.xd [(f, v)]) → Q (.ref C) (some d) H') (e : Addr) (he : H1 e = none) :
    spInit C f (.ref e :: ([v] ++ [])) (upd H1 e (exo e C none)) (fun v H2 => v = .non ∧ ∃ (d : Addr) (fs : List (Str × V)), H2 e = some (exo e C (some d)) ∧ H2 d = some (exd d fs) ∧ H1 d = none ∧ Q (.ref C) (some d) (upd (L2.del H2 e) d (.xd fs))) (fun _ _ _ => False) := by
  refine ⟨e, v, rfl, upd_same, fun dx hdx ne => ⟨rfl, dx, _, upd_same, (by rw [upd_ne ne, upd_same]), ?_, k dx _ ?_ upd_same⟩⟩
  · rw [upd_ne ne] at hdx
    exact hdx
  · rw [upd_ne ne] at hdx
    intro b o hb
    have n1 : b ≠ dx := ne_of_none hb hdx
    have n2 : b ≠ e := ne_of_none hb he
    rw [upd_ne n1, del_ne n2, upd_ne n2, upd_ne n1, upd_ne n2]
    exact hb
theorem units65R {k : Nat} {A : Around} (r : Room k A) : A.units + 65 < cLine := by have := r.un; omega
theorem huH {k : Nat} {A : Around} (r : L2H.RoomH k A) : A.units + 1 < cLine := by have := r.un; omega
theorem units65H {k : Nat} {A : Around} (r : L2H.RoomH k A) : A.units + 65 < cLine := by have := r.un; omega
theorem rd_ex {H H' : Hp} {a : Addr} {u : HO} (e : Ex H H') (h : Rd H a u) : Rd H' a u := h.elim (fun z => .inl (e _ _ z)) fun ⟨o, z⟩ => .inr ⟨o, e _ _ z⟩
theorem sqL_ex {K : PySem.W.Frag} {H H' : Hp} {a : Addr} {xs : List V} (e : Ex H H') (h : SqL K H a xs) : SqL K H' a xs := h.elim (fun z => .inl (rd_ex e z)) .inr
theorem back_none {H H1 : Hp} {p : Addr} (e : Ex H H1) (h : H1 p = none) : H p = none := by
  cases q : H p with
  | none => rfl
  | some o =>
    rw [e p o q] at h
    cases h

/-! ### integers and records -/
def natI (xs : List Int) : List Nat := xs.map Int.toNat
theorem natI_len {xs : List Int} : (natI xs).length = xs.length := List.length_map ..
theorem natI_at {xs : List Int} (h : strayI xs = none) {k : Nat} (hk : k < xs.length) : xs.getD k 0 = (((natI xs).getD k 0 : Nat) : Int) ∧ (natI xs).getD k 0 < xs.length := by
  have q := firstOf_no h k hk
  unfold badN at q
  rw [Bool.or_eq_false_iff] at q
  have q1 := of_decide_eq_false q.1
  have q2 := of_decide_eq_false q.2
  have e : (natI xs).getD k 0 = (xs.getD k 0).toNat := by
    unfold natI
    rw [List.getD_eq_getElem?_getD, List.getElem?_map, List.getD_eq_getElem?_getD, List.getElem?_eq_getElem hk]
    rfl
  rw [e]
  omega
theorem natI_map {xs : List Int} (h : strayI xs = none) : nI (natI xs) = xs.map V.int := by
  unfold nI natI
  rw [List.map_map]
  refine List.ext_getElem (by rw [List.length_map, List.length_map]) fun k h1 h2 => ?_
  rw [List.length_map] at h1
  rw [List.getElem_map, List.getElem_map]
  have := (natI_at h h1).1
  have e : (natI xs).getD k 0 = (xs.getD k 0).toNat := by
    unfold natI
    rw [List.getD_eq_getElem?_getD, List.getElem?_map, List.getD_eq_getElem?_getD, List.getElem?_eq_getElem h1]
    rfl
  rw [e, List.getD_eq_getElem?_getD, List.getElem?_eq_getElem h1] at this
  exact congrArg V.int this.symm
def toI (ys : List Nat) : List Int := ys.map fun x : Nat => (x : Int)
theorem toI_len {ys : List Nat} : (toI ys).length = ys.length := List.length_map ..
theorem toI_v {ys : List Nat} : (toI ys).map V.int = nI ys := by
  unfold toI nI
  rw [List.map_map]
  rfl
theorem toI_nat {ys : List Nat} : natI (toI ys) = ys := by
  unfold natI toI
  rw [List.map_map]
  exact (List.map_congr_left fun x _ => Int.toNat_natCast x).trans (List.map_id' ys)
theorem toI_at {ys : List Nat} {j : Nat} (h : j < ys.length) : (toI ys).getD j 0 = ((ys.getD j 0 : Nat) : Int) := by
  unfold toI
  rw [List.getD_eq_getElem?_getD, List.getElem?_map, List.getElem?_eq_getElem h, List.getD_eq_getElem?_getD, List.getElem?_eq_getElem h]
  rfl
theorem ListI.ex {H H1 : Hp} {a : Addr} {xs : List Int} (e : Ex H H1) (h : ListI H a xs) : ListI H1 a xs := e a _ h
theorem ListN.int {H : Hp} {a : Addr} {ys : List Nat} (h : ListN H a ys) : ListI H a (toI ys) := by
  show H a = _
  rw [toI_v]
  exact h
theorem ListI.nat {H : Hp} {a : Addr} {xs : List Int} (h : ListI H a xs) (s : strayI xs = none) : ListN H a (natI xs) := by
  show H a = _
  rw [natI_map s]
  exact h
/-- the first record that is not named by the one that it names -/
def unset (ys : List Nat) : Option Nat := firstOf (fun x => decide (gt ys (gt ys x) ≠ x)) ys.length
def faultS (xs : List Int) : Option (Nat × Nat) := match strayI xs with
  | some k => some (1, k)
  | none => (unset (natI xs)).map fun k => (2, k)
def faultF (xs zs : List Int) : Option (Nat × Nat) := match faultS xs with
  | some f => some f
  | none => match faultS zs with
    | some f => some f
    | none => if xs.length ≠ zs.length then some (3, 0) else none
theorem faultS_no {xs : List Int} (h : faultS xs = none) : strayI xs = none ∧ Sta (natI xs) := by
  unfold faultS at h
  cases s : strayI xs with
  | some k => rw [s] at h; cases h
  | none =>
    rw [s] at h
    have u : unset (natI xs) = none := Option.map_eq_none_iff.mp h
    refine ⟨rfl, fun x hx => ?_, fun x hx => ?_⟩
    · rw [natI_len] at hx ⊢
      exact (natI_at s hx).2
    · have := of_decide_eq_false (firstOf_no u x hx)
      exact Decidable.not_not.mp this
theorem faultF_no {xs zs : List Int} (h : faultF xs zs = none) : faultS xs = none ∧ faultS zs = none ∧ xs.length = zs.length := by
  unfold faultF at h
  cases s : faultS xs with
  | some f => rw [s] at h; cases h
  | none =>
    rw [s] at h
    cases t : faultS zs with
    | some f => simp only [t] at h; cases h
    | none =>
      simp only [t] at h
      by_cases c : xs.length = zs.length
      · exact ⟨rfl, rfl, c⟩
      · rw [if_pos c] at h
        cases h
theorem sta_fault {ys : List Nat} (s : Sta ys) : strayI (toI ys) = none ∧ faultS (toI ys) = none := by
  have a : strayI (toI ys) = none := by
    refine firstOf_none fun j hj => ?_
    rw [toI_len] at hj
    unfold badN
    rw [toI_at hj, toI_len, decide_eq_false (by omega), decide_eq_false (by have := s.lt j hj; unfold gt at this; omega)]
    rfl
  refine ⟨a, ?_⟩
  unfold faultS
  rw [a]
  show (unset (natI (toI ys))).map _ = none
  rw [toI_nat]
  have : unset ys = none := firstOf_none fun j hj => by
    show decide _ = false
    rw [decide_eq_false]
    exact fun h => h (s.inv j hj)
  rw [this]
  rfl
/-! ### what raises -/
def RzI (A : Ad) (k : Nat) (H : Hp) (E : XK) : Prop := ∀ d H', Ex H H' → H' d = some (.xd [("record", .int (k : Int))]) → E (.ref A.InvalidImage) (some d) H'
def RzS (A : Ad) (k : Nat) (H : Hp) (E : XK) : Prop := ∀ d H', Ex H H' → H' d = some (.xd [("record", .int (k : Int))]) → E (.ref A.NotState) (some d) H'
def RzU (A : Ad) (H : Hp) (E : XK) : Prop := ∀ H', Ex H H' → E (.ref A.UnequalSizes) none H'
def RzF (A : Ad) (f : Nat × Nat) (H : Hp) (E : XK) : Prop := (f.1 = 1 → RzI A f.2 H E) ∧ (f.1 = 2 → RzS A f.2 H E) ∧ (f.1 = 3 → RzU A H E)
theorem RzF.mono {A : Ad} {f : Nat × Nat} {H H1 : Hp} {E : XK} (e : Ex H H1) (h : RzF A f H E) : RzF A f H1 E :=
  ⟨fun z d H' e' hd => h.1 z d H' (e.trans e') hd, fun z d H' e' hd => h.2.1 z d H' (e.trans e') hd, fun z H' e' => h.2.2 z H' (e.trans e')⟩
/-! ### promises of the program -/
def spCI (A : Ad) : Sp := fun vs H Q E => ∃ (a : Addr) (xs : List Int), vs = [.ref a] ∧ ListI H a xs ∧ xs.length ≤ 65 ∧ (strayI xs = none → ∀ H', Ex H H' → Q .non H') ∧ ∀ k, strayI xs = some k → RzI A k H E
def spCS (A : Ad) : Sp := fun vs H Q E => ∃ (a : Addr) (xs : List Int), vs = [.ref a] ∧ ListI H a xs ∧ xs.length ≤ 65 ∧ (faultS xs = none → ∀ H', Ex H H' → Q .non H') ∧ ∀ f, faultS xs = some f → RzF A f H E
def spCP (A : Ad) : Sp := fun vs H Q E => ∃ (a b : Addr) (xs zs : List Int), vs = [.ref a, .ref b] ∧ ListI H a xs ∧ ListI H b zs ∧ xs.length ≤ 65 ∧ zs.length ≤ 65 ∧ (faultF xs zs = none → ∀ H', Ex H H' → Q .non H') ∧ ∀ f, faultF xs zs = some f → RzF A f H E
def spWk : Sp := fun vs H Q _ => ∃ (a b : Addr) (ys zs w : List Nat) (s : Nat), vs = [.ref a, .ref b, .int (s : Int)] ∧ ListN H a ys ∧ ListN H b zs ∧ zs.length = ys.length ∧ ys.length ≤ 65 ∧ Trl ys zs s w ∧ ∀ p H', H p = none → Ex H H' → ListN H' p w → Q (.ref p) H'
def wE : Nat → Str
  | 0 => "chain"
  | _ => "ring"
def rgB (b : Bool) : Nat := if b then 1 else 0
/-- a tuple (word, records) -/
def PrtAt (H : Hp) (t : Addr) (c : Bool × List Nat) : Prop := ∃ l, H t = some (.tup [.str (wE (rgB c.1)), .ref l]) ∧ ListN H l c.2
theorem PrtAt.ex {H H' : Hp} {t : Addr} {c : Bool × List Nat} (e : Ex H H') (h : PrtAt H t c) : PrtAt H' t c := by
  obtain ⟨l, h1, h2⟩ := h
  exact ⟨l, e _ _ h1, h2.ex e⟩
def PrtsAt (H : Hp) (p : Addr) (cs : List (Bool × List Nat)) : Prop := ∃ ts : List Addr, H p = some (.lst (ts.map V.ref)) ∧ ts.length = cs.length ∧ ∀ (i : Nat) (t : Addr) (c : Bool × List Nat), ts[i]? = some t → cs[i]? = some c → PrtAt H t c
theorem PrtsAt.ex {H H' : Hp} {p : Addr} {cs : List (Bool × List Nat)} (e : Ex H H') (h : PrtsAt H p cs) : PrtsAt H' p cs := by
  obtain ⟨ts, h1, h2, h3⟩ := h
  exact ⟨ts, e _ _ h1, h2, fun i t c a b => (h3 i t c a b).ex e⟩
def spPt : Sp := fun vs H Q _ => ∃ (a b : Addr) (ys zs : List Nat) (x : Nat), vs = [.ref a, .ref b, .int (x : Int)] ∧ ListN H a ys ∧ ListN H b zs ∧ Sta ys ∧ Sta zs ∧ zs.length = ys.length ∧ ys.length ≤ 65 ∧ x < ys.length ∧ ∀ p l H', H p = none → H l = none → Ex H H' → H' p = some (.tup [.str (wE (rgB (partF ys zs x).1)), .ref l]) → ListN H' l (partF ys zs x).2 → Q (.ref p) H'
/-- parts at p, their rows new since H0 -/
def PrtsF (H0 H : Hp) (p : Addr) (cs : List (Bool × List Nat)) : Prop := ∃ ts : List Addr, H p = some (.lst (ts.map V.ref)) ∧ ts.length = cs.length ∧ ∀ (i : Nat) (t : Addr) (c : Bool × List Nat), ts[i]? = some t → cs[i]? = some c → ∃ l, H t = some (.tup [.str (wE (rgB c.1)), .ref l]) ∧ ListN H l c.2 ∧ H0 l = none
theorem PrtsF.at {H0 H : Hp} {p : Addr} {cs : List (Bool × List Nat)} (h : PrtsF H0 H p cs) : PrtsAt H p cs := by
  obtain ⟨ts, a, b, c⟩ := h
  exact ⟨ts, a, b, fun i t d h1 h2 => by
    obtain ⟨l, x, y, _⟩ := c i t d h1 h2
    exact ⟨l, x, y⟩⟩
def spPts (A : Ad) : Sp := fun vs H Q E => ∃ (a b : Addr) (xs zs : List Int), vs = [.ref a, .ref b] ∧ ListI H a xs ∧ ListI H b zs ∧ xs.length ≤ 65 ∧ zs.length ≤ 65 ∧ (faultF xs zs = none → ∀ p H', H p = none → Ex H H' → PrtsF H H' p (partsF (natI xs) (natI zs) xs.length) → Q (.ref p) H') ∧ ∀ f, faultF xs zs = some f → RzF A f H E
def spGn : Sp := fun vs H Q _ => ∃ (a b r : Addr) (ys zs l : List Nat), vs = [.ref a, .ref b, .ref r] ∧ ListN H a ys ∧ ListN H b zs ∧ ListN H r l ∧ zs.length = ys.length ∧ ys.length ≤ 65 ∧ l.length ≤ 200 ∧ (∀ x ∈ l, x < ys.length) ∧ ∀ H', Ex H H' → Q (.int (gainF ys zs l)) H'
/-- a tuple (word, length, gain) -/
def EntAt (H : Hp) (t : Addr) (e : Ent) : Prop := H t = some (.tup [.str (wE e.1), .int e.2.1, .int e.2.2])
def leE (e f : Ent) : Bool := decide (e.1 < f.1) || (decide (e.1 = f.1) && (decide (e.2.1 < f.2.1) || (decide (e.2.1 = f.2.1) && decide (e.2.2 ≤ f.2.2))))
def KindAt (H : Hp) (p : Addr) (es : List Ent) : Prop := ∃ ts : List Addr, H p = some (.tup (ts.map V.ref)) ∧ ts.length = es.length ∧ ∀ (i : Nat) (t : Addr) (e : Ent), ts[i]? = some t → es[i]? = some e → EntAt H t e
def EntsAt (H : Hp) (p : Addr) (es : List Ent) : Prop := ∃ ts : List Addr, H p = some (.lst (ts.map V.ref)) ∧ ts.length = es.length ∧ ∀ (i : Nat) (t : Addr) (e : Ent), ts[i]? = some t → es[i]? = some e → EntAt H t e
theorem KindAt.ex {H H' : Hp} {p : Addr} {es : List Ent} (e : Ex H H') (h : KindAt H p es) : KindAt H' p es := by
  obtain ⟨ts, h1, h2, h3⟩ := h
  exact ⟨ts, e _ _ h1, h2, fun i t c a b => e _ _ (h3 i t c a b)⟩
theorem EntsAt.ex {H H' : Hp} {p : Addr} {es : List Ent} (e : Ex H H') (h : EntsAt H p es) : EntsAt H' p es := by
  obtain ⟨ts, h1, h2, h3⟩ := h
  exact ⟨ts, e _ _ h1, h2, fun i t c a b => e _ _ (h3 i t c a b)⟩
def spKd (A : Ad) : Sp := fun vs H Q E => ∃ (a b : Addr) (xs zs : List Int), vs = [.ref a, .ref b] ∧ ListI H a xs ∧ ListI H b zs ∧ xs.length ≤ 65 ∧ zs.length ≤ 65 ∧ (faultF xs zs = none → ∀ p es H', H p = none → Ex H H' → es.Perm (entsF (natI xs) (natI zs) xs.length) → es.Pairwise (fun e f => leE e f = true) → KindAt H' p es → Q (.ref p) H') ∧ ∀ f, faultF xs zs = some f → RzF A f H E
/-- a def that is told of the handled exception -/
def Oke (P : Program) (w : World) (K : PySem.W.Frag) (mg : Str → Option Value) (base : Heap) (k : Nat) (f : Addr) (ps : List Str) (sp : HotE.SpE) : Prop := ∃ fd, HotE.FnE P w K mg base CX0 k f fd ps sp ∧ Binds K fd ps []
end Pv
namespace L2
open PySem
theorem op_inK {X : Cx} {K : PySem.W.Frag} (h : X.K = K) : OpR X (compareOp .In) (rIn K false) := by
  subst h
  exact op_in_seq
end L2

namespace Pv
open PySem L2 Evl Pm
def Bx (H : Hp) (b c : Addr) : Prop := ∃ (ns : List Int) (d i k s : Int), H b = some (.lst [.ref c, .int d, .int i, .int k, .int s]) ∧ H c = some (.lst (ns.map V.int)) ∧ 0 ≤ d ∧ 0 ≤ i
theorem Bx.ne {H : Hp} {b c p : Addr} (B : Bx H b c) (h : H p = none) : p ≠ b ∧ p ≠ c := by
  obtain ⟨ns, d, i, k, s, h1, h2, _⟩ := B
  exact ⟨(fun e => by rw [e, h1] at h; cases h), (fun e => by rw [e, h2] at h; cases h)⟩
theorem Bx.bc {H : Hp} {b c : Addr} (B : Bx H b c) : b ≠ c := by
  obtain ⟨ns, d, i, k, s, h1, h2, _⟩ := B
  intro e
  rw [e, h2] at h1
  have h3 := HO.lst.inj (Option.some.inj h1)
  cases ns with
  | nil => cases h3
  | cons a l => cases h3
theorem Bx.keep {H H' : Hp} {b c : Addr} (B : Bx H b c) (h1 : ∀ o, H b = some o → H' b = some o) (h2 : ∀ o, H c = some o → H' c = some o) : Bx H' b c := by
  obtain ⟨ns, d, i, k, s, a1, a2, q⟩ := B
  exact ⟨ns, d, i, k, s, h1 _ a1, h2 _ a2, q⟩
theorem Bx.ex {H H' : Hp} {b c : Addr} (e : Ex H H') (B : Bx H b c) : Bx H' b c := B.keep (e b) (e c)
theorem Mut.of_ex {b : Addr} {H H1 : Hp} (e : Ex H H1) : Mut b H H1 := fun a o _ h => e a o h
theorem bx_back {b c : Addr} {H G : Hp} (B : Bx G b c) (M : Mut b H G) {a : Addr} (h : G a = none) : H a = none := by
  cases q : H a with
  | none => rfl
  | some u =>
    rw [M a u (B.ne h).1 q] at h
    cases h
def spMix : Sp := fun vs H Q _ => ∃ x y : Int, vs = [.int x, .int y] ∧ ∀ z : Int, Q (.int z) H
def spBox (K : PySem.W.Frag) : Sp := fun vs H Q _ => ∃ (a : Addr) (ns : List Int), vs = [.ref a] ∧ SqL K H a (ns.map V.int) ∧ ns.length ≤ 63 ∧ ∀ b c H', H b = none → H c = none → Ex H H' → Bx H' b c → Q (.ref b) H'
def spDw : Sp := fun vs H Q _ => ∃ (b c : Addr) (n : Int), vs = [.ref b, .int n] ∧ 0 < n ∧ n < 1152921504606846976 ∧ Bx H b c ∧ ∀ (d : Nat) H', (d : Int) < n → Bx H' b c → Mut b H H' → Q (.int d) H'
def spSz : Sp := fun vs H Q _ => ∃ b c : Addr, vs = [.ref b] ∧ Bx H b c ∧ ∀ (n : Nat) H', n ≤ 64 → Bx H' b c → Mut b H H' → Q (.int (n : Int)) H'
def spWh : Sp := fun vs H Q _ => ∃ i j : Int, vs = [.int i, .int j] ∧ Q (.bl (decide (i = j))) H
def spRw : Sp := fun vs H Q _ => ∃ (t d : Addr) (xs : List Nat), vs = [.ref t, .ref d] ∧ ListN H t xs ∧ ListN H d xs ∧ xs.length ≤ 200 ∧ ∀ H', Ex H H' → Q (.bl true) H'
def spSpl : Sp := fun vs H Q _ => ∃ (a : Addr) (xs : List V), vs = [.ref a] ∧ H a = some (.lst xs) ∧ xs.length ≤ 65 ∧ ∀ ys H', (∀ x o, x ≠ a → H x = some o → H' x = some o) → H' a = some (.lst ys) → Q .non H'
def orM (o : Option Nat) : Int := match o with
  | some k => k
  | none => -1
def spEn : Sp := fun vs H Q _ => ∃ (a : Addr) (xs : List Int), vs = [.ref a] ∧ ListI H a xs ∧ xs.length ≤ 65 ∧ ∀ H', Ex H H' → Q (.int (orM (strayI xs))) H'
def spUn : Sp := fun vs H Q _ => ∃ (a : Addr) (xs : List Int), vs = [.ref a] ∧ ListI H a xs ∧ strayI xs = none ∧ xs.length ≤ 65 ∧ ∀ H', Ex H H' → Q (.int (orM (unset (natI xs)))) H'
def spOr : Sp := fun vs H Q _ => ∃ (b c : Addr) (n : Nat), vs = [.ref b, .int (n : Int)] ∧ n ≤ 64 ∧ Bx H b c ∧ ∀ p os H', H p = none → Bx H' b c → Mut b H H' → ListN H' p os → os.Perm (List.range n) → Q (.ref p) H'
def w4 : Nat → Str
  | 0 => "free" | 1 => "pair" | 2 => "chain" | _ => "ring"
structure Shp (room w n s : Nat) : Prop where
  hw : w < 4
  hn : n ≤ room
  hs : s < 2
  l0 : w = 0 → n = 1
  l1 : w = 1 → n = 2
  l2 : w = 2 → 2 ≤ n
  l3 : w = 3 → 4 ≤ n ∧ n % 2 = 0 ∧ s = 0
def spPc : Sp := fun vs H Q _ => ∃ (b c : Addr) (room : Nat), vs = [.ref b, .int (room : Int)] ∧ 0 < room ∧ room ≤ 64 ∧ Bx H b c ∧ ∀ p (w n s : Nat) H', H p = none → Bx H' b c → Mut b H H' → H' p = some (.lst [.str (w4 w), .int (n : Int), .int (s : Int)]) → Shp room w n s → Q (.ref p) H'
def PcLst (H : Hp) (t : Addr) (p : Pc) : Prop := ∃ l, H t = some (.lst [.str (w4 p.1), .ref l, .int (p.2.2 : Int)]) ∧ ListN H l p.2.1
theorem PcLst.ex {H H' : Hp} {t : Addr} {p : Pc} (e : Ex H H') (h : PcLst H t p) : PcLst H' t p := by
  obtain ⟨l, h1, h2⟩ := h
  exact ⟨l, e _ _ h1, h2.ex e⟩
def PcsAt (H : Hp) (q : Addr) (ps : List Pc) : Prop := ∃ ts : List Addr, H q = some (.lst (ts.map V.ref)) ∧ ts.length = ps.length ∧ ∀ (i : Nat) (t : Addr) (p : Pc), ts[i]? = some t → ps[i]? = some p → PcLst H t p
theorem PcsAt.ex {H H' : Hp} {q : Addr} {ps : List Pc} (e : Ex H H') (h : PcsAt H q ps) : PcsAt H' q ps := by
  obtain ⟨ts, h1, h2, h3⟩ := h
  exact ⟨ts, e _ _ h1, h2, fun i t p a b => (h3 i t p a b).ex e⟩
structure Cut (n : Nat) (ps : List Pc) : Prop where
  perm : (ps.flatMap (·.2.1)).Perm (List.range n)
  ok : ∀ p ∈ ps, PcOk p
  s0 : ∀ p ∈ ps, p.1 = 3 → p.2.2 = 0
def spBt : Sp := fun vs H Q _ => ∃ (b c : Addr) (n : Nat), vs = [.ref b, .int (n : Int)] ∧ n ≤ 64 ∧ Bx H b c ∧ ∀ q ps H', H q = none → Bx H' b c → Mut b H H' → PcsAt H' q ps → Cut n ps → Q (.ref q) H'
def spLst : Sp := fun vs H Q _ => ∃ (l : Addr) (xs : List Nat), vs = [.ref l] ∧ ListN H l xs ∧ 0 < xs.length ∧ xs.length ≤ 64 ∧ ∀ H', Ex H H' → Q (.int (mn xs : Nat)) H'
def spCan : Sp := fun vs H Q _ => ∃ (l r : Addr) (p : Pc) (A : List Nat), vs = [.str (w4 p.1), .ref l, .ref r] ∧ ListN H l p.2.1 ∧ ListN H r A ∧ (p.1 = 2 ∨ p.1 = 3) ∧ 2 ≤ p.2.1.length ∧ p.2.1.length ≤ 64 ∧ (∀ x ∈ p.2.1, x < A.length) ∧ ∀ q H', H q = none → Ex H H' → ListN H' q (canonP A p) → Q (.ref q) H'
def spDp : Sp := fun vs H Q _ => ∃ (q r : Addr) (n : Nat) (ps : List Pc) (A : List Nat), vs = [.ref q, .int (n : Int), .ref r] ∧ n ≤ 64 ∧ PcsAt H q ps ∧ ListN H r A ∧ A.length = n ∧ Cut n ps ∧ ∀ d H', H d = none → Ex H H' → PrtsAt H' d ((psJ ps n).map (outP A)) → Q (.ref d) H'
def spPtd : Sp := fun vs H Q _ => ∃ (t d : Addr) (cs : List (Bool × List Nat)), vs = [.ref t, .ref d] ∧ PrtsAt H t cs ∧ PrtsAt H d cs ∧ cs.length ≤ 200 ∧ (∀ c ∈ cs, c.2.length ≤ 200) ∧ ∀ H', Ex H H' → Q (.bl true) H'
def fw : Nat → Str
  | 1 => "entry" | 2 => "state" | 3 => "sizes" | _ => "none"
def fltV (o : Option (Nat × Nat)) : List V := [.str (fw ((o.map (·.1)).getD 0)), .int ((o.map (·.2)).getD 0 : Nat)]
def spFl : Sp := fun vs H Q _ => ∃ (a b : Addr) (xs zs : List Int), vs = [.ref a, .ref b] ∧ ListI H a xs ∧ ListI H b zs ∧ xs.length ≤ 65 ∧ zs.length ≤ 65 ∧ ∀ p H', H p = none → Ex H H' → H' p = some (.lst (fltV (faultF xs zs))) → Q (.ref p) H'
def spBe : Sp := fun vs H Q _ => ∃ (b c r : Addr) (xs : List Nat), vs = [.ref b, .ref r] ∧ Bx H b c ∧ ListN H r xs ∧ r ≠ b ∧ xs.length ≤ 64 ∧ ∀ p zs H', H p = none → Bx H' b c → Mut b H H' → ListI H' p zs → zs.length ≤ 65 → Q (.ref p) H'
def spFt : Sp := fun vs H Q _ => ∃ (a b du : Addr) (xs zs : List Int) (dr : Nat), vs = [.int (dr : Int), .ref a, .ref b, .ref du] ∧ dr < 3 ∧ ListI H a xs ∧ ListI H b zs ∧ xs.length ≤ 65 ∧ zs.length ≤ 65 ∧ H du = some (.lst (fltV (faultF xs zs))) ∧ ∀ H', Ex H H' → Q (.bl true) H'
def spLaw (K : PySem.W.Frag) : Sp := fun vs H Q _ => ∃ (a : Addr) (ns : List Int), vs = [.ref a] ∧ SqL K H a (ns.map V.int) ∧ ns.length ≤ 63 ∧ ∀ H', Q (.bl true) H'
end Pv

namespace Pv
open PySem L2 Evl Pm PySem.W
theorem sqT_ex {K : PySem.W.Frag} {H H' : Hp} {a : Addr} {xs : List V} (e : Ex H H') (h : SqT K H a xs) : SqT K H' a xs := h.elim (fun z => .inl (rd_ex e z)) .inr
/-! ### slices, new objects -/
theorem cut_take {xs : List Int} {k : Nat} : cutV (xs.map V.int) none (some (k : Int)) = (xs.take k).map V.int := by
  unfold cutV HT.sIx
  simp only [if_neg (show ¬ ((k : Int) < 0) by omega), List.length_map, Int.toNat_natCast, List.drop_zero, Nat.sub_zero]
  rw [List.map_take, ← List.map_take, ← List.map_take]
  congr 1
  rw [List.take_eq_take_iff]
  omega
theorem cut_drop {xs : List Int} {k : Nat} (h : k ≤ xs.length) : cutV (xs.map V.int) (some (k : Int)) none = (xs.drop k).map V.int := by
  unfold cutV HT.sIx
  simp only [if_neg (show ¬ ((k : Int) < 0) by omega), List.length_map, Int.toNat_natCast, Nat.min_eq_left h]
  rw [List.take_of_length_le (by rw [List.length_drop, List.length_map]; exact Nat.le_refl _), List.map_drop]
theorem new3 {H : Hp} {q0 q1 p : Addr} {x0 x1 x2 : HO} (h0 : H q0 = none) (h1 : upd H q0 x0 q1 = none) (h2 : upd (upd H q0 x0) q1 x1 p = none) :
    H p = none ∧ H q1 = none ∧ Ex H (upd (upd (upd H q0 x0) q1 x1) p x2) ∧ upd (upd (upd H q0 x0) q1 x1) p x2 p = some x2 ∧ upd (upd (upd H q0 x0) q1 x1) p x2 q0 = some x0 ∧ upd (upd (upd H q0 x0) q1 x1) p x2 q1 = some x1 := by
  have e1 : Ex H (upd H q0 x0) := Ex.new h0
  have e2 : Ex (upd H q0 x0) (upd (upd H q0 x0) q1 x1) := Ex.new h1
  have e3 : Ex (upd (upd H q0 x0) q1 x1) (upd (upd (upd H q0 x0) q1 x1) p x2) := Ex.new h2
  exact ⟨back_none (e1.trans e2) h2, back_none e1 h1, (e1.trans e2).trans e3, upd_same, e3 _ _ (e2 _ _ upd_same), e3 _ _ upd_same⟩
theorem flat_ints : ∀ xs : List Int, (xs.map V.int).all flatV = true
  | [] => rfl
  | _ :: xs => flat_ints xs
theorem inV_ints {x : Int} : ∀ xs : List Int, inV (V.int x) (xs.map V.int) = xs.contains x
  | [] => rfl
  | y :: xs => by
    show (eqV (V.int y) (V.int x) || inV (V.int x) (xs.map V.int)) = _
    rw [inV_ints xs, List.contains_cons]
    congr 1
    show (y == x) = (x == y)
    rw [Bool.eq_iff_iff, beq_iff_eq, beq_iff_eq]
    omega
theorem eqV_ints {x y : Int} : eqV (V.int x) (V.int y) = true ↔ x = y := by
  show (x == y) = true ↔ _
  rw [beq_iff_eq]
/-! ### words and lines -/
def words7 : List Str := ["tie", "move", "cross", "ties", "", "Move", "free"]
def words3 : List Str := ["tie", "move", "cross"]
def okLen (w : Str) (m : Nat) : Bool := (w == "tie" && m == 2) || (w == "move" && m == 3) || (w == "cross" && m == 4)
/-- a word with as many records as it has -/
inductive Fm : Str → List Int → Prop
  | tie (a b : Int) : Fm "tie" [a, b]
  | move (a b c : Int) : Fm "move" [a, b, c]
  | cross (a b c d : Int) : Fm "cross" [a, b, c, d]
theorem fm_of {w : Str} {ln : List Int} (h : okLen w ln.length = true) : Fm w ln := by
  unfold okLen at h
  rw [Bool.or_eq_true, Bool.or_eq_true, Bool.and_eq_true, Bool.and_eq_true, Bool.and_eq_true] at h
  rcases h with (⟨h1, h2⟩ | ⟨h1, h2⟩) | ⟨h1, h2⟩
  · have e1 : w = "tie" := eq_of_beq h1
    have e2 : ln.length = 2 := eq_of_beq h2
    subst e1
    match ln, e2 with
    | [a, b], _ => exact .tie a b
  · have e1 : w = "move" := eq_of_beq h1
    have e2 : ln.length = 3 := eq_of_beq h2
    subst e1
    match ln, e2 with
    | [a, b, c], _ => exact .move a b c
  · have e1 : w = "cross" := eq_of_beq h1
    have e2 : ln.length = 4 := eq_of_beq h2
    subst e1
    match ln, e2 with
    | [a, b, c, d], _ => exact .cross a b c d
theorem Fm.len {w : Str} {ln : List Int} (h : Fm w ln) : okLen w ln.length = true := by
  cases h <;> rfl
/-- the order that a valid change keeps -/
def ordF (w : Str) (ln : List Int) : Bool := match ln with
  | [a, b] => decide (a < b)
  | [_, b, c] => decide (b < c)
  | [a, b, c, d] => decide (a < b) && decide (a < c) && decide (a < d) && decide (b < d)
  | _ => false
def badK (ln : List Int) (n : Int) (k : Nat) : Bool := decide (ln.getD k 0 < 0) || (decide (n ≤ ln.getD k 0) || (ln.take k).contains (ln.getD k 0))
def rngF (ln : List Int) (n : Int) : Bool := (firstOf (badK ln n) ln.length).isNone
def valF (w : Str) (ln : List Int) (n : Int) : Bool := okLen w ln.length && rngF ln n && ordF w ln
/-- a valid change in a table of n -/
structure Vd (w : Str) (ln : List Int) (n : Int) : Prop where
  fm : Fm w ln
  nd : ln.Nodup
  lo : ∀ x ∈ ln, 0 ≤ x ∧ x < n
  od : ordF w ln = true
theorem vd_of {w : Str} {ln : List Int} {n : Int} (h : valF w ln n = true) : Vd w ln n := by
  unfold valF at h
  rw [Bool.and_eq_true, Bool.and_eq_true] at h
  obtain ⟨⟨h1, h2⟩, h3⟩ := h
  have hn := firstOf_no (Option.isNone_iff_eq_none.mp h2)
  have key : ∀ k, k < ln.length → 0 ≤ ln.getD k 0 ∧ ln.getD k 0 < n ∧ ln.getD k 0 ∉ ln.take k := fun k hk => by
    have := hn k hk
    unfold badK at this
    rw [Bool.or_eq_false_iff, Bool.or_eq_false_iff] at this
    obtain ⟨q1, q2, q3⟩ := this
    have q1 := of_decide_eq_false q1
    have q2 := of_decide_eq_false q2
    refine ⟨by omega, by omega, fun z => ?_⟩
    rw [List.contains_iff_mem.mpr z] at q3
    cases q3
  have gd : ∀ k (hk : k < ln.length), ln.getD k 0 = ln[k] := fun k hk => by
    rw [List.getD_eq_getElem?_getD, List.getElem?_eq_getElem hk]
    rfl
  refine ⟨fm_of h1, ?_, fun x hx => ?_, h3⟩
  · rw [List.nodup_iff_pairwise_ne, List.pairwise_iff_getElem]
    intro i j hi hj hij e
    have := (key j hj).2.2
    rw [gd j hj, ← e] at this
    exact this (List.mem_take_iff_getElem.mpr ⟨i, by omega, rfl⟩)
  · obtain ⟨k, hk, rfl⟩ := List.mem_iff_getElem.mp hx
    have := key k hk
    rw [gd k hk] at this
    exact ⟨this.1, this.2.1⟩
theorem Vd.is {w : Str} {ln : List Int} {n : Int} (h : Vd w ln n) : valF w ln n = true := by
  unfold valF
  rw [h.fm.len, h.od, Bool.and_true, Bool.true_and]
  unfold rngF
  rw [Option.isNone_iff_eq_none]
  refine firstOf_none fun k hk => ?_
  have gd : ln.getD k 0 = ln[k] := by
    rw [List.getD_eq_getElem?_getD, List.getElem?_eq_getElem hk]
    rfl
  have lo := h.lo ln[k] (List.getElem_mem hk)
  unfold badK
  rw [gd, decide_eq_false (by omega), decide_eq_false (by omega), Bool.false_or, Bool.false_or]
  cases e : (ln.take k).contains ln[k] with
  | false => rfl
  | true =>
    rw [List.contains_iff_mem] at e
    obtain ⟨i, hi, e2⟩ := List.mem_take_iff_getElem.mp e
    have nd := h.nd
    rw [List.nodup_iff_pairwise_ne, List.pairwise_iff_getElem] at nd
    exact absurd e2 (nd i k (by omega) hk (by omega))
theorem valF_bad {w : Str} {ln : List Int} {n : Int} {j : Nat} (hj : j < ln.length) (h : badK ln n j = true) : valF w ln n = false := by
  unfold valF rngF
  cases q : firstOf (badK ln n) ln.length with
  | none =>
    rw [firstOf_no q j hj] at h
    cases h
  | some i =>
    rw [show (some i).isNone = false from rfl, Bool.and_false, Bool.false_and]
theorem valF_ok {w : Str} {ln : List Int} {n : Int} (h : ∀ j, j < ln.length → badK ln n j = false) (ho : okLen w ln.length = true) : valF w ln n = ordF w ln := by
  unfold valF rngF
  rw [firstOf_none h, ho]
  rfl
/-- the names at the two sides -/
def nm0 : List Int → List Int
  | [a, b] => [a, b]
  | [a, b, c] => [b, a, c]
  | [a, b, c, d] => [b, a, d, c]
  | _ => []
def nm1 : List Int → List Int
  | [a, b] => [b, a]
  | [a, b, c] => [c, b, a]
  | [a, b, c, d] => [d, c, b, a]
  | _ => []
/-! ### the box of the draws -/
def Box (H : Hp) (b c : Addr) : Prop := ∃ (ns : List Int) (d i st sd : Int), H b = some (.lst [.ref c, .int d, .int i, .int st, .int sd]) ∧ H c = some (.lst (ns.map V.int)) ∧ 0 ≤ d ∧ 0 ≤ i ∧ ns.length ≤ 63
theorem Box.ne {H : Hp} {b c p : Addr} (B : Box H b c) (h : H p = none) : p ≠ b := fun e => by
  obtain ⟨ns, d, i, st, sd, hb, hc, _⟩ := B
  rw [e, hb] at h
  cases h
theorem Box.nec {H : Hp} {b c p : Addr} (B : Box H b c) (h : H p = none) : p ≠ c := fun e => by
  obtain ⟨ns, d, i, st, sd, hb, hc, _⟩ := B
  rw [e, hc] at h
  cases h
theorem Box.keep {H H' : Hp} {b c : Addr} (B : Box H b c) (h1 : ∀ o, H b = some o → H' b = some o) (h2 : ∀ o, H c = some o → H' c = some o) : Box H' b c := by
  obtain ⟨ns, d, i, st, sd, hb, hc, r⟩ := B
  exact ⟨ns, d, i, st, sd, h1 _ hb, h2 _ hc, r⟩
theorem Box.ex {H H' : Hp} {b c : Addr} (e : Ex H H') (B : Box H b c) : Box H' b c := B.keep (e b) (e c)
theorem Box.upd {H : Hp} {b c p : Addr} {o : HO} (B : Box H b c) (h1 : p ≠ b) (h2 : p ≠ c) : Box (L2.upd H p o) b c :=
  B.keep (fun u h => by rw [upd_ne (Ne.symm h1)]; exact h) (fun u h => by rw [upd_ne (Ne.symm h2)]; exact h)
theorem Mut.mut_upd {b p : Addr} {H H1 : Hp} {o : HO} (x : Mut b H H1) (h : H p = none) : Mut b H (L2.upd H1 p o) := fun a u n e => by
  rw [upd_ne (ne_of_none e h)]
  exact x a u n e
def spDraw : Sp := fun vs H Q _ => ∃ (b c : Addr) (n : Int), vs = [.ref b, .int n] ∧ 0 < n ∧ n < 1152921504606846976 ∧ Box H b c ∧ ∀ d H', 0 ≤ d → d < n → Box H' b c → Mut b H H' → Q (.int d) H'
def spWhole : Sp := fun vs H Q _ => ∃ a b : Int, vs = [.int a, .int b] ∧ Q (.bl (decide (a = b))) H
/-- of the two, None is no number -/
def spRowK : Sp := fun vs H Q _ => ∃ (t d : Addr) (xs : List Int), vs = [.ref t, .ref d] ∧ ListI H t xs ∧ ListI H d xs ∧ xs.length ≤ 64 ∧ Q (.bl true) H
def spNames : Sp := fun vs H Q _ => ∃ (l : Addr) (w : Str) (ln : List Int), vs = [.str w, .ref l] ∧ ListI H l ln ∧ Fm w ln ∧ ∀ p q0 q1 H', H p = none → H q0 = none → H q1 = none → Ex H H' → H' p = some (.lst [.ref q0, .ref q1]) → ListI H' q0 (nm0 ln) → ListI H' q1 (nm1 ln) → Q (.ref p) H'
def spValid : Sp := fun vs H Q _ => ∃ (l : Addr) (w : Str) (ln : List Int) (n : Int), vs = [.str w, .ref l, .int n] ∧ ListI H l ln ∧ w ∈ words7 ∧ ln.length ≤ 5 ∧ ∀ H', Ex H H' → Q (.bl (valF w ln n)) H'
def spTaken : Sp := fun vs H Q _ => ∃ (b c : Addr) (n m : Nat), vs = [.ref b, .int (n : Int), .int (m : Int)] ∧ m ≤ n ∧ n ≤ 64 ∧ m ≤ 4 ∧ Box H b c ∧
  ∀ p (xs : List Int) H', H p = none → xs.length = m → xs.Nodup → (∀ x ∈ xs, 0 ≤ x ∧ x < (n : Int)) → ListI H' p xs → Box H' b c → Mut b H H' → Q (.ref p) H'
def spFormed : Sp := fun vs H Q _ => ∃ (l : Addr) (w : Str) (ln : List Int), vs = [.str w, .ref l] ∧ ListI H l ln ∧ Fm w ln ∧ ln.Nodup ∧
  ∀ p (xs : List Int) H', H p = none → Ex H H' → Fm w xs → xs.Perm ln → ordF w xs = true → ListI H' p xs → Q (.ref p) H'
/-! ### the program -/
def RzC (A : Ad) (H : Hp) (E : XK) : Prop := ∀ H', Ex H H' → E (.ref A.InvalidChange) none H'
theorem RzC.mono {A : Ad} {H H1 : Hp} {E : XK} (e : Ex H H1) (h : RzC A H E) : RzC A H1 E := fun H' e' => h H' (e.trans e')
/-- the table of the sides -/
structure SdK (w : World) (K : PySem.W.Frag) (c : Addr) where
  es : Array DictEntry
  n : Nat
  kd : KDict K w c es n
  no : ∀ z ∈ words7, z ∉ words3 → PySem.W.nsIn K c z = some none
  yes : ∀ z ∈ words3, ∃ (p q0 q1 : Addr), PySem.W.nsIn K c z = some (some (.ref p)) ∧ (∀ H, SqT K H p [.ref q0, .ref q1]) ∧
    ∃ (i0 i1 : List Nat), (∀ H, SqT K H q0 (nI i0)) ∧ (∀ H, SqT K H q1 (nI i1)) ∧
      ∀ ln : List Int, Fm z ln → i0.length = ln.length ∧ i1.length = ln.length ∧ nm0 ln = i0.map (fun i => ln.getD i 0) ∧ nm1 ln = i1.map (fun i => ln.getD i 0) ∧ (∀ i ∈ i0, i < ln.length) ∧ ∀ i ∈ i1, i < ln.length
def spIO (K : PySem.W.Frag) : Sp := fun vs H Q _ => ∃ (t : Addr) (w : Str) (ln : List Int), vs = [.str w, .ref t] ∧ SqT K H t (ln.map V.int) ∧ Fm w ln ∧ ln.Nodup ∧ Q (.bl (ordF w ln)) H
/-- pairs of ints at p -/
def PrsAt (H : Hp) (p : Addr) (ps : List (Int × Int)) : Prop := ∃ ts : List Addr, H p = some (.lst (ts.map V.ref)) ∧ ts.length = ps.length ∧ ∀ (i : Nat) (t : Addr) (x : Int × Int), ts[i]? = some t → ps[i]? = some x → H t = some (.tup [.int x.1, .int x.2])
theorem PrsAt.ex {H H' : Hp} {p : Addr} {ps : List (Int × Int)} (e : Ex H H') (h : PrsAt H p ps) : PrsAt H' p ps := by
  obtain ⟨ts, h1, h2, h3⟩ := h
  exact ⟨ts, e _ _ h1, h2, fun i t x a b => e _ _ (h3 i t x a b)⟩
/-- in ascending order by their firsts -/
def Asc (ps : List (Int × Int)) : Prop := ps.Pairwise fun a b => a.1 < b.1
def spShown (K : PySem.W.Frag) : Sp := fun vs H Q _ => ∃ (t q : Addr) (ln : List Int) (is : List Nat), vs = [.ref t, .ref q] ∧ SqT K H t (ln.map V.int) ∧ SqT K H q (nI is) ∧ is.length = ln.length ∧ (∀ i ∈ is, i < ln.length) ∧ ln.length ≤ 4 ∧ ln.Nodup ∧
  ∀ p ps H', Ex H H' → Asc ps → ps.Perm (ln.zip (is.map fun i => ln.getD i 0)) → PrsAt H' p ps → Q (.ref p) H'
/-- a change as it is passed -/
def ChAt (K : PySem.W.Frag) (H : Hp) (a : Addr) (w : Str) (ln : List Int) : Prop := ∃ t, H a = some (.tup [.str w, .ref t]) ∧ Rd H t (.tup (ln.map V.int))
theorem ChAt.ex {K : PySem.W.Frag} {H H' : Hp} {a : Addr} {w : Str} {ln : List Int} (e : Ex H H') (h : ChAt K H a w ln) : ChAt K H' a w ln := by
  obtain ⟨t, h1, h2⟩ := h
  exact ⟨t, e _ _ h1, rd_ex e h2⟩
def spCC (K : PySem.W.Frag) (A : Ad) : Sp := fun vs H Q E => ∃ (a : Addr) (w : Str) (ln : List Int) (n : Int), vs = [.ref a, .int n] ∧ ChAt K H a w ln ∧ w ∈ words7 ∧ ln.length ≤ 5 ∧ (valF w ln n = true → ∀ H', Ex H H' → Q .non H') ∧ (valF w ln n = false → RzC A H E)
def spSides (K : PySem.W.Frag) : Sp := fun vs H Q _ => ∃ (a : Addr) (w : Str) (ln : List Int), vs = [.ref a] ∧ ChAt K H a w ln ∧ Fm w ln ∧ ln.Nodup ∧
  ∀ p q0 q1 ps0 ps1 H', Ex H H' → H' p = some (.tup [.ref q0, .ref q1]) → Asc ps0 → ps0.Perm (ln.zip (nm0 ln)) → PrsAt H' q0 ps0 → Asc ps1 → ps1.Perm (ln.zip (nm1 ln)) → PrsAt H' q1 ps1 → Q (.ref p) H'
/-- what an image shows of a line -/
def shF (xs ln : List Int) : List Int := ln.map fun r => xs.getD r.toNat 0
def sideV (xs ln : List Int) : V := if shF xs ln = nm0 ln then .int 0 else if shF xs ln = nm1 ln then .int 1 else .non
def spSO (K : PySem.W.Frag) (A : Ad) : Sp := fun vs H Q E => ∃ (a c : Addr) (xs : List Int) (w : Str) (ln : List Int), vs = [.ref a, .ref c] ∧ ListI H a xs ∧ xs.length ≤ 64 ∧ ChAt K H c w ln ∧ w ∈ words7 ∧ ln.length ≤ 5 ∧
  (∀ k, strayI xs = some k → RzI A k H E) ∧ (strayI xs = none → valF w ln xs.length = false → RzC A H E) ∧ (strayI xs = none → valF w ln xs.length = true → ∀ H', Ex H H' → Q (sideV xs ln) H')
theorem SdK.len {w : World} {K : PySem.W.Frag} {c : Addr} (S : SdK w K c) {z : Str} (hz : z ∈ words3) {i0 i1 : List Nat} (h : ∀ ln : List Int, Fm z ln → i0.length = ln.length ∧ i1.length = ln.length ∧ nm0 ln = i0.map (fun i => ln.getD i 0) ∧ nm1 ln = i1.map (fun i => ln.getD i 0) ∧ (∀ i ∈ i0, i < ln.length) ∧ ∀ i ∈ i1, i < ln.length) (n : Nat) : okLen z n = decide (n = i0.length) := by
  unfold words3 at hz
  rw [List.mem_cons, List.mem_cons, List.mem_singleton] at hz
  rcases hz with rfl | rfl | rfl
  · have := (h [0, 0] (.tie 0 0)).1
    rw [this]
    show ((true && n == 2) || (false && n == 3) || (false && n == 4)) = decide (n = 2)
    rw [Bool.eq_iff_iff]
    simp
  · have := (h [0, 0, 0] (.move 0 0 0)).1
    rw [this]
    show ((false && n == 2) || (true && n == 3) || (false && n == 4)) = decide (n = 3)
    rw [Bool.eq_iff_iff]
    simp
  · have := (h [0, 0, 0, 0] (.cross 0 0 0 0)).1
    rw [this]
    show ((false && n == 2) || (false && n == 3) || (true && n == 4)) = decide (n = 4)
    rw [Bool.eq_iff_iff]
    simp
theorem okLen_no {z : Str} (hz : z ∈ words7) (h3 : z ∉ words3) (n : Nat) : okLen z n = false := by
  have e : ∀ y ∈ words3, (z == y) = false := fun y hy => by
    cases q : z == y with
    | false => rfl
    | true => rw [eq_of_beq q] at h3; exact absurd hy h3
  unfold okLen
  rw [e "tie" (by simp [words3]), e "move" (by simp [words3]), e "cross" (by simp [words3])]
  rfl
/-! ### the law -/
/-- what a side is to show, in ascending order -/
def dueF (ln nm : List Int) : List (Int × Int) := ((List.range 64).filter fun x : Nat => ln.contains (x : Int)).map fun x : Nat => ((x : Int), nm.getD (ln.idxOf (x : Int)) 0)
def spDue (K : PySem.W.Frag) : Sp := fun vs H Q _ => ∃ (l q : Addr) (w : Str) (ln nm : List Int), vs = [.str w, .ref l, .ref q] ∧ ListI H l ln ∧ ListI H q nm ∧ nm.length = ln.length ∧ ln.length ≤ 4 ∧ ∀ p H', H p = none → Ex H H' → PrsAt H' p (dueF ln nm) → Q (.ref p) H'
def spLT : Sp := fun vs H Q _ => ∃ (t d : Addr) (ps : List (Int × Int)), vs = [.ref t, .ref d] ∧ PrsAt H t ps ∧ PrsAt H d ps ∧ ps.length ≤ 64 ∧ Q (.bl true) H
def spSK : Sp := fun vs H Q _ => ∃ (l : Addr) (w : Str) (ln : List Int), vs = [.str w, .ref l] ∧ ListI H l ln ∧ Vd w ln 64 ∧ ∀ H', Ex H H' → Q (.bl true) H'
def spCK : Sp := fun vs H Q _ => ∃ (l : Addr) (w : Str) (ln : List Int) (n : Int), vs = [.str w, .ref l, .int n] ∧ ListI H l ln ∧ w ∈ words7 ∧ ln.length ≤ 5 ∧ ∀ H', Ex H H' → Q (.bl true) H'
def spImg : Sp := fun vs H Q _ => ∃ (b c l : Addr) (w : Str) (ln : List Int) (n : Nat), vs = [.ref b, .str w, .ref l, .int (n : Int)] ∧ Box H b c ∧ ListI H l ln ∧ l ≠ b ∧ Vd w ln n ∧ n ≤ 64 ∧
  ∀ p (xs : List Int) H', H p = none → xs.length = n → strayI xs = none → ListI H' p xs → Box H' b c → Mut b H H' → Q (.ref p) H'
def spSdK : Sp := fun vs H Q _ => ∃ (a l : Addr) (xs : List Int) (w : Str) (ln : List Int), vs = [.ref a, .str w, .ref l] ∧ ListI H a xs ∧ xs.length ≤ 64 ∧ strayI xs = none ∧ ListI H l ln ∧ w ∈ words7 ∧ Vd w ln xs.length ∧ ∀ H', Ex H H' → Q (.bl true) H'
def spBent : Sp := fun vs H Q _ => ∃ (b c l : Addr) (w : Str) (ln : List Int) (n : Nat), vs = [.ref b, .str w, .ref l, .int (n : Int)] ∧ Box H b c ∧ ListI H l ln ∧ l ≠ b ∧ Fm w ln ∧ n ≤ 64 ∧
  ∀ p q (w2 : Str) (ys : List Int) H', H p = none → H q = none → H' p = some (.lst [.str w2, .ref q]) → ListI H' q ys → w2 ∈ words7 → ys.length ≤ 5 → Box H' b c → Mut b H H' → Q (.ref p) H'
def spRf : Sp := fun vs H Q _ => ∃ (b c a l : Addr) (xs : List Int) (w : Str) (ln : List Int), vs = [.ref b, .ref a, .str w, .ref l] ∧ Box H b c ∧ ListI H a xs ∧ a ≠ b ∧ xs.length ≤ 64 ∧ strayI xs = none ∧ ListI H l ln ∧ l ≠ b ∧ w ∈ words7 ∧ ln.length ≤ 5 ∧ valF w ln xs.length = false ∧
  ∀ H', Box H' b c → Mut b H H' → Q (.bl true) H'
def spBK : Sp := fun vs H Q _ => ∃ (b c l : Addr) (w : Str) (ln : List Int) (n : Nat), vs = [.ref b, .int (n : Int), .str w, .ref l] ∧ Box H b c ∧ ListI H l ln ∧ l ≠ b ∧ Fm w ln ∧ n ≤ 64 ∧ ∀ H', Box H' b c → Mut b H H' → Q (.bl true) H'
/-! ### lists of ints as data -/
def dI (xs : List Int) : PyData := .list (xs.map PyData.int)
theorem dpAll_I {K : PySem.W.Frag} {H : Hp} : ∀ xs : List Int, DpAll K H (xs.map V.int) (xs.map PyData.int)
  | [] => .nil
  | x :: xs => .cons (.int x) (dpAll_I xs)
theorem dp_I {K : PySem.W.Frag} {H : Hp} {a : Addr} {xs : List Int} (h : H a = some (.lst (xs.map V.int))) : Dp K H (.ref a) (dI xs) := .lst (SqL.of h) (dpAll_I xs)
theorem lay_I : ∀ xs : List Int, PyData.canLayAll0 (xs.map PyData.int) = true
  | [] => by simp [PyData.canLayAll0]
  | x :: xs => by
    simp only [List.map_cons, PyData.canLayAll0, PyData.canLay0, lay_I xs]
    rfl
theorem deep_I : ∀ xs : List Int, PyData.depthAll (xs.map PyData.int) ≤ 1
  | [] => by simp [PyData.depthAll]
  | x :: xs => by
    have := deep_I xs
    simp only [List.map_cons, PyData.depthAll, PyData.depth]
    omega
theorem canLay_I (xs : List Int) : PyData.canLay0 (dI xs) = true := by
  unfold dI
  simp only [PyData.canLay0]
  exact lay_I xs
theorem shaped_I (xs : List Int) : SeqAt.shaped (dI xs) = true := by
  have h2 : PyData.depth (dI xs) ≤ 64 := by
    have := deep_I xs
    unfold dI
    simp only [PyData.depth]
    omega
  unfold SeqAt.shaped
  rw [canLay_I, decide_eq_true h2]
  rfl
theorem eqvAll_I : ∀ xs ys : List Int, PyData.eqvAll (xs.map PyData.int) (ys.map PyData.int) = decide (xs = ys)
  | [], [] => by simp [PyData.eqvAll]
  | [], _ :: _ => by simp [PyData.eqvAll]
  | _ :: _, [] => by simp [PyData.eqvAll]
  | x :: xs, y :: ys => by
    have ih := eqvAll_I xs ys
    simp only [List.map_cons, PyData.eqvAll, PyData.eqv, ih]
    rw [Bool.eq_iff_iff]
    simp
theorem eqv_dI (xs ys : List Int) : PyData.eqv (dI xs) (dI ys) = decide (xs = ys) := by
  unfold dI
  simp only [PyData.eqv]
  exact eqvAll_I xs ys
theorem ne_self (v : V) : (!decide (v = v)) = false := by simp
/-! ### what a side is to show -/
theorem asc_uniq : ∀ {ps qs : List (Int × Int)}, Asc ps → Asc qs → (∀ x, x ∈ ps ↔ x ∈ qs) → ps = qs
  | [], [], _, _, _ => rfl
  | [], q :: qs, _, _, h => absurd ((h q).mpr List.mem_cons_self) (by simp)
  | p :: ps, [], _, _, h => absurd ((h p).mp List.mem_cons_self) (by simp)
  | p :: ps, q :: qs, hp, hq, h => by
    have hp' := List.pairwise_cons.mp hp
    have hq' := List.pairwise_cons.mp hq
    have e : p = q := by
      rcases List.mem_cons.mp ((h p).mp List.mem_cons_self) with e | m
      · exact e
      · rcases List.mem_cons.mp ((h q).mpr List.mem_cons_self) with e | m2
        · exact e.symm
        · have a1 := hq'.1 p m
          have a2 := hp'.1 q m2
          omega
    subst e
    refine congrArg (p :: ·) (asc_uniq hp'.2 hq'.2 fun x => ⟨fun m => ?_, fun m => ?_⟩)
    · rcases List.mem_cons.mp ((h x).mp (List.mem_cons_of_mem _ m)) with e | m2
      · have := hp'.1 x m
        rw [e] at this
        omega
      · exact m2
    · rcases List.mem_cons.mp ((h x).mpr (List.mem_cons_of_mem _ m)) with e | m2
      · have := hq'.1 x m
        rw [e] at this
        omega
      · exact m2
theorem asc_due (ln nm : List Int) : Asc (dueF ln nm) := by
  unfold dueF Asc
  rw [List.pairwise_map]
  refine (List.Pairwise.filter _ List.pairwise_lt_range).imp fun {a b} h => ?_
  show (a : Int) < (b : Int)
  omega
theorem due_len (ln nm : List Int) : (dueF ln nm).length ≤ 64 := by
  unfold dueF
  rw [List.length_map]
  exact Nat.le_trans (List.length_filter_le _ _) (by rw [List.length_range]; exact Nat.le_refl _)
theorem getD_of_lt {xs : List Int} {i : Nat} (h : i < xs.length) : xs.getD i 0 = xs[i] := by
  rw [List.getD_eq_getElem?_getD, List.getElem?_eq_getElem h]
  rfl
theorem idx_nd {ln : List Int} (nd : ln.Nodup) {i : Nat} (h : i < ln.length) : ln.idxOf ln[i] = i := by
  have h1 : ln.idxOf ln[i] < ln.length := List.idxOf_lt_length_of_mem (List.getElem_mem h)
  have h2 : ln[ln.idxOf ln[i]] = ln[i] := List.getElem_idxOf h1
  rw [List.nodup_iff_pairwise_ne, List.pairwise_iff_getElem] at nd
  rcases Nat.lt_trichotomy (ln.idxOf ln[i]) i with c | c | c
  · exact absurd h2 (nd _ _ h1 h c)
  · exact c
  · exact absurd h2.symm (nd _ _ h h1 c)
theorem mem_due {ln nm : List Int} (nd : ln.Nodup) (lo : ∀ x ∈ ln, 0 ≤ x ∧ x < 64) (hl : nm.length = ln.length) (x : Int × Int) : x ∈ dueF ln nm ↔ x ∈ ln.zip nm := by
  unfold dueF
  rw [List.mem_map]
  constructor
  · rintro ⟨n, hn, rfl⟩
    rw [List.mem_filter] at hn
    have hm := List.contains_iff_mem.mp hn.2
    have hi := List.idxOf_lt_length_of_mem hm
    rw [getD_of_lt (by omega), List.mem_iff_getElem]
    refine ⟨ln.idxOf (n : Int), by rw [List.length_zip]; omega, ?_⟩
    rw [List.getElem_zip, List.getElem_idxOf]
  · intro hx
    obtain ⟨i, hi, rfl⟩ := List.mem_iff_getElem.mp hx
    rw [List.length_zip] at hi
    have h1 : i < ln.length := by omega
    have l := lo ln[i] (List.getElem_mem h1)
    have e : ((ln[i].toNat : Nat) : Int) = ln[i] := by omega
    refine ⟨ln[i].toNat, List.mem_filter.mpr ⟨List.mem_range.mpr (by omega), by rw [e]; exact List.contains_iff_mem.mpr (List.getElem_mem h1)⟩, ?_⟩
    rw [e, idx_nd nd h1, getD_of_lt (by omega), List.getElem_zip]
theorem due_is {ln nm : List Int} {ps : List (Int × Int)} (nd : ln.Nodup) (lo : ∀ x ∈ ln, 0 ≤ x ∧ x < 64) (hl : nm.length = ln.length) (a : Asc ps) (p : ps.Perm (ln.zip nm)) : ps = dueF ln nm :=
  asc_uniq a (asc_due ln nm) fun x => p.mem_iff.trans (mem_due nd lo hl x).symm
theorem Fm.nm0 {w : Str} {ln : List Int} (h : Fm w ln) : (Pv.nm0 ln).length = ln.length := by cases h <;> rfl
theorem Fm.nm1 {w : Str} {ln : List Int} (h : Fm w ln) : (Pv.nm1 ln).length = ln.length := by cases h <;> rfl
theorem Fm.le4 {w : Str} {ln : List Int} (h : Fm w ln) : ln.length ≤ 4 := by cases h <;> simp
theorem Fm.w3 {w : Str} {ln : List Int} (h : Fm w ln) : w ∈ words3 := by cases h <;> simp [words3]
theorem Fm.pos {w : Str} {ln : List Int} (h : Fm w ln) : 0 < ln.length := by cases h <;> simp
theorem w37 {w : Str} (h : w ∈ words3) : w ∈ words7 := by
  unfold words3 at h
  unfold words7
  simp only [List.mem_cons, List.not_mem_nil, or_false] at h ⊢
  rcases h with h | h | h <;> simp [h]
/-- all of a side's pairs are shown -/
theorem all_shown {ln nm : List Int} {ps : List (Int × Int)} {g : Int → Int} (p : ps.Perm (ln.zip nm)) (hl : nm.length = ln.length) : (ps.all fun x => decide (g x.1 = x.2)) = decide (ln.map g = nm) := by
  rw [p.all_eq]
  clear p ps
  induction ln generalizing nm with
  | nil => cases nm with
    | nil => simp
    | cons _ _ => simp at hl
  | cons a ln ih => cases nm with
    | nil => simp at hl
    | cons b nm =>
      have := ih (nm := nm) (by simpa using hl)
      rw [List.zip_cons_cons, List.all_cons, this, List.map_cons, Bool.eq_iff_iff]
      simp
theorem nd_ix' {l : List Addr} (h : l.Nodup) {i j : Nat} {a : Addr} (hi : l[i]? = some a) (hj : l[j]? = some a) : i = j := by
  obtain ⟨h1, e1⟩ := List.getElem?_eq_some_iff.mp hi
  obtain ⟨h2, e2⟩ := List.getElem?_eq_some_iff.mp hj
  rw [List.nodup_iff_pairwise_ne, List.pairwise_iff_getElem] at h
  rcases Nat.lt_trichotomy i j with c | c | c
  · exact absurd (e1.trans e2.symm) (h i j h1 h2 c)
  · exact c
  · exact absurd (e2.trans e1.symm) (h j i h2 h1 c)
theorem ne_ix {l : List Addr} (h : l.Nodup) (i j : Nat) {a b : Addr} (ha : l[i]? = some a) (hb : l[j]? = some b) (hij : i ≠ j) : a ≠ b := fun z => hij (nd_ix' h ha (z ▸ hb))
theorem Fm.nm0_mem {w : Str} {ln : List Int} (h : Fm w ln) {x : Int} (hx : x ∈ Pv.nm0 ln) : x ∈ ln := by
  cases h
  all_goals
    simp only [Pv.nm0, List.mem_cons, List.not_mem_nil, or_false] at hx ⊢
    omega
theorem Fm.nm1_mem {w : Str} {ln : List Int} (h : Fm w ln) {x : Int} (hx : x ∈ Pv.nm1 ln) : x ∈ ln := by
  cases h
  all_goals
    simp only [Pv.nm1, List.mem_cons, List.not_mem_nil, or_false] at hx ⊢
    omega
theorem stray_none {xs : List Int} (h : ∀ x ∈ xs, 0 ≤ x ∧ x < (xs.length : Int)) : strayI xs = none := by
  refine firstOf_none fun k hk => ?_
  have := h xs[k] (List.getElem_mem hk)
  unfold badN
  rw [getD_of_lt hk, decide_eq_false (by omega), decide_eq_false (by omega)]
  rfl
theorem ixN_int {n : Nat} {i : Int} (h0 : 0 ≤ i) (h1 : i < (n : Int)) : ixN n i = some i.toNat := by
  obtain ⟨j, rfl⟩ := Int.eq_ofNat_of_zero_le h0
  exact Evl.ixN_nat (by omega)
theorem at_int {xs : List Int} {i : Int} (h0 : 0 ≤ i) (h1 : i < (xs.length : Int)) : atI (xs.map V.int) i = some (V.int (xs.getD i.toNat 0)) := by
  obtain ⟨j, rfl⟩ := Int.eq_ofNat_of_zero_le h0
  rw [at_map (xs := xs) (j := j) (by omega), Int.toNat_natCast, getD_of_lt (by omega)]
theorem set_rng {xs : List Int} {n v : Int} {j : Nat} (h : ∀ x ∈ xs, 0 ≤ x ∧ x < n) (hv : 0 ≤ v ∧ v < n) : ∀ x ∈ xs.set j v, 0 ≤ x ∧ x < n := fun x hx => by
  rcases List.mem_or_eq_of_mem_set hx with m | e
  · exact h x m
  · rw [e]
    exact hv
theorem word_at {d : Int} (d0 : 0 ≤ d) (d1 : d < 7) : ∃ w2 ∈ words7, atI [V.str "tie", V.str "move", V.str "cross", V.str "ties", V.str "", V.str "Move", V.str "free"] d = some (V.str w2) := by
  obtain ⟨d, rfl⟩ := Int.eq_ofNat_of_zero_le d0
  match d, d1 with
  | 0, _ => exact ⟨"tie", by simp [words7], rfl⟩
  | 1, _ => exact ⟨"move", by simp [words7], rfl⟩
  | 2, _ => exact ⟨"cross", by simp [words7], rfl⟩
  | 3, _ => exact ⟨"ties", by simp [words7], rfl⟩
  | 4, _ => exact ⟨"", by simp [words7], rfl⟩
  | 5, _ => exact ⟨"Move", by simp [words7], rfl⟩
  | 6, _ => exact ⟨"free", by simp [words7], rfl⟩
  | n + 7, h => omega
/-- what is put into a bent image is no record -/
theorem menu_bad {n d t : Int} (n0 : 0 < n) (d0 : 0 ≤ d) (t0 : 0 ≤ t) (t1 : t < 5) (h : n ≤ 64) : [-1, n, 0 - n, n + d, 10 ^ (20 : Int).toNat].getD t.toNat 0 < 0 ∨ n ≤ [-1, n, 0 - n, n + d, 10 ^ (20 : Int).toNat].getD t.toNat 0 := by
  obtain ⟨t, rfl⟩ := Int.eq_ofNat_of_zero_le t0
  have e : (10 : Int) ^ (20 : Int).toNat = 100000000000000000000 := by decide
  match t, t1 with
  | 0, _ => exact Or.inl (by show (-1 : Int) < 0; decide)
  | 1, _ => exact Or.inr (Int.le_refl _)
  | 2, _ => exact Or.inl (by show 0 - n < 0; omega)
  | 3, _ => exact Or.inr (by show n ≤ n + d; omega)
  | 4, _ => exact Or.inr (by show n ≤ 10 ^ (20 : Int).toNat; rw [e]; omega)
  | m + 5, h => omega
theorem stray_set {xs : List Int} {v : Int} {j : Nat} (h : j < xs.length) (hv : v < 0 ∨ (xs.length : Int) ≤ v) : strayI (xs.set j v) ≠ none := fun z => by
  have := firstOf_no z j (by rw [List.length_set]; exact h)
  unfold badN at this
  rw [getD_of_lt (by rw [List.length_set]; exact h), List.getElem_set_self, List.length_set, Bool.or_eq_false_iff] at this
  have a := of_decide_eq_false this.1
  have b := of_decide_eq_false this.2
  omega
theorem filter_first {p : Nat → Bool} {n k : Nat} (h : firstOf p n = some k) : ∃ r, (List.range n).filter p = k :: r := by
  unfold firstOf at h
  rw [← List.head?_filter] at h
  cases q : (List.range n).filter p with
  | nil => rw [q] at h; cases h
  | cons a r =>
    rw [q] at h
    cases h
    exact ⟨r, rfl⟩

end Pv

namespace Pv
open PySem L2 Evl Pm PySem.W
def spWl : Sp := fun vs H Q _ => ∃ i : Int, vs = [.int i] ∧ Q (.bl true) H
def spBg (K : PySem.W.Frag) : Sp := fun vs H Q _ => ∃ (a : Addr) (ns : List Int), vs = [.ref a] ∧ SqL K H a (ns.map V.int) ∧ ns.length ≤ 63 ∧ ∀ b c H', H b = none → H c = none → Ex H H' → Bx H' b c → Q (.ref b) H'
/-- a change: a word and its records -/
abbrev Chg := Str × List Int
def okC (c : Chg) : Prop := c.1 ∈ words7 ∧ c.2.length ≤ 5
/-- all tuples stay, plain ones and those with a known object -/
structure KpT (H H' : Hp) : Prop where
  p : ∀ x xs, H x = some (.tup xs) → H' x = some (.tup xs)
  f : ∀ x o xs, H x = some (.frz o (.tup xs)) → H' x = some (.frz o (.tup xs))
theorem KpT.rd {H H' : Hp} (k : KpT H H') {t : Addr} {xs : List V} (h : Rd H t (.tup xs)) : Rd H' t (.tup xs) := h.elim (fun z => .inl (k.p _ _ z)) fun ⟨o, z⟩ => .inr ⟨o, k.f _ _ _ z⟩
theorem KpT.of {H H' : Hp} (e : Ex H H') : KpT H H' := ⟨fun x xs q => e _ _ q, fun x o xs q => e _ _ q⟩
theorem KpT.mut {b c : Addr} {H H' : Hp} (B : Bx H b c) (M : Mut b H H') : KpT H H' := by
  obtain ⟨_, _, _, _, _, w, _⟩ := B
  exact ⟨fun x xs h => M _ _ (fun z => by rw [z, w] at h; cases h) h, fun x o xs h => M _ _ (fun z => by rw [z, w] at h; cases h) h⟩
theorem KpT.lst {r : Addr} {H : Hp} {us vs : List V} (h0 : H r = some (.lst us)) : KpT H (upd H r (.lst vs)) :=
  ⟨fun x xs h => by rw [upd_ne (fun z => by rw [z, h0] at h; cases h)]; exact h, fun x o xs h => by rw [upd_ne (fun z => by rw [z, h0] at h; cases h)]; exact h⟩
theorem KpT.trans {A B C : Hp} (x : KpT A B) (y : KpT B C) : KpT A C := ⟨fun a xs h => y.p _ _ (x.p _ _ h), fun a o xs h => y.f _ _ _ (x.f _ _ _ h)⟩
/-- a change at a -/
def CgAt (H : Hp) (a : Addr) (c : Chg) : Prop := ∃ t, H a = some (.tup [.str c.1, .ref t]) ∧ Rd H t (.tup (c.2.map V.int))
theorem CgAt.ch {K : PySem.W.Frag} {H : Hp} {a : Addr} {c : Chg} (h : CgAt H a c) : ChAt K H a c.1 c.2 := h
theorem CgAt.keep {H H' : Hp} {a : Addr} {c : Chg} (h : CgAt H a c) (k : KpT H H') : CgAt H' a c := by
  obtain ⟨t, h1, h2⟩ := h
  exact ⟨t, k.1 _ _ h1, k.rd h2⟩
theorem CgAt.ex {H H' : Hp} {a : Addr} {c : Chg} (e : Ex H H') (h : CgAt H a c) : CgAt H' a c := h.keep (KpT.of e)
/-- changes in a list -/
def CgsE (H : Hp) (ts : List Addr) (cs : List Chg) : Prop := ts.length = cs.length ∧ ∀ (i : Nat) (t : Addr) (c : Chg), ts[i]? = some t → cs[i]? = some c → CgAt H t c ∧ okC c
def CgsL (H : Hp) (r : Addr) (cs : List Chg) : Prop := ∃ ts : List Addr, H r = some (.lst (ts.map V.ref)) ∧ CgsE H ts cs
theorem CgsE.keep {H H' : Hp} {ts : List Addr} {cs : List Chg} (h : CgsE H ts cs) (k : KpT H H') : CgsE H' ts cs :=
  ⟨h.1, fun i t c a b => ⟨(h.2 i t c a b).1.keep k, (h.2 i t c a b).2⟩⟩
theorem CgsE.ex {H H' : Hp} {ts : List Addr} {cs : List Chg} (e : Ex H H') (h : CgsE H ts cs) : CgsE H' ts cs := h.keep (KpT.of e)
theorem CgsL.ex {H H' : Hp} {r : Addr} {cs : List Chg} (e : Ex H H') (h : CgsL H r cs) : CgsL H' r cs := by
  obtain ⟨ts, h1, h2⟩ := h
  exact ⟨ts, e _ _ h1, h2.ex e⟩
/-- pool and order: all things go over one by one -/
def spSf2 : Sp := fun vs H Q _ => ∃ (b c l : Addr) (xs : List V), vs = [.ref b, .ref l] ∧ H l = some (.lst xs) ∧ xs.length ≤ 70 ∧ l ≠ b ∧ Bx H b c ∧ ∀ p ys H', H p = none → Bx H' b c → Mut b H H' → H' p = some (.lst ys) → ys.Perm xs → Q (.ref p) H'
def spSz2 : Sp := fun vs H Q _ => ∃ (b c : Addr) (most : Nat), vs = [.ref b, .int (most : Int)] ∧ most ≤ 64 ∧ Bx H b c ∧ ∀ (n : Nat) H', n ≤ 64 → Bx H' b c → Mut b H H' → Q (.int (n : Int)) H'
/-- a right state, its size given -/
structure StN (R : List Nat) (n : Nat) : Prop where
  len : R.length = n
  lt : ∀ j, j < n → gt R j < n
  bk : ∀ j, j < n → gt R (gt R j) = j
def spSt2 : Sp := fun vs H Q _ => ∃ (b c : Addr) (n : Nat), vs = [.ref b, .int (n : Int)] ∧ n ≤ 64 ∧ Bx H b c ∧ ∀ p R H', H p = none → Bx H' b c → Mut b H H' → ListN H' p R → StN R n → Q (.ref p) H'
def spCir : Sp := fun vs H Q _ => ∃ (t : Addr) (xs : List Int), vs = [.ref t] ∧ FrT.Fz H t (xs.map V.int) ∧ xs.length = 4 ∧ ∀ p (ys : List Int) H', Ex H H' → Rd H' p (.tup (ys.map V.int)) → ys.length = 4 → Q (.ref p) H'
theorem seq_nat {d n : Nat} (h : d < n) : seqIndex? (d : Int) n = some d := by
  unfold seqIndex?
  have h0 : ¬ ((d : Int) < 0) := by omega
  have h1 : (decide (0 ≤ (d : Int)) && decide ((d : Int) < (n : Int))) = true := by
    rw [decide_eq_true (by omega), decide_eq_true (by omega)]
    rfl
  simp only [h0, if_false, h1, if_true, Int.toNat_natCast]
/-- the first place of an int in a row that has it -/
theorem first_at {xs : List Int} {z : Int} (h : z ∈ xs) : ∃ j, j < xs.length ∧ xs[j]? = some z ∧ ∀ m y, m < j → xs[m]? = some y → y ≠ z := by
  induction xs with
  | nil => cases h
  | cons x xs ih =>
    by_cases e : x = z
    · exact ⟨0, by simp, by rw [e]; rfl, fun m y hm => absurd hm (Nat.not_lt_zero m)⟩
    · obtain ⟨j, h1, h2, h3⟩ := ih (by
        rcases List.mem_cons.mp h with q | q
        · exact absurd q.symm e
        · exact q)
      refine ⟨j + 1, by rw [List.length_cons]; omega, h2, fun m y hm hy => ?_⟩
      cases m with
      | zero =>
        cases hy
        exact e
      | succ m => exact h3 m y (by omega) hy
theorem catA_go {K : PySem.W.Frag} {H : Hp} {a b : Addr} {xs ys : List V} {Q : VK} (ha : Rd H a (.tup xs)) (hb : Rd H b (.tup ys)) (hz : xs.length + ys.length ≤ 1000) (k : ∀ p H', Ex H H' → Rd H' p (.tup (xs ++ ys)) → Q (.ref p) H') : rCatA K (.ref a) (.ref b) H Q := by
  refine ⟨a, b, xs, ys, rfl, rfl, .inl ha, .inl hb, Nat.le_trans hz (by decide), fun e => ?_, fun _ e => ?_, fun _ _ p hp => k p _ (Ex.new hp) (.inl upd_same)⟩
  · subst e
    exact k b H (Ex.refl H) hb
  · subst e
    exact k a H (Ex.refl H) (by rw [List.append_nil]; exact ha)
theorem slA_go {K : PySem.W.Frag} {H : Hp} {a : Addr} {xs : List V} {lo hi : Option Int} {Q : VK} (ha : Rd H a (.tup xs)) (k : ∀ p H', Ex H H' → Rd H' p (.tup (cutV xs lo hi)) → Q (.ref p) H') : rSlA K (.ref a) lo hi H Q := by
  refine ⟨a, xs, rfl, .inl ha, fun e => k a H (Ex.refl H) ?_, fun _ p hp => k p _ (Ex.new hp) (.inl upd_same)⟩
  have : cutV xs lo hi = xs := by
    unfold cutV
    rw [e.1, e.2, Nat.sub_zero, List.drop_zero, List.take_length]
  rw [this]
  exact ha
theorem cut_sub {xs : List Int} {lo hi : Option Int} : ∃ ys : List Int, cutV (xs.map V.int) lo hi = ys.map V.int ∧ ys.length ≤ xs.length := by
  unfold cutV
  refine ⟨(xs.drop (HT.sIx (xs.map V.int).length 0 lo)).take (HT.sIx (xs.map V.int).length (xs.map V.int).length hi - HT.sIx (xs.map V.int).length 0 lo), ?_, ?_⟩
  · rw [List.map_take, List.map_drop]
  · rw [List.length_take, List.length_drop]
    omega
def spAny : Sp := fun vs H Q _ => ∃ (b c : Addr) (n : Nat), vs = [.ref b, .int (n : Int)] ∧ n ≤ 64 ∧ Bx H b c ∧ ∀ p cg H', H p = none → Bx H' b c → Mut b H H' → CgAt H' p cg → okC cg → cg.2.length ≤ 4 → Q (.ref p) H'
/-- a unit: one record or two that show each other -/
def UnAt (H : Hp) (t : Addr) (ns : List Int) : Prop := H t = some (.tup (ns.map V.int))
def spMe : Sp := fun vs H Q _ => ∃ (t u : Addr) (xs ys : List Int) (k : Nat), vs = [.ref t, .ref u, .int (k : Int)] ∧ UnAt H t xs ∧ UnAt H u ys ∧ (xs.length = 1 ∨ xs.length = 2) ∧ ys.length ≤ 2 ∧
  ∀ p q m H', H p = none → Ex H H' → H' p = some (.lst [.ref q, .int m]) → (m = 1 ∨ m = 2) → (H' q = some (.tup []) ∨ ∃ cg, CgAt H' q cg ∧ okC cg ∧ cg.2.length ≤ 4) → Q (.ref p) H'
theorem le2 {ys : List Int} (h : ys.length ≤ 2) : ys = [] ∨ (∃ y0, ys = [y0]) ∨ ∃ y0 y1, ys = [y0, y1] := by
  match ys, h with
  | [], _ => exact .inl rfl
  | [y0], _ => exact .inr (.inl ⟨_, rfl⟩)
  | [y0, y1], _ => exact .inr (.inr ⟨_, _, rfl⟩)
theorem ge1 {xs : List Int} (h : xs.length = 1 ∨ xs.length = 2) : (∃ x0, xs = [x0]) ∨ ∃ x0 x1, xs = [x0, x1] := by
  match xs, h with
  | [x0], _ => exact .inl ⟨_, rfl⟩
  | [x0, x1], _ => exact .inr ⟨_, _, rfl⟩
theorem Mut.ext {b : Addr} {H H1 H2 : Hp} (x : Mut b H H1) (e : Ex H1 H2) : Mut b H H2 := fun a o n h => e _ _ (x a o n h)
/-- sorted of a tuple of ints: ints again, as many -/
theorem sortI {K : PySem.W.Frag} {H : Hp} {t : Addr} {ws : List Int} (hs : SqT K H t (ws.map V.int)) : ∃ (bs : List (V × PyData)) (vs : List Int), SqT K H t (bs.map Prod.fst) ∧ (∀ b ∈ bs, Dp K H b.1 b.2 ∧ b.2.depth ≤ 60) ∧ AllAlike (bs.map Prod.snd) ∧ Sortable (bs.map Prod.snd) ∧ (bs.mergeSort (dataLe false Prod.snd)).map Prod.fst = vs.map V.int ∧ vs.length = ws.length := by
  have e1 : (ws.map fun z => (V.int z, PyData.int z)).map Prod.fst = ws.map V.int := by rw [List.map_map]; rfl
  have e2 : ((ws.map fun z => (V.int z, PyData.int z)).mergeSort (dataLe false Prod.snd)).map Prod.fst = (ws.mergeSort fun a b => !dataLt (PyData.int b) (PyData.int a)).map V.int := by
    have := (sort_maps (l := ws) (r := fun a b => !dataLt (PyData.int b) (PyData.int a)) (s := dataLe false Prod.snd) (fun z : Int => (V.int z, PyData.int z)) fun a _ b _ => rfl)
    rw [← this, List.map_map]
    rfl
  refine ⟨ws.map fun z => (V.int z, PyData.int z), ws.mergeSort fun a b => !dataLt (PyData.int b) (PyData.int a), by rw [e1]; exact hs, fun b hb => ?_, ?_, ?_, e2, (List.mergeSort_perm ..).length_eq⟩
  · obtain ⟨z, _, rfl⟩ := List.mem_map.mp hb
    exact ⟨.int z, by simp [PyData.depth]⟩
  · rw [List.map_map]
    intro d hd d' hd'
    obtain ⟨y, _, rfl⟩ := List.mem_map.mp hd
    obtain ⟨y', _, rfl⟩ := List.mem_map.mp hd'
    simp [alike]
  · rw [List.map_map]
    refine .inr fun d hd => ?_
    obtain ⟨y, _, rfl⟩ := List.mem_map.mp hd
    exact ⟨(fun z => by cases z), (fun xs z => by cases z)⟩
theorem tail3 {ws : List Int} (h : ws.length ≤ 4) : ∃ vs : List Int, cutV (ws.map V.int) (some (1 : Int)) none = vs.map V.int ∧ vs.length ≤ 3 := by
  by_cases c : 1 ≤ ws.length
  · exact ⟨ws.drop 1, cut_drop c, by rw [List.length_drop]; omega⟩
  · obtain ⟨vs, e, l⟩ := cut_sub (xs := ws) (lo := some (1 : Int)) (hi := none)
    exact ⟨vs, e, by omega⟩
theorem cut5 {ws : List Int} (h : ws.length ≤ 4) : (∃ vs : List Int, cutV (ws.map V.int) none (some (-2 : Int)) = vs.map V.int ∧ vs.length ≤ 2) ∧ (∃ vs : List Int, cutV (ws.map V.int) (some (-2 : Int)) none = vs.map V.int ∧ vs.length ≤ 2) ∧ (∃ vs : List Int, cutV (ws.map V.int) none (some (-1 : Int)) = vs.map V.int ∧ vs.length ≤ 3) ∧ (∃ vs : List Int, cutV (ws.map V.int) (some (1 : Int)) none = vs.map V.int ∧ vs.length ≤ 3) ∧ (∃ vs : List Int, cutV (ws.map V.int) none (some (1 : Int)) = vs.map V.int ∧ vs.length ≤ 1) := by
  match ws, h with
  | [], _ => exact ⟨⟨[], rfl, by decide⟩, ⟨[], rfl, by decide⟩, ⟨[], rfl, by decide⟩, ⟨[], rfl, by decide⟩, ⟨[], rfl, by decide⟩⟩
  | [a], _ => exact ⟨⟨[], rfl, by decide⟩, ⟨[a], rfl, by show 1 ≤ 2; decide⟩, ⟨[], rfl, by decide⟩, ⟨[], rfl, by decide⟩, ⟨[a], rfl, by show 1 ≤ 1; decide⟩⟩
  | [a, b], _ => exact ⟨⟨[], rfl, by decide⟩, ⟨[a, b], rfl, by show 2 ≤ 2; decide⟩, ⟨[a], rfl, by show 1 ≤ 3; decide⟩, ⟨[b], rfl, by show 1 ≤ 3; decide⟩, ⟨[a], rfl, by show 1 ≤ 1; decide⟩⟩
  | [a, b, c], _ => exact ⟨⟨[a], rfl, by show 1 ≤ 2; decide⟩, ⟨[b, c], rfl, by show 2 ≤ 2; decide⟩, ⟨[a, b], rfl, by show 2 ≤ 3; decide⟩, ⟨[b, c], rfl, by show 2 ≤ 3; decide⟩, ⟨[a], rfl, by show 1 ≤ 1; decide⟩⟩
  | [a, b, c, d], _ => exact ⟨⟨[a, b], rfl, by show 2 ≤ 2; decide⟩, ⟨[c, d], rfl, by show 2 ≤ 2; decide⟩, ⟨[a, b, c], rfl, by show 3 ≤ 3; decide⟩, ⟨[b, c, d], rfl, by show 3 ≤ 3; decide⟩, ⟨[a], rfl, by show 1 ≤ 1; decide⟩⟩
def spOd : Sp := fun vs H Q _ => ∃ (b c l : Addr) (n : Nat) (ts : List Addr) (cs : List Chg), vs = [.ref b, .int (n : Int), .ref l] ∧ n ≤ 64 ∧ Bx H b c ∧ l ≠ b ∧ H l = some (.lst (ts.map V.ref)) ∧ CgsE H ts cs ∧ (∀ x ∈ cs, x.2.length ≤ 4) ∧ ts.length ≤ 1000 ∧ ∀ p cg H', Bx H' b c → Mut b H H' → CgAt H' p cg → okC cg → Q (.ref p) H'
theorem gtq_set {R : List Nat} {i v j : Nat} (h : i < R.length) : gt (R.set i v) j = if i = j then v else gt R j := by
  unfold gt
  rw [List.getD_eq_getElem?_getD, List.getD_eq_getElem?_getD, List.getElem?_set]
  by_cases c : i = j
  · subst c
    rw [if_pos rfl, if_pos rfl, if_pos h]
    rfl
  · rw [if_neg c, if_neg c]
theorem set2_gt {R : List Nat} {n a b j : Nat} (s : StN R n) (ha : a < n) (hb : b < n) : gt ((R.set a b).set b a) j = if b = j then a else if a = j then b else gt R j := by
  have l := s.len
  rw [gtq_set (by rw [List.length_set]; omega), gtq_set (by omega)]
theorem set2_st {R : List Nat} {n a b : Nat} (s : StN R n) (ha : a < n) (hb : b < n) (ne : a ≠ b) (fa : gt R a = a) (fb : gt R b = b) : StN ((R.set a b).set b a) n := by
  have l := s.len
  refine ⟨by rw [List.length_set, List.length_set]; exact l, fun j hj => ?_, fun j hj => ?_⟩
  · rw [set2_gt s ha hb]
    split
    · exact ha
    · split
      · exact hb
      · exact s.lt j hj
  · rw [set2_gt s ha hb, set2_gt s ha hb]
    by_cases c1 : b = j
    · rw [if_pos c1, if_neg (by omega), if_pos rfl]
      exact c1
    · rw [if_neg c1]
      by_cases c2 : a = j
      · rw [if_pos c2, if_pos rfl]
        exact c2
      · rw [if_neg c2]
        have h1 := s.bk j hj
        rw [if_neg (fun z => c1 (by rw [← z, fb] at h1; exact h1)), if_neg (fun z => c2 (by rw [← z, fa] at h1; exact h1))]
        exact h1
theorem stN_range {n : Nat} : StN (List.range n) n := by
  have g : ∀ j, j < n → gt (List.range n) j = j := fun j h => by
    unfold gt
    rw [List.getD_eq_getElem?_getD, List.getElem?_range h]
    rfl
  exact ⟨List.length_range, fun j h => by rw [g j h]; exact h, fun j h => by rw [g j h, g j h]⟩
theorem gtq_range {n j : Nat} (h : j < n) : gt (List.range n) j = j := by
  unfold gt
  rw [List.getD_eq_getElem?_getD, List.getElem?_range h]
  rfl
theorem nats_of {ys : List V} {O : List Nat} (p : ys.Perm (nI O)) : ∃ zs : List Nat, ys = nI zs ∧ zs.Perm O := by
  have all : ∀ y ∈ ys, ∃ z : Nat, y = V.int (z : Int) := fun y hy => by
    obtain ⟨x, _, e⟩ := List.mem_map.mp (p.mem_iff.mp hy)
    exact ⟨_, e.symm⟩
  have ex : ∃ zs : List Nat, ys = nI zs := by
    clear p
    induction ys with
    | nil => exact ⟨[], rfl⟩
    | cons y ys ih =>
      obtain ⟨z, e⟩ := all y (List.mem_cons_self ..)
      obtain ⟨zs, e2⟩ := ih fun y hy => all y (List.mem_cons_of_mem _ hy)
      exact ⟨z :: zs, by rw [e, e2]; rfl⟩
  obtain ⟨zs, rfl⟩ := ex
  refine ⟨zs, rfl, ?_⟩
  have h : ∀ l : List Nat, (nI l).map (fun v => match v with | V.int i => i.toNat | _ => 0) = l := fun l => by
    unfold nI
    rw [List.map_map]
    exact (List.map_congr_left fun x _ => by simp).trans (List.map_id l)
  have := p.map (fun v => match v with | V.int i => i.toNat | _ => 0)
  rw [h, h] at this
  exact this
theorem nd_gt {O : List Nat} (nd : O.Nodup) {i j : Nat} (hi : i < O.length) (hj : j < O.length) (h : gt O i = gt O j) : i = j := by
  have g : ∀ k (hk : k < O.length), O[k]? = some (gt O k) := fun k hk => by
    unfold gt
    rw [List.getD_eq_getElem?_getD, List.getElem?_eq_getElem hk]
    rfl
  exact (List.getElem?_inj hi nd).mp (by rw [g i hi, g j hj, h])
/-- units at us -/
def UnsE (H : Hp) (us : List Addr) : Prop := ∀ u ∈ us, ∃ xs, UnAt H u xs ∧ (xs.length = 1 ∨ xs.length = 2)
theorem UnsE.keep {H H' : Hp} {us : List Addr} (h : UnsE H us) (k : KpT H H') : UnsE H' us := fun u hu => by
  obtain ⟨xs, a, b⟩ := h u hu
  exact ⟨xs, k.p _ _ a, b⟩
theorem refs_of {ys : List V} {us : List Addr} (p : ys.Perm (us.map V.ref)) : ∃ ws : List Addr, ys = ws.map V.ref ∧ ws.length = us.length ∧ ∀ w ∈ ws, w ∈ us := by
  have all : ∀ y ∈ ys, ∃ z, z ∈ us ∧ y = V.ref z := fun y hy => by
    obtain ⟨x, hx, e⟩ := List.mem_map.mp (p.mem_iff.mp hy)
    exact ⟨x, hx, e.symm⟩
  have len : ys.length = us.length := by rw [p.length_eq, List.length_map]
  have ex : ∃ ws : List Addr, ys = ws.map V.ref ∧ ∀ w ∈ ws, w ∈ us := by
    clear p len
    induction ys with
    | nil => exact ⟨[], rfl, fun w h => by cases h⟩
    | cons y ys ih =>
      obtain ⟨z, zm, e⟩ := all y (List.mem_cons_self ..)
      obtain ⟨zs, e2, m2⟩ := ih fun y hy => all y (List.mem_cons_of_mem _ hy)
      refine ⟨z :: zs, by rw [e, e2]; rfl, fun w hw => ?_⟩
      rcases List.mem_cons.mp hw with q | q
      · rw [q]; exact zm
      · exact m2 w q
  obtain ⟨ws, e, m⟩ := ex
  refine ⟨ws, e, ?_, m⟩
  rw [e, List.length_map] at len
  exact len
def spGd : Sp := fun vs H Q _ => ∃ (b c l : Addr) (R : List Nat) (n : Nat), vs = [.ref b, .ref l] ∧ ListN H l R ∧ StN R n ∧ n ≤ 64 ∧ l ≠ b ∧ Bx H b c ∧ ∀ p ts cs H', H p = none → Bx H' b c → Mut b H H' → H' p = some (.lst (ts.map V.ref)) → CgsE H' ts cs → (∀ x ∈ cs, x.2.length ≤ 4) → ts.length ≤ 64 → Q (.ref p) H'
theorem cgs_snoc {H : Hp} {ts : List Addr} {cs : List Chg} {t : Addr} {cg : Chg} (h : CgsE H ts cs) (h1 : CgAt H t cg) (h2 : okC cg) : CgsE H (ts ++ [t]) (cs ++ [cg]) := by
  refine ⟨by rw [List.length_append, List.length_append, h.1]; rfl, fun i a d hi hd => ?_⟩
  by_cases c : i < ts.length
  · rw [List.getElem?_append_left c] at hi
    rw [List.getElem?_append_left (by rw [← h.1]; exact c)] at hd
    exact h.2 i a d hi hd
  · rw [List.getElem?_append_right (by omega)] at hi
    rw [List.getElem?_append_right (by rw [← h.1]; omega)] at hd
    have il : i = ts.length := by
      have := (List.getElem?_eq_some_iff.mp hi).1
      simp only [List.length_singleton] at this
      omega
    rw [il, Nat.sub_self] at hi
    rw [il, h.1, Nat.sub_self] at hd
    cases hi
    cases hd
    exact ⟨h1, h2⟩
def encC (c : Chg) : PyData := .tuple [.str c.1, .tuple (c.2.map PyData.int)]
theorem dp_cg {K : PySem.W.Frag} {H : Hp} {a : Addr} {c : Chg} (h : CgAt H a c) : Dp K H (.ref a) (encC c) := by
  obtain ⟨t, h1, h2⟩ := h
  exact .tup (SqT.of h1) (.cons (.str _) (.cons (.tup (.inl h2) (dpAll_I _)) .nil))
theorem ok7 : words7.all PyData.strOk = true := by decide +kernel
theorem shaped_cg {c : Chg} (ok : okC c) : SeqAt.shaped (encC c) = true := by
  have h2 : PyData.depth (encC c) ≤ 64 := by
    have := deep_I c.2
    unfold encC
    simp only [PyData.depth, PyData.depthAll]
    omega
  have h1 : PyData.canLay0 (encC c) = true := by
    unfold encC
    simp only [PyData.canLay0, PyData.canLayAll0, lay_I, List.all_eq_true.mp ok7 _ ok.1]
    rfl
  unfold SeqAt.shaped
  rw [h1, decide_eq_true h2]
  rfl
theorem eqv_cg0 (c : Chg) : PyData.eqv (encC c) (.tuple []) = false := rfl
def spBn : Sp := fun vs H Q _ => ∃ (b c l s : Addr) (R : List Nat) (n : Nat) (ts : List Addr) (cs : List Chg), vs = [.ref b, .ref l, .ref s] ∧ ListN H l R ∧ StN R n ∧ n ≤ 64 ∧ l ≠ b ∧ s ≠ b ∧ Bx H b c ∧ H s = some (.lst (ts.map V.ref)) ∧ CgsE H ts cs ∧ (∀ x ∈ cs, x.2.length ≤ 4) ∧ ts.length ≤ 64 ∧
  ∀ p us ds H', H p = none → Bx H' b c → Mut b H H' → H' p = some (.lst (us.map V.ref)) → CgsE H' us ds → us.length ≤ 200 → Q (.ref p) H'
theorem cgs_app {H : Hp} {ts us : List Addr} {cs ds : List Chg} (h : CgsE H ts cs) (g : CgsE H us ds) : CgsE H (ts ++ us) (cs ++ ds) := by
  refine ⟨by rw [List.length_append, List.length_append, h.1, g.1], fun i a d hi hd => ?_⟩
  by_cases c : i < ts.length
  · rw [List.getElem?_append_left c] at hi
    rw [List.getElem?_append_left (by rw [← h.1]; exact c)] at hd
    exact h.2 i a d hi hd
  · rw [List.getElem?_append_right (by omega)] at hi
    rw [List.getElem?_append_right (by rw [← h.1]; omega), ← h.1] at hd
    exact g.2 _ a d hi hd
theorem cgs_take {H : Hp} {ts : List Addr} {cs : List Chg} (h : CgsE H ts cs) (k : Nat) : CgsE H (ts.take k) (cs.take k) :=
  ⟨by rw [List.length_take, List.length_take, h.1], fun i a d hi hd => by
    rw [List.getElem?_take] at hi hd
    split at hi
    · rw [if_pos (by assumption)] at hd
      exact h.2 i a d hi hd
    · cases hi⟩
theorem cgs_drop {H : Hp} {ts : List Addr} {cs : List Chg} (h : CgsE H ts cs) (k : Nat) : CgsE H (ts.drop k) (cs.drop k) :=
  ⟨by rw [List.length_drop, List.length_drop, h.1], fun i a d hi hd => by
    rw [List.getElem?_drop] at hi hd
    exact h.2 _ a d hi hd⟩
theorem cgs_ins {H : Hp} {ts : List Addr} {cs : List Chg} {t : Addr} {cg : Chg} (h : CgsE H ts cs) (k : Nat) (h1 : CgAt H t cg) (h2 : okC cg) : CgsE H (ts.take k ++ [t] ++ ts.drop k) (cs.take k ++ [cg] ++ cs.drop k) := cgs_app (cgs_snoc (cgs_take h k) h1 h2) (cgs_drop h k)
def spSm : Sp := fun vs H Q _ => ∃ (t d : Addr) (xs : List Int), vs = [.ref t, .ref d] ∧ ListI H t xs ∧ ListI H d xs ∧ xs.length ≤ 70 ∧ Q (.bl true) H
/-- what the law awaits of a row that is no state -/
def spTd : Sp := fun vs H Q _ => ∃ (l : Addr) (xs : List Int), vs = [.ref l] ∧ ListI H l xs ∧ xs.length ≤ 65 ∧
  (∀ k, faultS xs = some (1, k) → ∀ t H', Ex H H' → H' t = some (.tup [.str "image", .int (k : Int)]) → Q (.ref t) H') ∧ (∀ k, faultS xs = some (2, k) → ∀ t H', Ex H H' → H' t = some (.tup [.str "unsettled", .int (k : Int)]) → Q (.ref t) H') ∧ (faultS xs = none → ∀ t H', Ex H H' → H' t = some (.tup []) → Q (.ref t) H')
def spBr : Sp := fun vs H Q _ => ∃ (b c l : Addr) (xs : List Int), vs = [.ref b, .ref l] ∧ ListI H l xs ∧ xs.length ≤ 64 ∧ l ≠ b ∧ Bx H b c ∧ ∀ p ys H', H p = none → Bx H' b c → Mut b H H' → ListI H' p ys → ys.length = xs.length → Q (.ref p) H'
def spVa : Sp := fun vs H Q _ => ∃ (a : Addr) (cg : Chg) (n : Nat), vs = [.ref a, .int (n : Int)] ∧ CgAt H a cg ∧ okC cg ∧ n ≤ 64 ∧ ∀ H', Ex H H' → Q (.bl (valF cg.1 cg.2 (n : Int))) H'
theorem okLen_w2 {w : Str} {m : Nat} (h : w = "tie") (n : ¬ m = 2) : okLen w m = false := by
  subst h
  unfold okLen
  rw [show (m == 2) = false from beq_eq_false_iff_ne.mpr n]
  rfl
theorem okLen_w3 {w : Str} {m : Nat} (h : w = "move") (n : ¬ m = 3) : okLen w m = false := by
  subst h
  unfold okLen
  rw [show (m == 3) = false from beq_eq_false_iff_ne.mpr n]
  rfl
theorem okLen_w4 {w : Str} {m : Nat} (h : w = "cross") (n : ¬ m = 4) : okLen w m = false := by
  subst h
  unfold okLen
  rw [show (m == 4) = false from beq_eq_false_iff_ne.mpr n]
  rfl
def PrZ (H : Hp) : List Addr → List (Int × Int) → Prop
  | [], [] => True
  | t :: ts, p :: ps => H t = some (.tup [.int p.1, .int p.2]) ∧ PrZ H ts ps
  | _, _ => False
theorem PrZ.at {H : Hp} : ∀ {ts : List Addr} {ps : List (Int × Int)}, PrZ H ts ps → ts.length = ps.length ∧ ∀ (i : Nat) (t : Addr) (p : Int × Int), ts[i]? = some t → ps[i]? = some p → H t = some (.tup [.int p.1, .int p.2])
  | [], [], _ => ⟨rfl, fun i t p h => by cases h⟩
  | [], _ :: _, h => h.elim
  | _ :: _, [], h => h.elim
  | t :: ts, p :: ps, h => by
    have r := PrZ.at h.2
    refine ⟨congrArg (· + 1) r.1, fun i t' p' h1 h2 => ?_⟩
    match i with
    | 0 =>
      rw [← Option.some.inj h1, ← Option.some.inj h2]
      exact h.1
    | i + 1 => exact r.2 i t' p' h1 h2
theorem PrZ.ex {H H' : Hp} (e : Ex H H') : ∀ {ts : List Addr} {ps : List (Int × Int)}, PrZ H ts ps → PrZ H' ts ps
  | [], [], _ => trivial
  | [], _ :: _, h => h.elim
  | _ :: _, [], h => h.elim
  | _ :: _, _ :: _, h => ⟨e _ _ h.1, PrZ.ex e h.2⟩
def PrAt (H : Hp) (l : Addr) (ps : List (Int × Int)) : Prop := ∃ ts : List Addr, H l = some (.lst (ts.map V.ref)) ∧ PrZ H ts ps
theorem PrAt.ex {H H' : Hp} (e : Ex H H') {l : Addr} {ps : List (Int × Int)} : PrAt H l ps → PrAt H' l ps := fun ⟨ts, h, z⟩ => ⟨ts, e _ _ h, z.ex e⟩
def NmAt (H : Hp) (l : Addr) (ln : List Int) : Prop := ∃ (l0 l1 : Addr) (p0 p1 : List (Int × Int)), H l = some (.lst [.ref l0, .ref l1]) ∧ PrAt H l0 p0 ∧ PrAt H l1 p1 ∧ p0.Perm (ln.zip (nm0 ln)) ∧ p1.Perm (ln.zip (nm1 ln))
theorem NmAt.ex {H H' : Hp} (e : Ex H H') {l : Addr} {ln : List Int} : NmAt H l ln → NmAt H' l ln := fun ⟨l0, l1, p0, p1, h, h0, h1, q0, q1⟩ => ⟨l0, l1, p0, p1, e _ _ h, h0.ex e, h1.ex e, q0, q1⟩
theorem fm_cases {w : Str} {ln : List Int} (h : Fm w ln) : (∃ x0 x1, w = "tie" ∧ ln = [x0, x1]) ∨ (∃ x0 x1 x2, w = "move" ∧ ln = [x0, x1, x2]) ∨ ∃ x0 x1 x2 x3, w = "cross" ∧ ln = [x0, x1, x2, x3] := by
  cases h with
  | tie a b => exact .inl ⟨a, b, rfl, rfl⟩
  | move a b c => exact .inr (.inl ⟨a, b, c, rfl, rfl⟩)
  | cross a b c d => exact .inr (.inr ⟨a, b, c, d, rfl, rfl⟩)
def spNm : Sp := fun vs H Q _ => ∃ (a : Addr) (cg : Chg), vs = [.ref a] ∧ CgAt H a cg ∧ okLen cg.1 cg.2.length = true ∧ ∀ p H', H p = none → Ex H H' → NmAt H' p cg.2 → Q (.ref p) H'
theorem zip_map {f : Int → Int} : ∀ {ln ys : List Int}, ys.length = ln.length → ((∀ p ∈ ln.zip ys, f p.1 = p.2) ↔ ln.map f = ys)
  | [], [], _ => ⟨fun _ => rfl, fun _ p h => by cases h⟩
  | [], _ :: _, h => by cases h
  | _ :: _, [], h => by cases h
  | x :: ln, y :: ys, h => by
    have r := zip_map (f := f) (ln := ln) (ys := ys) (Nat.succ.inj h)
    rw [List.zip_cons_cons, List.map_cons]
    constructor
    · intro a
      rw [r.1 (fun p hp => a p (List.mem_cons_of_mem _ hp)), a (x, y) (List.mem_cons_self ..)]
    · intro e p hp
      injection e with e1 e2
      rcases List.mem_cons.1 hp with q | q
      · rw [q]; exact e1
      · exact r.2 e2 p q
def sdI (xs ln : List Int) : Int := if shF xs ln = nm0 ln then 0 else if shF xs ln = nm1 ln then 1 else 2
def spSd : Sp := fun vs H Q _ => ∃ (l : Addr) (xs : List Int) (a : Addr) (cg : Chg), vs = [.ref l, .ref a] ∧ ListI H l xs ∧ CgAt H a cg ∧ valF cg.1 cg.2 (xs.length : Int) = true ∧ xs.length ≤ 64 ∧ ∀ H', Ex H H' → Q (.int (sdI xs cg.2)) H'
/-- the names that a change has at the other side -/
def oth (xs ln : List Int) : List Int := if shF xs ln = nm0 ln then nm1 ln else nm0 ln
def okR (xs : List Int) (c : Chg) : Bool := valF c.1 c.2 (xs.length : Int) && decide (sdI xs c.2 ≠ 2)
def tmF (cs : List Chg) (j : Nat) : Nat := (cs.filter fun c => decide ((j : Int) ∈ c.2)).length
/-- what a row shows after changes: order-free where no record is held twice -/
structure RchF (xs : List Int) (cs : List Chg) (zs : List Int) : Prop where
  len : zs.length = xs.length
  out : ∀ j, j < xs.length → tmF cs j = 0 → zs.getD j 0 = xs.getD j 0
  inn : ∀ j c p, tmF cs j = 1 → c ∈ cs → p ∈ c.2.zip (oth xs c.2) → p.1 = (j : Int) → zs.getD j 0 = p.2
def spRo : Sp := fun vs H Q _ => ∃ (l : Addr) (xs : List Int) (r : Addr) (cs : List Chg), vs = [.ref l, .ref r] ∧ ListI H l xs ∧ CgsL H r cs ∧ xs.length ≤ 64 ∧
  ((cs.all (okR xs) = false → ∀ t H', Ex H H' → H' t = some (.tup [.str "invalid", .int 0]) → Q (.ref t) H') ∧
   (cs.all (okR xs) = true → ∀ x, firstOf (fun j => decide (1 < tmF cs j)) xs.length = some x → ∀ t H', Ex H H' → H' t = some (.tup [.str "busy", .int (x : Int)]) → Q (.ref t) H') ∧
   (cs.all (okR xs) = true → firstOf (fun j => decide (1 < tmF cs j)) xs.length = none → ∀ t u zs H', Ex H H' → H' t = some (.tup [.str "reached", .ref u]) → ListI H' u zs → H u = none → RchF xs cs zs → Q (.ref t) H'))
/-- the row and the counts after a change's pairs are written -/
structure WrF (zs0 : List Int) (ts0 : List Nat) (ps : List (Int × Int)) (zs : List Int) (ts : List Nat) : Prop where
  lz : zs.length = zs0.length
  lt : ts.length = ts0.length
  hit : ∀ q ∈ ps, zs.getD q.1.toNat 0 = q.2 ∧ ts.getD q.1.toNat 0 = ts0.getD q.1.toNat 0 + 1
  miss : ∀ j, (∀ q ∈ ps, q.1.toNat ≠ j) → zs.getD j 0 = zs0.getD j 0 ∧ ts.getD j 0 = ts0.getD j 0
theorem WrF.nil {zs : List Int} {ts : List Nat} : WrF zs ts [] zs ts := ⟨rfl, rfl, fun q h => (by cases h), fun _ _ => ⟨rfl, rfl⟩⟩
theorem getD_set {α : Type} {l : List α} {i j : Nat} {v d : α} (h : i < l.length) : (l.set i v).getD j d = if i = j then v else l.getD j d := by
  rw [List.getD_eq_getElem?_getD, List.getD_eq_getElem?_getD, List.getElem?_set]
  by_cases e : i = j
  · rw [if_pos e, if_pos e, if_pos h]
    rfl
  · rw [if_neg e, if_neg e]
theorem WrF.snoc {zs0 : List Int} {ts0 : List Nat} {ps : List (Int × Int)} {zs : List Int} {ts : List Nat} {p : Int × Int} (w : WrF zs0 ts0 ps zs ts) (hz : p.1.toNat < zs.length) (ht : p.1.toNat < ts.length) (new : ∀ q ∈ ps, q.1.toNat ≠ p.1.toNat) :
    WrF zs0 ts0 (ps ++ [p]) (zs.set p.1.toNat p.2) (ts.set p.1.toNat (ts.getD p.1.toNat 0 + 1)) := by
  refine ⟨by rw [List.length_set]; exact w.lz, by rw [List.length_set]; exact w.lt, fun q hq => ?_, fun j hj => ?_⟩
  · rw [getD_set hz, getD_set ht]
    rcases List.mem_append.1 hq with z | z
    · rw [if_neg (Ne.symm (new q z)), if_neg (Ne.symm (new q z))]
      exact w.hit q z
    · rw [List.mem_singleton.1 z, if_pos rfl, if_pos rfl, (w.miss _ new).2]
      exact ⟨rfl, rfl⟩
  · have n := hj p (List.mem_append_right _ (List.mem_singleton.mpr rfl))
    rw [getD_set hz, getD_set ht, if_neg n, if_neg n]
    exact w.miss j fun q hq => hj q (List.mem_append_left _ hq)
theorem tmF_snoc {cs : List Chg} {c : Chg} {j : Nat} : tmF (cs ++ [c]) j = tmF cs j + if (j : Int) ∈ c.2 then 1 else 0 := by
  unfold tmF
  rw [List.filter_append, List.length_append]
  by_cases h : (j : Int) ∈ c.2
  · rw [if_pos h, List.filter_cons_of_pos (by simpa using h)]
    rfl
  · rw [if_neg h, List.filter_cons_of_neg (by simpa using h)]
    rfl
theorem tmF_pos {cs : List Chg} {c : Chg} {j : Nat} (hc : c ∈ cs) (h : (j : Int) ∈ c.2) : 0 < tmF cs j :=
  List.length_pos_of_mem (List.mem_filter.2 ⟨hc, by simpa using h⟩)
/-- the row and the counts after changes -/
structure RdF (xs : List Int) (cs : List Chg) (zs : List Int) (ts : List Nat) : Prop where
  lz : zs.length = xs.length
  lt : ts.length = xs.length
  cnt : ∀ j, j < xs.length → ts.getD j 0 = tmF cs j
  out : ∀ j, tmF cs j = 0 → zs.getD j 0 = xs.getD j 0
  inn : ∀ j c p, tmF cs j = 1 → c ∈ cs → p ∈ c.2.zip (oth xs c.2) → p.1 = (j : Int) → zs.getD j 0 = p.2
theorem RdF.nil {xs : List Int} : RdF xs [] xs (List.replicate xs.length 0) :=
  ⟨rfl, List.length_replicate, fun j h => by rw [List.getD_eq_getElem?_getD, List.getElem?_replicate, if_pos h]; rfl, fun _ _ => rfl, fun _ _ _ h => by cases h⟩
theorem oth_len {xs ln : List Int} {w : Str} (h : Fm w ln) : (oth xs ln).length = ln.length := by
  unfold oth
  rcases fm_cases h with ⟨_, _, _, q⟩ | ⟨_, _, _, _, q⟩ | ⟨_, _, _, _, _, q⟩ <;> rw [q] <;> split <;> rfl
theorem RdF.snoc {xs : List Int} {cs : List Chg} {c : Chg} {zs zs' : List Int} {ts ts' : List Nat} {ps : List (Int × Int)} (r : RdF xs cs zs ts) (vd : Vd c.1 c.2 (xs.length : Int)) (pm : ps.Perm (c.2.zip (oth xs c.2))) (w : WrF zs ts ps zs' ts') : RdF xs (cs ++ [c]) zs' ts' := by
  have key : ∀ j : Nat, (j : Int) ∉ c.2 → ∀ q ∈ ps, q.1.toNat ≠ j := fun j h q hq e => by
    have m := (List.of_mem_zip (pm.mem_iff.1 hq)).1
    have := vd.lo _ m
    exact h (by rw [← e, Int.toNat_of_nonneg this.1]; exact m)
  have got : ∀ j : Nat, (j : Int) ∈ c.2 → ∃ q ∈ ps, q.1 = (j : Int) := fun j h => by
    obtain ⟨i, hi, e⟩ := List.getElem_of_mem h
    have li : i < (oth xs c.2).length := by rw [oth_len vd.fm]; exact hi
    have lz : i < (c.2.zip (oth xs c.2)).length := by rw [List.length_zip]; omega
    refine ⟨(c.2.zip (oth xs c.2))[i], pm.mem_iff.2 (List.getElem_mem lz), ?_⟩
    rw [List.getElem_zip]
    exact e
  refine ⟨w.lz.trans r.lz, w.lt.trans r.lt, fun j hj => ?_, fun j h0 => ?_, fun j d p h1 hd hp e => ?_⟩
  · rw [tmF_snoc]
    by_cases h : (j : Int) ∈ c.2
    · obtain ⟨q, hq, e⟩ := got j h
      have := (w.hit q hq).2
      rw [e, Int.toNat_natCast, r.cnt j hj] at this
      rw [if_pos h, this]
    · rw [if_neg h, (w.miss j (key j h)).2, r.cnt j hj]
      rfl
  · rw [tmF_snoc] at h0
    by_cases h : (j : Int) ∈ c.2
    · rw [if_pos h] at h0; omega
    · rw [if_neg h] at h0
      rw [(w.miss j (key j h)).1]
      exact r.out j (by omega)
  · rw [tmF_snoc] at h1
    rcases List.mem_append.1 hd with z | z
    · have jd : (j : Int) ∈ d.2 := by rw [← e]; exact (List.of_mem_zip hp).1
      have pos := tmF_pos z jd
      by_cases h : (j : Int) ∈ c.2
      · rw [if_pos h] at h1; omega
      · rw [if_neg h] at h1
        rw [(w.miss j (key j h)).1]
        exact r.inn j d p (by omega) z hp e
    · rw [List.mem_singleton.1 z] at hp
      have := (w.hit p (pm.mem_iff.2 hp)).1
      rw [e, Int.toNat_natCast] at this
      exact this
theorem RdF.rch {xs : List Int} {cs : List Chg} {zs : List Int} {ts : List Nat} (r : RdF xs cs zs ts) : RchF xs cs zs := ⟨r.lz, fun j _ h => r.out j h, r.inn⟩
end Pv

namespace Pv
open PySem L2 Evl Pm PySem.W
/-- what a round comes to -/
inductive Out
  | inv
  | bus (x : Nat)
  | rch (zs : List Int)
def RndF (xs : List Int) (cs : List Chg) : Out → Prop
  | .inv => cs.all (okR xs) = false
  | .bus x => cs.all (okR xs) = true ∧ firstOf (fun j => decide (1 < tmF cs j)) xs.length = some x
  | .rch zs => cs.all (okR xs) = true ∧ firstOf (fun j => decide (1 < tmF cs j)) xs.length = none ∧ RchF xs cs zs
theorem tmF_mem {cs : List Chg} {j : Nat} (h : 0 < tmF cs j) : ∃ c ∈ cs, (j : Int) ∈ c.2 := by
  unfold tmF at h
  obtain ⟨c, hc⟩ := List.exists_mem_of_length_pos h
  rw [List.mem_filter] at hc
  exact ⟨c, hc.1, of_decide_eq_true hc.2⟩
theorem okR_vd {xs : List Int} {cs : List Chg} (al : cs.all (okR xs) = true) {c : Chg} (hc : c ∈ cs) : Vd c.1 c.2 (xs.length : Int) ∧ sdI xs c.2 ≠ 2 := by
  have h := List.all_eq_true.1 al c hc
  unfold okR at h
  rw [Bool.and_eq_true] at h
  exact ⟨vd_of h.1, of_decide_eq_true h.2⟩
theorem mem_oth {xs ln : List Int} {w : Str} (h : Fm w ln) {x : Int} (hx : x ∈ ln) : ∃ y, (x, y) ∈ ln.zip (oth xs ln) := by
  obtain ⟨i, hi, e⟩ := List.getElem_of_mem hx
  have li : i < (oth xs ln).length := by rw [oth_len h]; exact hi
  have lz : i < (ln.zip (oth xs ln)).length := by rw [List.length_zip]; omega
  refine ⟨(oth xs ln)[i], ?_⟩
  have := List.getElem_mem lz
  rw [List.getElem_zip, e] at this
  exact this
theorem zip_swap {w : Str} {ln nm : List Int} (h : Fm w ln) (hn : nm = nm0 ln ∨ nm = nm1 ln) {x y : Int} (m : (x, y) ∈ ln.zip nm) : (y, x) ∈ ln.zip nm := by
  rcases hn with rfl | rfl <;> cases h <;>
    (simp only [nm0, nm1, List.zip_cons_cons, List.zip_nil_right, List.mem_cons, List.not_mem_nil, or_false, Prod.mk.injEq] at m ⊢; omega)
theorem oth_is (xs ln : List Int) : oth xs ln = nm0 ln ∨ oth xs ln = nm1 ln := by
  unfold oth
  split
  · exact .inr rfl
  · exact .inl rfl
theorem shown_is {xs ln : List Int} (h : sdI xs ln ≠ 2) : shF xs ln = nm0 ln ∨ shF xs ln = nm1 ln := by
  unfold sdI at h
  by_cases a : shF xs ln = nm0 ln
  · exact .inl a
  · rw [if_neg a] at h
    by_cases b : shF xs ln = nm1 ln
    · exact .inr b
    · rw [if_neg b] at h
      exact absurd rfl h
theorem shown_mem {xs ln : List Int} {w : Str} (h : Fm w ln) (s : sdI xs ln ≠ 2) {x : Int} (hx : x ∈ ln) : xs.getD x.toNat 0 ∈ ln := by
  have m : xs.getD x.toNat 0 ∈ shF xs ln := List.mem_map.2 ⟨x, hx, rfl⟩
  rcases shown_is s with e | e <;> rw [e] at m
  · exact h.nm0_mem m
  · exact h.nm1_mem m
theorem zip_in {ln nm : List Int} {x y : Int} (m : (x, y) ∈ ln.zip nm) : x ∈ ln ∧ y ∈ nm := List.of_mem_zip m
theorem oth_mem {xs ln : List Int} {w : Str} (h : Fm w ln) {y : Int} (m : y ∈ oth xs ln) : y ∈ ln := by
  rcases oth_is xs ln with e | e <;> rw [e] at m
  · exact h.nm0_mem m
  · exact h.nm1_mem m
theorem tm_le {cs : List Chg} {n : Nat} (nb : firstOf (fun j => decide (1 < tmF cs j)) n = none) {j : Nat} (h : j < n) : tmF cs j ≤ 1 := by
  have := of_decide_eq_false (firstOf_no nb j h)
  omega
theorem RchF.uniq {xs : List Int} {cs : List Chg} {zs zs' : List Int} (al : cs.all (okR xs) = true) (nb : firstOf (fun j => decide (1 < tmF cs j)) xs.length = none) (r : RchF xs cs zs) (r' : RchF xs cs zs') : zs = zs' := by
  refine List.ext_getElem (r.len.trans r'.len.symm) fun j h1 h2 => ?_
  have hj : j < xs.length := by rw [← r.len]; exact h1
  have g1 : zs[j] = zs.getD j 0 := by rw [List.getD_eq_getElem?_getD, List.getElem?_eq_getElem h1]; rfl
  have g2 : zs'[j] = zs'.getD j 0 := by rw [List.getD_eq_getElem?_getD, List.getElem?_eq_getElem h2]; rfl
  rw [g1, g2]
  by_cases c0 : tmF cs j = 0
  · rw [r.out j hj c0, r'.out j hj c0]
  · have c1 : tmF cs j = 1 := by have := tm_le nb hj; omega
    obtain ⟨c, hc, m⟩ := tmF_mem (cs := cs) (j := j) (by omega)
    obtain ⟨vd, _⟩ := okR_vd al hc
    obtain ⟨y, hy⟩ := mem_oth (xs := xs) vd.fm m
    rw [r.inn j c _ c1 hc hy rfl, r'.inn j c _ c1 hc hy rfl]
theorem RndF.uniq {xs : List Int} {cs : List Chg} {o o' : Out} (h : RndF xs cs o) (h' : RndF xs cs o') : o = o' := by
  have no : ∀ {b : Bool} {P : Prop}, b = true → b = false → P := fun h h' => by rw [h] at h'; cases h'
  cases o with
  | inv =>
    cases o' with
    | inv => rfl
    | bus x => exact no h'.1 h
    | rch zs => exact no h'.1 h
  | bus x =>
    cases o' with
    | inv => exact no h.1 h'
    | bus y =>
      have := h.2.symm.trans h'.2
      rw [Option.some.inj this]
    | rch zs => exact absurd (h.2.symm.trans h'.2.1) (fun z => by cases z)
  | rch zs =>
    cases o' with
    | inv => exact no h.1 h'
    | bus y => exact absurd (h'.2.symm.trans h.2.1) (fun z => by cases z)
    | rch zs' => rw [RchF.uniq h.1 h.2.1 h.2.2 h'.2.2]
/-- a row of records that show each other, as integers -/
theorem stI {zs : List Int} (h : ∀ j : Nat, j < zs.length → ∃ m : Nat, zs.getD j 0 = (m : Int) ∧ m < zs.length ∧ zs.getD m 0 = (j : Int)) : faultS zs = none := by
  have a : strayI zs = none := by
    refine firstOf_none fun j hj => ?_
    obtain ⟨m, e, l, _⟩ := h j hj
    unfold badN
    rw [e, decide_eq_false (by omega), decide_eq_false (by omega)]
    rfl
  have b : unset (natI zs) = none := by
    refine firstOf_none fun j hj => ?_
    rw [natI_len] at hj
    obtain ⟨m, e, l, k⟩ := h j hj
    have n1 := natI_at a hj
    have n2 := natI_at a l
    have e1 : (natI zs).getD j 0 = m := by have := n1.1; omega
    have e2 : (natI zs).getD m 0 = j := by have := n2.1; omega
    show decide (gt (natI zs) (gt (natI zs) j) ≠ j) = false
    unfold gt
    rw [e1, e2]
    exact decide_eq_false (fun z => z rfl)
  unfold faultS
  rw [a]
  show (unset (natI zs)).map _ = none
  rw [b]
  rfl
theorem stI_at {xs : List Int} (h : faultS xs = none) {j : Nat} (hj : j < xs.length) : ∃ m : Nat, xs.getD j 0 = (m : Int) ∧ m < xs.length ∧ xs.getD m 0 = (j : Int) := by
  obtain ⟨s, st⟩ := faultS_no h
  have n1 := natI_at s hj
  have n2 := natI_at s n1.2
  refine ⟨_, n1.1, n1.2, ?_⟩
  rw [n2.1]
  have := st.inv j (by rw [natI_len]; exact hj)
  unfold gt at this
  exact congrArg _ this
theorem rch_st {xs : List Int} {cs : List Chg} {zs : List Int} (st : faultS xs = none) (r : RndF xs cs (.rch zs)) : faultS zs = none := by
  obtain ⟨al, nb, r⟩ := r
  refine stI fun j hj => ?_
  rw [r.len] at hj ⊢
  by_cases c0 : tmF cs j = 0
  · obtain ⟨m, e, l, k⟩ := stI_at st hj
    refine ⟨m, by rw [r.out j hj c0]; exact e, l, ?_⟩
    rw [r.out m l, k]
    by_cases q : tmF cs m = 0
    · exact q
    exfalso
    obtain ⟨c, hc, hm⟩ := tmF_mem (cs := cs) (j := m) (by omega)
    obtain ⟨vd, s2⟩ := okR_vd al hc
    have := shown_mem vd.fm s2 hm
    rw [Int.toNat_natCast, k] at this
    have := tmF_pos hc this
    omega
  · have c1 : tmF cs j = 1 := by have := tm_le nb hj; omega
    obtain ⟨c, hc, hm⟩ := tmF_mem (cs := cs) (j := j) (by omega)
    obtain ⟨vd, s2⟩ := okR_vd al hc
    obtain ⟨y, hy⟩ := mem_oth (xs := xs) vd.fm hm
    have my := oth_mem vd.fm (zip_in hy).2
    have lo := vd.lo y my
    obtain ⟨m, rfl⟩ : ∃ m : Nat, y = (m : Int) := ⟨y.toNat, (Int.toNat_of_nonneg lo.1).symm⟩
    have ml : m < xs.length := by omega
    refine ⟨m, r.inn j c _ c1 hc hy rfl, ml, ?_⟩
    have pos := tmF_pos hc my
    have := tm_le nb ml
    exact r.inn m c _ (by omega) hc (zip_swap vd.fm (oth_is xs c.2) hy) rfl
/-- the records of a change in the order in which they are written -/
structure SnF (xs : List Int) (cs : List Chg) (zs : List Int) (sn : List Int) : Prop where
  lz : zs.length = xs.length
  ln : sn.length ≤ 4 * cs.length
  cnt : ∀ j : Nat, sn.count (j : Int) = tmF cs j
  out : ∀ j, tmF cs j = 0 → zs.getD j 0 = xs.getD j 0
  inn : ∀ j c p, tmF cs j = 1 → c ∈ cs → p ∈ c.2.zip (oth xs c.2) → p.1 = (j : Int) → zs.getD j 0 = p.2
theorem SnF.nil {xs : List Int} : SnF xs [] xs [] := ⟨rfl, by simp, fun _ => rfl, fun _ _ => rfl, fun _ _ _ _ h => by cases h⟩
theorem SnF.rch {xs : List Int} {cs : List Chg} {zs sn : List Int} (r : SnF xs cs zs sn) : RchF xs cs zs := ⟨r.lz, fun j _ h => r.out j h, r.inn⟩
/-- the row after a side's pairs are written -/
structure WsF (zs0 : List Int) (ps : List (Int × Int)) (zs : List Int) : Prop where
  lz : zs.length = zs0.length
  hit : ∀ q ∈ ps, zs.getD q.1.toNat 0 = q.2
  miss : ∀ j, (∀ q ∈ ps, q.1.toNat ≠ j) → zs.getD j 0 = zs0.getD j 0
theorem WsF.nil {zs : List Int} : WsF zs [] zs := ⟨rfl, fun q h => (by cases h), fun _ _ => rfl⟩
theorem WsF.snoc {zs0 : List Int} {ps : List (Int × Int)} {zs : List Int} {p : Int × Int} (w : WsF zs0 ps zs) (hz : p.1.toNat < zs.length) (new : ∀ q ∈ ps, q.1.toNat ≠ p.1.toNat) : WsF zs0 (ps ++ [p]) (zs.set p.1.toNat p.2) := by
  refine ⟨by rw [List.length_set]; exact w.lz, fun q hq => ?_, fun j hj => ?_⟩
  · rw [getD_set hz]
    rcases List.mem_append.1 hq with z | z
    · rw [if_neg (Ne.symm (new q z))]
      exact w.hit q z
    · rw [List.mem_singleton.1 z, if_pos rfl]
  · have n := hj p (List.mem_append_right _ (List.mem_singleton.mpr rfl))
    rw [getD_set hz, if_neg n]
    exact w.miss j fun q hq => hj q (List.mem_append_left _ hq)
theorem SnF.snoc {xs : List Int} {cs : List Chg} {c : Chg} {zs zs' sn : List Int} {ps : List (Int × Int)} (r : SnF xs cs zs sn) (vd : Vd c.1 c.2 (xs.length : Int)) (pm : ps.Perm (c.2.zip (oth xs c.2))) (w : WsF zs ps zs') : SnF xs (cs ++ [c]) zs' (sn ++ ps.map Prod.fst) := by
  have key : ∀ j : Nat, (j : Int) ∉ c.2 → ∀ q ∈ ps, q.1.toNat ≠ j := fun j h q hq e => by
    have m := (List.of_mem_zip (pm.mem_iff.1 hq)).1
    have := vd.lo _ m
    exact h (by rw [← e, Int.toNat_of_nonneg this.1]; exact m)
  have fst : (ps.map Prod.fst).Perm c.2 := by
    have := pm.map Prod.fst
    rw [List.map_fst_zip (Nat.le_of_eq (oth_len vd.fm).symm)] at this
    exact this
  refine ⟨w.lz.trans r.lz, ?_, fun j => ?_, fun j h0 => ?_, fun j d p h1 hd hp e => ?_⟩
  · rw [List.length_append, List.length_append, fst.length_eq]
    have := r.ln
    have := vd.fm.le4
    simp only [List.length_singleton]
    omega
  · rw [tmF_snoc, List.count_append, r.cnt j, fst.count_eq, vd.nd.count]
  · rw [tmF_snoc] at h0
    by_cases h : (j : Int) ∈ c.2
    · rw [if_pos h] at h0; omega
    · rw [if_neg h] at h0
      rw [w.miss j (key j h)]
      exact r.out j (by omega)
  · rw [tmF_snoc] at h1
    rcases List.mem_append.1 hd with z | z
    · have jd : (j : Int) ∈ d.2 := by rw [← e]; exact (List.of_mem_zip hp).1
      have pos := tmF_pos z jd
      by_cases h : (j : Int) ∈ c.2
      · rw [if_pos h] at h1; omega
      · rw [if_neg h] at h1
        rw [w.miss j (key j h)]
        exact r.inn j d p (by omega) z hp e
    · rw [List.mem_singleton.1 z] at hp
      have := w.hit p (pm.mem_iff.2 hp)
      rw [e, Int.toNat_natCast] at this
      exact this
/-- rounds one after another: the rows that they reach -/
inductive Fol (xs : List Int) : List (List Chg) → List (List Int) → List Int → Prop
  | nil : Fol xs [] [xs] xs
  | snoc {css : List (List Chg)} {rows : List (List Int)} {ys zs : List Int} {cs : List Chg} (f : Fol xs css rows ys) (r : RndF ys cs (.rch zs)) : Fol xs (css ++ [cs]) (rows ++ [zs]) zs
theorem Fol.uniq {xs : List Int} {css : List (List Chg)} {rows rows' : List (List Int)} {ys ys' : List Int} (h : Fol xs css rows ys) (h' : Fol xs css rows' ys') : rows = rows' ∧ ys = ys' := by
  induction h generalizing rows' ys' with
  | nil =>
    generalize e : ([] : List (List Chg)) = z at h'
    cases h' with
    | nil => exact ⟨rfl, rfl⟩
    | snoc f r => cases List.append_eq_nil_iff.1 e.symm with | intro _ b => cases b
  | @snoc css rows ys zs cs f r ih =>
    generalize e : css ++ [cs] = z at h'
    cases h' with
    | nil => cases List.append_eq_nil_iff.1 e with | intro _ b => cases b
    | @snoc css2 rows2 ys2 zs2 cs2 f2 r2 =>
      obtain ⟨e1, e2⟩ := List.append_inj' e rfl
      cases e2
      subst e1
      obtain ⟨q1, q2⟩ := ih f2
      subst q1
      subst q2
      have := RndF.uniq r r2
      injection this with this
      subst this
      exact ⟨rfl, rfl⟩
theorem Fol.st {xs : List Int} {css : List (List Chg)} {rows : List (List Int)} {ys : List Int} (h : Fol xs css rows ys) (s : faultS xs = none) : faultS ys = none ∧ ys.length = xs.length ∧ rows.length = css.length + 1 ∧ rows.getLast? = some ys := by
  induction h with
  | nil => exact ⟨s, rfl, rfl, rfl⟩
  | snoc f r ih => exact ⟨rch_st ih.1 r, r.2.2.len.trans ih.2.1, by rw [List.length_append, List.length_append, ih.2.2.1]; rfl, List.getLast?_concat⟩
/-- a prefix of rounds that all reach -/
theorem Fol.cut {xs : List Int} {css : List (List Chg)} {rows : List (List Int)} {ys : List Int} (h : Fol xs css rows ys) (k : Nat) (hk : k < css.length) (cs : List Chg) (e : css[k]? = some cs) : ∃ rows1 ys1 zs, Fol xs (css.take k) rows1 ys1 ∧ RndF ys1 cs (.rch zs) := by
  induction h with
  | nil => cases hk
  | @snoc css rows ys zs cs' f r ih =>
    rw [List.length_append, List.length_singleton] at hk
    by_cases c : k < css.length
    · rw [List.getElem?_append_left c] at e
      rw [List.take_append_of_le_length (by omega)]
      exact ih c e
    · have kl : k = css.length := by omega
      subst kl
      rw [List.getElem?_append_right (Nat.le_refl _), Nat.sub_self] at e
      cases e
      rw [List.take_left]
      exact ⟨rows, ys, zs, f, r⟩

theorem faultS_12 {xs : List Int} {f : Nat × Nat} (h : faultS xs = some f) : f.1 = 1 ∨ f.1 = 2 := by
  unfold faultS at h
  cases s : strayI xs with
  | some k => rw [s] at h; cases h; exact .inl rfl
  | none =>
    rw [s] at h
    obtain ⟨k, _, rfl⟩ := Option.map_eq_some_iff.1 h
    exact .inr rfl
theorem sideV_is {xs ln : List Int} (h : sdI xs ln ≠ 2) : sideV xs ln = .int (sdI xs ln) := by
  unfold sideV sdI at *
  split
  · rfl
  · split
    · rfl
    · rename_i a b
      rw [if_neg a, if_neg b] at h
      exact absurd rfl h
theorem sideV_no {xs ln : List Int} (h : sdI xs ln = 2) : sideV xs ln = .non := by
  unfold sideV sdI at *
  split at h
  · cases h
  · split at h
    · cases h
    · rename_i a b
      rw [if_neg a, if_neg b]
def RzB (A : Ad) (k : Nat) (H : Hp) (E : XK) : Prop := ∀ d H', Ex H H' → H' d = some (.xd [("record", .int (k : Int))]) → E (.ref A.Busy) (some d) H'
theorem RzB.mono {A : Ad} {k : Nat} {H H1 : Hp} {E : XK} (e : Ex H H1) (h : RzB A k H E) : RzB A k H1 E := fun d H' e' => h d H' (e.trans e')
def CssE (H : Hp) (rs : List Addr) (css : List (List Chg)) : Prop := rs.length = css.length ∧ ∀ (i : Nat) (r : Addr) (cs : List Chg), rs[i]? = some r → css[i]? = some cs → CgsL H r cs ∧ cs.length ≤ 200
theorem CssE.ex {H H1 : Hp} {rs : List Addr} {css : List (List Chg)} (e : Ex H H1) (h : CssE H rs css) : CssE H1 rs css := ⟨h.1, fun i r cs a b => ⟨(h.2 i r cs a b).1.ex e, (h.2 i r cs a b).2⟩⟩
/-- rows that a call has made -/
def RwsE (H0 H : Hp) (ts : List Addr) (rows : List (List Int)) : Prop := ts.length = rows.length ∧ ∀ (i : Nat) (t : Addr) (zs : List Int), ts[i]? = some t → rows[i]? = some zs → ListI H t zs ∧ H0 t = none
theorem RwsE.ex {H0 H H1 : Hp} {ts : List Addr} {rows : List (List Int)} (e : Ex H H1) (h : RwsE H0 H ts rows) : RwsE H0 H1 ts rows := ⟨h.1, fun i r cs a b => ⟨(h.2 i r cs a b).1.ex e, (h.2 i r cs a b).2⟩⟩
theorem RwsE.keep {H0 H H1 : Hp} {ts : List Addr} {rows : List (List Int)} (h : RwsE H0 H ts rows) (k : ∀ t ∈ ts, ∀ o, H t = some o → H1 t = some o) : RwsE H0 H1 ts rows := ⟨h.1, fun i r cs a b => ⟨k r (List.mem_of_getElem? a) _ (h.2 i r cs a b).1, (h.2 i r cs a b).2⟩⟩
theorem RwsE.snoc {H0 H : Hp} {ts : List Addr} {rows : List (List Int)} {t : Addr} {zs : List Int} (h : RwsE H0 H ts rows) (a : ListI H t zs) (b : H0 t = none) : RwsE H0 H (ts ++ [t]) (rows ++ [zs]) := by
  refine ⟨by rw [List.length_append, List.length_append, h.1]; rfl, fun i r cs hi hd => ?_⟩
  by_cases c : i < ts.length
  · rw [List.getElem?_append_left c] at hi
    rw [List.getElem?_append_left (by rw [← h.1]; exact c)] at hd
    exact h.2 i r cs hi hd
  · rw [List.getElem?_append_right (by omega)] at hi
    rw [List.getElem?_append_right (by rw [← h.1]; omega)] at hd
    have il : i = ts.length := by
      have := (List.getElem?_eq_some_iff.mp hi).1
      simp only [List.length_singleton] at this
      omega
    rw [il, Nat.sub_self] at hi
    rw [il, h.1, Nat.sub_self] at hd
    cases hi
    cases hd
    exact ⟨a, b⟩
def spFo (A : Ad) : Sp := fun vs H Q E => ∃ (l r : Addr) (xs : List Int) (rs : List Addr) (css : List (List Chg)), vs = [.ref l, .ref r] ∧ ListI H l xs ∧ H r = some (.lst (rs.map V.ref)) ∧ CssE H rs css ∧ xs.length ≤ 64 ∧ css.length ≤ 10 ∧
  (∀ f, faultS xs = some f → RzF A f H E) ∧
  (faultS xs = none → (∀ k cs rows ys, css[k]? = some cs → Fol xs (css.take k) rows ys → (RndF ys cs .inv → RzC A H E) ∧ ∀ x, RndF ys cs (.bus x) → RzB A x H E) ∧
    ∀ rows ys p ts H', Fol xs css rows ys → Ex H H' → H' p = some (.lst (ts.map V.ref)) → H p = none → p ∉ ts → RwsE H H' ts rows → Q (.ref p) H')
end Pv

namespace Pv
open PySem L2 Evl Pm PySem.W
theorem ifT {b : Bool} {p q : Prop} (h : b = true) (k : p) : if b = true then p else q := by
  rw [if_pos h]
  exact k
theorem ifF {b : Bool} {p q : Prop} (h : b = false) (k : q) : if b = true then p else q := by
  rw [h]
  exact k
def KnE (A : Ad) (H : Hp) (c : Value) (d : Option Addr) : Prop := (c = .ref A.InvalidImage ∨ c = .ref A.NotState ∨ c = .ref A.InvalidChange ∨ c = .ref A.Busy ∨ c = .ref A.UnequalSizes) ∧ (d = none ∨ ∃ dd fs, d = some dd ∧ H dd = some (.xd fs))
def seAl (A : Ad) : HotE.SpE := fun a c d vs H Q _ => vs = [.ref a] ∧ KnE A H c d ∧ Q (.bl true) H
def seRf (A : Ad) : HotE.SpE := fun a c d vs H Q _ => ∃ (w : Str) (n : Int), vs = [.str w, .ref a, .int n] ∧ KnE A H c d ∧ ∀ t H', Ex H H' → H' t = some (.tup [.str w, .int n]) → Q (.ref t) H'
/-- what is told of a refused call -/
def AnW (w : Str) (k : Int) (H : Hp) (Q : VK) : Prop := ∀ t H', Ex H H' → H' t = some (.tup [.str w, .int k]) → Q (.ref t) H'
theorem AnW.mono {w : Str} {k : Int} {H H1 : Hp} {Q : VK} (e : Ex H H1) (h : AnW w k H Q) : AnW w k H1 Q := fun t H' e' => h t H' (e.trans e')
def AnF (f : Nat × Nat) (H : Hp) (Q : VK) : Prop := (f.1 = 1 → AnW "image" f.2 H Q) ∧ (f.1 = 2 → AnW "unsettled" f.2 H Q)
/-! ### changes as data -/
def dC (cs : List Chg) : PyData := .list (cs.map encC)
def dCs (css : List (List Chg)) : PyData := .list (css.map dC)
theorem dpAll_of {K : PySem.W.Frag} {H : Hp} {α : Type} {f : α → PyData} : ∀ {ts : List Addr} {cs : List α}, ts.length = cs.length → (∀ (i : Nat) (t : Addr) (c : α), ts[i]? = some t → cs[i]? = some c → Dp K H (.ref t) (f c)) → DpAll K H (ts.map V.ref) (cs.map f)
  | [], [], _, _ => .nil
  | [], _ :: _, h, _ => by cases h
  | _ :: _, [], h, _ => by cases h
  | t :: ts, c :: cs, h, g => .cons (g 0 t c rfl rfl) (dpAll_of (Nat.succ.inj h) fun i t' c' a b => g (i + 1) t' c' a b)
theorem dp_cgs {K : PySem.W.Frag} {H : Hp} {r : Addr} {ts : List Addr} {cs : List Chg} (h : H r = some (.lst (ts.map V.ref))) (e : CgsE H ts cs) : Dp K H (.ref r) (dC cs) :=
  .lst (SqL.of h) (dpAll_of e.1 fun i t c a b => dp_cg (e.2 i t c a b).1)
theorem dp_cgL {K : PySem.W.Frag} {H : Hp} {r : Addr} {cs : List Chg} (h : CgsL H r cs) : Dp K H (.ref r) (dC cs) := by
  obtain ⟨ts, a, b⟩ := h
  exact dp_cgs a b
theorem dp_css {K : PySem.W.Frag} {H : Hp} {r : Addr} {rs : List Addr} {css : List (List Chg)} (h : H r = some (.lst (rs.map V.ref))) (e : CssE H rs css) : Dp K H (.ref r) (dCs css) :=
  .lst (SqL.of h) (dpAll_of e.1 fun i t c a b => dp_cgL (e.2 i t c a b).1)
theorem ok_cgs {H : Hp} {ts : List Addr} {cs : List Chg} (e : CgsE H ts cs) : ∀ c ∈ cs, okC c := fun c hc => by
  obtain ⟨i, hi, rfl⟩ := List.mem_iff_getElem.1 hc
  have il : i < ts.length := by rw [e.1]; exact hi
  exact (e.2 i ts[i] cs[i] (List.getElem?_eq_getElem il) (List.getElem?_eq_getElem hi)).2
theorem ok_css {H : Hp} {rs : List Addr} {css : List (List Chg)} (e : CssE H rs css) : ∀ cs ∈ css, ∀ c ∈ cs, okC c := fun cs hcs => by
  obtain ⟨i, hi, rfl⟩ := List.mem_iff_getElem.1 hcs
  have il : i < rs.length := by rw [e.1]; exact hi
  obtain ⟨⟨ts, _, b⟩, _⟩ := e.2 i rs[i] css[i] (List.getElem?_eq_getElem il) (List.getElem?_eq_getElem hi)
  exact ok_cgs b
theorem enc_lay {c : Chg} (ok : okC c) : PyData.canLay0 (encC c) = true ∧ PyData.depth (encC c) ≤ 10 ∧ PyData.plain (encC c) = true := by
  have h := deep_I c.2
  have pl : ∀ xs : List Int, PyData.plainAll (xs.map PyData.int) = true := fun xs => by
    induction xs with
    | nil => rfl
    | cons x xs ih => simp only [List.map_cons, PyData.plainAll, ih]; rfl
  refine ⟨?_, ?_, ?_⟩
  · unfold encC
    simp only [PyData.canLay0, PyData.canLayAll0, lay_I, List.all_eq_true.mp ok7 _ ok.1]
    rfl
  · unfold encC
    simp only [PyData.depth, PyData.depthAll]
    omega
  · unfold encC
    simp only [PyData.plain, PyData.plainAll, pl]
    rfl
theorem all_lay {α : Type} {f : α → PyData} {n : Nat} : ∀ {cs : List α}, (∀ c ∈ cs, PyData.canLay0 (f c) = true ∧ PyData.depth (f c) ≤ n ∧ PyData.plain (f c) = true) → PyData.canLayAll0 (cs.map f) = true ∧ PyData.depthAll (cs.map f) ≤ n ∧ PyData.plainAll (cs.map f) = true
  | [], _ => ⟨rfl, Nat.zero_le _, rfl⟩
  | c :: cs, h => by
    obtain ⟨a1, a2, a3⟩ := h c (List.mem_cons_self ..)
    obtain ⟨b1, b2, b3⟩ := all_lay (cs := cs) fun d hd => h d (List.mem_cons_of_mem _ hd)
    refine ⟨?_, ?_, ?_⟩
    · simp only [List.map_cons, PyData.canLayAll0, a1, b1]
      rfl
    · simp only [List.map_cons, PyData.depthAll]
      omega
    · simp only [List.map_cons, PyData.plainAll, a3, b3]
      rfl
theorem lst_lay {α : Type} {f : α → PyData} {n : Nat} {cs : List α} (h : ∀ c ∈ cs, PyData.canLay0 (f c) = true ∧ PyData.depth (f c) ≤ n ∧ PyData.plain (f c) = true) : PyData.canLay0 (.list (cs.map f)) = true ∧ PyData.depth (.list (cs.map f)) ≤ n + 1 ∧ PyData.plain (.list (cs.map f)) = true := by
  obtain ⟨a, b, c⟩ := all_lay h
  refine ⟨?_, ?_, ?_⟩
  · simp only [PyData.canLay0, a]
  · simp only [PyData.depth]
    omega
  · simp only [PyData.plain, c]
theorem shaped_of {d : PyData} (h : PyData.canLay0 d = true ∧ PyData.depth d ≤ 60 ∧ PyData.plain d = true) : SeqAt.shaped d = true := by
  unfold SeqAt.shaped
  rw [h.1, decide_eq_true (by omega)]
  rfl
theorem lay_dC {cs : List Chg} (ok : ∀ c ∈ cs, okC c) : PyData.canLay0 (dC cs) = true ∧ PyData.depth (dC cs) ≤ 11 ∧ PyData.plain (dC cs) = true := lst_lay fun c hc => enc_lay (ok c hc)
theorem lay_dCs {css : List (List Chg)} (ok : ∀ cs ∈ css, ∀ c ∈ cs, okC c) : PyData.canLay0 (dCs css) = true ∧ PyData.depth (dCs css) ≤ 12 ∧ PyData.plain (dCs css) = true := lst_lay fun c hc => lay_dC (ok c hc)
theorem shaped_dC {cs : List Chg} (ok : ∀ c ∈ cs, okC c) : SeqAt.shaped (dC cs) = true ∧ PyData.eqv (dC cs) (dC cs) = true := by
  have h := lay_dC ok
  exact ⟨shaped_of ⟨h.1, by omega, h.2.2⟩, PySem.SeqAt.eqv_refl_plain _ h.2.2⟩
theorem shaped_dCs {css : List (List Chg)} (ok : ∀ cs ∈ css, ∀ c ∈ cs, okC c) : SeqAt.shaped (dCs css) = true ∧ PyData.eqv (dCs css) (dCs css) = true := by
  have h := lay_dCs ok
  exact ⟨shaped_of ⟨h.1, by omega, h.2.2⟩, PySem.SeqAt.eqv_refl_plain _ h.2.2⟩
/-- what is told, as data: a word and a number -/
def dW (w : Str) (n : Int) : PyData := .tuple [.str w, .int n]
def wordsW : List Str := ["image", "unsettled", "invalid", "busy", "sizes"]
theorem okW : wordsW.all PyData.strOk = true := by decide +kernel
theorem shaped_dW {w : Str} (hw : w ∈ wordsW) (n : Int) : SeqAt.shaped (dW w n) = true ∧ PyData.eqv (dW w n) (dW w n) = true := by
  refine ⟨shaped_of ⟨?_, ?_, rfl⟩, PySem.SeqAt.eqv_refl_plain _ rfl⟩
  · unfold dW
    simp only [PyData.canLay0, PyData.canLayAll0, List.all_eq_true.mp okW _ hw]
    rfl
  · unfold dW
    simp only [PyData.depth, PyData.depthAll]
    omega
theorem dp_W {K : PySem.W.Frag} {H : Hp} {t : Addr} {w : Str} {n : Int} (h : H t = some (.tup [.str w, .int n])) : Dp K H (.ref t) (dW w n) := .tup (SqT.of h) (.cons (.str _) (.cons (.int _) .nil))
/-- what a round is due to come to -/
def DueR (H : Hp) (d : Addr) : Out → Prop
  | .inv => H d = some (.tup [.str "invalid", .int 0])
  | .bus x => H d = some (.tup [.str "busy", .int (x : Int)])
  | .rch zs => ∃ u, H d = some (.tup [.str "reached", .ref u]) ∧ ListI H u zs
theorem DueR.mut {b c : Addr} {H H1 : Hp} {d : Addr} {o : Out} (B : Bx H b c) (m : Mut b H H1) (nb : ∀ u zs, o = .rch zs → H d = some (.tup [.str "reached", .ref u]) → u ≠ b) (h : DueR H d o) : DueR H1 d o := by
  have k := KpT.mut B m
  cases o with
  | inv => exact k.p _ _ h
  | bus x => exact k.p _ _ h
  | rch zs =>
    obtain ⟨u, h1, h2⟩ := h
    exact ⟨u, k.p _ _ h1, m _ _ (nb u zs rfl h1) h2⟩
theorem DueR.ex {H H1 : Hp} {d : Addr} {o : Out} (e : Ex H H1) (h : DueR H d o) : DueR H1 d o := by
  cases o with
  | inv => exact e _ _ h
  | bus x => exact e _ _ h
  | rch zs =>
    obtain ⟨u, h1, h2⟩ := h
    exact ⟨u, e _ _ h1, e _ _ h2⟩
/-- the first round that is refused, and how -/
def Fails (xs : List Int) (css : List (List Chg)) (o : Out) : Prop := ∃ k cs rows ys, css[k]? = some cs ∧ Fol xs (css.take k) rows ys ∧ RndF ys cs o ∧ ∀ zs, o ≠ .rch zs
theorem Fails.no {xs : List Int} {css : List (List Chg)} {o : Out} {rows : List (List Int)} {ys : List Int} (h : Fails xs css o) (f : Fol xs css rows ys) : False := by
  obtain ⟨k, cs, rows1, ys1, e, f1, r, n⟩ := h
  obtain ⟨rows2, ys2, zs, f2, r2⟩ := f.cut k (List.getElem?_eq_some_iff.1 e).1 cs e
  obtain ⟨_, rfl⟩ := f1.uniq f2
  exact n zs (r.uniq r2)
theorem Fails.uniq {xs : List Int} {css : List (List Chg)} {o o' : Out} (h : Fails xs css o) (h' : Fails xs css o') : o = o' := by
  obtain ⟨k, cs, rows, ys, e, f, r, n⟩ := h
  obtain ⟨k', cs', rows', ys', e', f', r', n'⟩ := h'
  have key : ∀ {k k' : Nat} {cs cs' : List Chg} {rows rows' : List (List Int)} {ys ys' : List Int} {o : Out}, css[k]? = some cs → Fol xs (css.take k) rows ys → RndF ys cs o → (∀ zs, o ≠ .rch zs) → Fol xs (css.take k') rows' ys' → ¬ k < k' := fun {k k' cs cs' rows rows' ys ys' o} e f r n f' lt => by
    have e2 : (css.take k')[k]? = some cs := by rw [List.getElem?_take, if_pos lt]; exact e
    have f2 : Fol xs ((css.take k').take k) rows ys := by rw [List.take_take, Nat.min_eq_left (by omega)]; exact f
    exact Fails.no ⟨k, cs, rows, ys, e2, f2, r, n⟩ f'
  have kk : k = k' := by
    have a := key (cs' := cs') e f r n f'
    have b := key (cs' := cs) e' f' r' n' f
    omega
  subst kk
  rw [e] at e'
  cases e'
  obtain ⟨_, rfl⟩ := f.uniq f'
  exact r.uniq r'
theorem Fails.snoc {xs : List Int} {css : List (List Chg)} {o : Out} (h : Fails xs css o) (cs : List Chg) : Fails xs (css ++ [cs]) o := by
  obtain ⟨k, cs1, rows, ys, e, f, r, n⟩ := h
  have kl := (List.getElem?_eq_some_iff.1 e).1
  exact ⟨k, cs1, rows, ys, by rw [List.getElem?_append_left kl]; exact e, by rw [List.take_append_of_le_length (by omega)]; exact f, r, n⟩
theorem Fol.fail {xs : List Int} {css : List (List Chg)} {rows : List (List Int)} {ys : List Int} (f : Fol xs css rows ys) {cs : List Chg} {o : Out} (r : RndF ys cs o) (n : ∀ zs, o ≠ .rch zs) : Fails xs (css ++ [cs]) o :=
  ⟨css.length, cs, rows, ys, by rw [List.getElem?_append_right (Nat.le_refl _), Nat.sub_self]; rfl, by rw [List.take_left]; exact f, r, n⟩
/-- rows in a list -/
def RowsI (H : Hp) (ts : List Addr) (rows : List (List Int)) : Prop := ts.length = rows.length ∧ ∀ (i : Nat) (t : Addr) (zs : List Int), ts[i]? = some t → rows[i]? = some zs → ListI H t zs
theorem RowsI.ex {H H1 : Hp} {ts : List Addr} {rows : List (List Int)} (e : Ex H H1) (h : RowsI H ts rows) : RowsI H1 ts rows := ⟨h.1, fun i t zs a b => e _ _ (h.2 i t zs a b)⟩
theorem RowsI.snoc {H : Hp} {ts : List Addr} {rows : List (List Int)} {t : Addr} {zs : List Int} (h : RowsI H ts rows) (a : ListI H t zs) : RowsI H (ts ++ [t]) (rows ++ [zs]) := by
  refine ⟨by rw [List.length_append, List.length_append, h.1]; rfl, fun i r cs hi hd => ?_⟩
  by_cases c : i < ts.length
  · rw [List.getElem?_append_left c] at hi
    rw [List.getElem?_append_left (by rw [← h.1]; exact c)] at hd
    exact h.2 i r cs hi hd
  · rw [List.getElem?_append_right (by omega)] at hi
    rw [List.getElem?_append_right (by rw [← h.1]; omega)] at hd
    have il : i = ts.length := by
      have := (List.getElem?_eq_some_iff.mp hi).1
      simp only [List.length_singleton] at this
      omega
    rw [il, Nat.sub_self] at hi
    rw [il, h.1, Nat.sub_self] at hd
    cases hi
    cases hd
    exact a
/-- what the rounds are due to come to -/
def DueF (H : Hp) (d : Addr) (xs : List Int) (css : List (List Chg)) : Prop :=
  (∃ rows ys u ts, Fol xs css rows ys ∧ H d = some (.tup [.str "reached", .ref u]) ∧ H u = some (.lst (ts.map V.ref)) ∧ RowsI H ts rows) ∨ ∃ o, Fails xs css o ∧ DueR H d o
theorem DueF.ex {H H1 : Hp} {d : Addr} {xs : List Int} {css : List (List Chg)} (e : Ex H H1) (h : DueF H d xs css) : DueF H1 d xs css := by
  rcases h with ⟨rows, ys, u, ts, f, a, b, c⟩ | ⟨o, f, a⟩
  · exact .inl ⟨rows, ys, u, ts, f, e _ _ a, e _ _ b, c.ex e⟩
  · exact .inr ⟨o, f, a.ex e⟩
def spFr : Sp := fun vs H Q _ => ∃ (l r d : Addr) (xs : List Int) (rs : List Addr) (css : List (List Chg)), vs = [.ref l, .ref r, .ref d] ∧ ListI H l xs ∧ H r = some (.lst (rs.map V.ref)) ∧ CssE H rs css ∧ DueF H d xs css ∧ faultS xs = none ∧ xs.length ≤ 64 ∧ css.length ≤ 10 ∧ ∀ H', Ex H H' → Q (.bl true) H'
def spDr : Sp := fun vs H Q _ => ∃ (b c l r : Addr) (xs : List Int) (rs : List Addr) (css : List (List Chg)), vs = [.ref b, .ref l, .ref r] ∧ Bx H b c ∧ ListI H l xs ∧ l ≠ b ∧ H r = some (.lst (rs.map V.ref)) ∧ r ≠ b ∧ (∀ t ∈ rs, t ≠ b) ∧ CssE H rs css ∧ xs.length ≤ 64 ∧ css.length ≤ 10 ∧ ∀ H', Q (.bl true) H'
theorem Fol.lens {xs : List Int} {css : List (List Chg)} {rows : List (List Int)} {ys : List Int} (h : Fol xs css rows ys) : ∀ zs ∈ rows, zs.length = xs.length := by
  have aux : ys.length = xs.length ∧ ∀ zs ∈ rows, zs.length = xs.length := by
    induction h with
    | nil => exact ⟨rfl, fun zs h => by rw [List.mem_singleton.1 h]⟩
    | snoc f r ih =>
      have l := r.2.2.len.trans ih.1
      refine ⟨l, fun zs h => ?_⟩
      rcases List.mem_append.1 h with q | q
      · exact ih.2 zs q
      · rw [List.mem_singleton.1 q]
        exact l
  exact aux.2
theorem CssE.keepL {H : Hp} {us : List Addr} {css : List (List Chg)} {D : Addr} {vs ws : List V} (h : CssE H us css) (n : D ∉ us) (hd : H D = some (.lst vs)) : CssE (upd H D (.lst ws)) us css :=
  ⟨h.1, fun i r cs a b => by
    obtain ⟨⟨ts, h1, h2⟩, h3⟩ := h.2 i r cs a b
    have ne : r ≠ D := fun z => n (z ▸ List.mem_of_getElem? a)
    exact ⟨⟨ts, by rw [upd_ne ne]; exact h1, h2.keep (KpT.lst hd)⟩, h3⟩⟩
theorem CssE.snoc {H : Hp} {us : List Addr} {css : List (List Chg)} {u : Addr} {cs : List Chg} (h : CssE H us css) (a : CgsL H u cs) (b : cs.length ≤ 200) : CssE H (us ++ [u]) (css ++ [cs]) := by
  refine ⟨by rw [List.length_append, List.length_append, h.1]; rfl, fun i r ds hi hd => ?_⟩
  by_cases c : i < us.length
  · rw [List.getElem?_append_left c] at hi
    rw [List.getElem?_append_left (by rw [← h.1]; exact c)] at hd
    exact h.2 i r ds hi hd
  · rw [List.getElem?_append_right (by omega)] at hi
    rw [List.getElem?_append_right (by rw [← h.1]; omega)] at hd
    have il : i = us.length := by
      have := (List.getElem?_eq_some_iff.mp hi).1
      simp only [List.length_singleton] at this
      omega
    rw [il, Nat.sub_self] at hi
    rw [il, h.1, Nat.sub_self] at hd
    cases hi
    cases hd
    exact ⟨a, b⟩
def Fw (f : Nat × Nat) (w : Str) : Prop := (f.1 = 1 ∧ w = "image") ∨ (f.1 = 2 ∧ w = "unsettled")
theorem Fw.mem {f : Nat × Nat} {w : Str} (h : Fw f w) : w ∈ wordsW := by
  rcases h with ⟨_, rfl⟩ | ⟨_, rfl⟩ <;> decide +kernel
theorem AnF_of {ys : List Int} {f : Nat × Nat} {w : Str} {H : Hp} {Q : VK} (hf : faultS ys = some f) (fw : Fw f w) (h : AnW w (f.2 : Int) H Q) : ∀ g, faultS ys = some g → AnF g H Q := fun g hg => by
  rw [hf] at hg
  cases hg
  rcases fw with ⟨a, rfl⟩ | ⟨a, rfl⟩
  · exact ⟨fun _ => h, fun z => absurd z (by omega)⟩
  · exact ⟨fun z => absurd z (by omega), fun _ => h⟩
theorem Bx.neI {H : Hp} {b c t : Addr} {xs : List Int} (B : Bx H b c) (h : ListI H t xs) : t ≠ b := fun e => by
  obtain ⟨ns, d, i, k, s, h1, _⟩ := B
  have h : H t = some (.lst (xs.map V.int)) := h
  rw [e, h1] at h
  injection h with h
  injection h with h
  cases xs with
  | nil => cases h
  | cons x xs => injection h with h _; cases h
theorem Bx.neR {H : Hp} {b c t : Addr} {ts : List Addr} (B : Bx H b c) (h : H t = some (.lst (ts.map V.ref))) : t ≠ b := fun e => by
  obtain ⟨ns, d, i, k, s, h1, _⟩ := B
  rw [e, h1] at h
  injection h with h
  injection h with h
  match ts with
  | [] => cases h
  | [_] => injection h with _ h; cases h
  | _ :: _ :: _ => injection h with _ h; injection h with h _; cases h
theorem stN_of {zs : List Int} (h : faultS zs = none) : StN (natI zs) zs.length ∧ toI (natI zs) = zs := by
  obtain ⟨s, st⟩ := faultS_no h
  refine ⟨⟨natI_len, fun j hj => ?_, fun j hj => ?_⟩, ?_⟩
  · exact (natI_at s hj).2
  · exact st.inv j (by rw [natI_len]; exact hj)
  · have := natI_map s
    unfold nI at this
    unfold toI
    have e : ((natI zs).map fun x : Nat => (x : Int)).map V.int = zs.map V.int := by rw [List.map_map]; exact this
    have g : ∀ l : List Int, (l.map V.int).map (fun v => match v with | V.int i => i | _ => 0) = l := fun l => by
      rw [List.map_map]
      exact (List.map_congr_left fun x _ => rfl).trans (List.map_id l)
    rw [← g ((natI zs).map fun x : Nat => (x : Int)), e, g]
theorem st_fault {R : List Nat} {n : Nat} (s : StN R n) : faultS (toI R) = none ∧ (toI R).length = n := by
  have l : (toI R).length = n := by rw [toI_len]; exact s.len
  refine ⟨stI fun j hj => ?_, l⟩
  rw [l] at hj ⊢
  have a := s.lt j hj
  refine ⟨gt R j, toI_at (by rw [s.len]; exact hj), a, ?_⟩
  rw [toI_at (by rw [s.len]; exact a)]
  exact congrArg _ (s.bk j hj)
theorem rnd_nil {xs : List Int} : RndF xs [] (.rch xs) := ⟨rfl, firstOf_none fun j hj => by unfold tmF; rfl, rfl, fun _ _ _ => rfl, fun j c p h => by unfold tmF at h; cases h⟩
/-- all stays but what stands at b and at r -/
def Kbr (b r : Addr) (H H1 : Hp) : Prop := ∀ x o, x ≠ b → x ≠ r → H x = some o → H1 x = some o
theorem Kbr.of {b r : Addr} {H H1 : Hp} (m : Mut b H H1) : Kbr b r H H1 := fun x o n _ h => m x o n h
theorem Kbr.ex {b r : Addr} {H H1 : Hp} (m : Ex H H1) : Kbr b r H H1 := fun x o _ _ h => m x o h
theorem Kbr.trans {b r : Addr} {H H1 H2 : Hp} (m : Kbr b r H H1) (k : Kbr b r H1 H2) : Kbr b r H H2 := fun x o n n2 h => k x o n n2 (m x o n n2 h)
def DueR2 (r : Addr) (H : Hp) (d : Addr) : Out → Prop
  | .inv => H d = some (.tup [.str "invalid", .int 0])
  | .bus x => H d = some (.tup [.str "busy", .int (x : Int)])
  | .rch zs => ∃ u, H d = some (.tup [.str "reached", .ref u]) ∧ ListI H u zs ∧ u ≠ r
theorem DueR2.due {r : Addr} {H : Hp} {d : Addr} {o : Out} (h : DueR2 r H d o) : DueR H d o := by
  cases o with
  | inv => exact h
  | bus x => exact h
  | rch zs => exact ⟨h.choose, h.choose_spec.1, h.choose_spec.2.1⟩
theorem DueR2.keep {b c r : Addr} {H H1 : Hp} {d : Addr} {o : Out} (B : Bx H b c) (k : KpT H H1) (m : Kbr b r H H1) (h : DueR2 r H d o) : DueR2 r H1 d o := by
  cases o with
  | inv => exact k.p _ _ h
  | bus x => exact k.p _ _ h
  | rch zs =>
    obtain ⟨u, h1, h2, h3⟩ := h
    exact ⟨u, k.p _ _ h1, m _ _ (B.neI h2) h3 h2, h3⟩
/-- DueF, its lists told from r -/
def DueG (r : Addr) (H : Hp) (d : Addr) (xs : List Int) (css : List (List Chg)) : Prop :=
  (∃ rows ys u ts, Fol xs css rows ys ∧ H d = some (.tup [.str "reached", .ref u]) ∧ H u = some (.lst (ts.map V.ref)) ∧ RowsI H ts rows ∧ u ≠ r ∧ r ∉ ts) ∨ ∃ o, Fails xs css o ∧ DueR2 r H d o
theorem DueG.due {r : Addr} {H : Hp} {d : Addr} {xs : List Int} {css : List (List Chg)} (h : DueG r H d xs css) : DueF H d xs css := by
  rcases h with ⟨rows, ys, u, ts, f, a, b, c, _⟩ | ⟨o, f, a⟩
  · exact .inl ⟨rows, ys, u, ts, f, a, b, c⟩
  · exact .inr ⟨o, f, a.due⟩
theorem RowsI.keep {b c r : Addr} {H H1 : Hp} {ts : List Addr} {rows : List (List Int)} (B : Bx H b c) (m : Kbr b r H H1) (n : r ∉ ts) (h : RowsI H ts rows) : RowsI H1 ts rows :=
  ⟨h.1, fun i t zs a d => by
    have e := h.2 i t zs a d
    exact m _ _ (B.neI e) (fun z => n (z ▸ List.mem_of_getElem? a)) e⟩
theorem DueG.keep {b c r : Addr} {H H1 : Hp} {d : Addr} {xs : List Int} {css : List (List Chg)} (B : Bx H b c) (k : KpT H H1) (m : Kbr b r H H1) (h : DueG r H d xs css) : DueG r H1 d xs css := by
  rcases h with ⟨rows, ys, u, ts, f, a, e, g, n1, n2⟩ | ⟨o, f, a⟩
  · exact .inl ⟨rows, ys, u, ts, f, k.p _ _ a, m _ _ (B.neR e) n1 e, g.keep B m n2, n1, n2⟩
  · exact .inr ⟨o, f, a.keep B k m⟩
theorem CssE.keepB {b c r : Addr} {H H1 : Hp} {rs : List Addr} {css : List (List Chg)} (B : Bx H b c) (k : KpT H H1) (m : Kbr b r H H1) (n : r ∉ rs) (h : CssE H rs css) : CssE H1 rs css :=
  ⟨h.1, fun i t cs a d => by
    obtain ⟨⟨ts, h1, h2⟩, h3⟩ := h.2 i t cs a d
    exact ⟨⟨ts, m _ _ (B.neR h1) (fun z => n (z ▸ List.mem_of_getElem? a)) h1, h2.keep k⟩, h3⟩⟩
end Pv

/-! rows put together of pieces, step by step -/
namespace Pv
open Pm
/-- two records that show each other -/
def swp (R : List Nat) (x y : Nat) : List Nat := (R.set x y).set y x
theorem swp_len {R : List Nat} {x y : Nat} : (swp R x y).length = R.length := by
  unfold swp
  rw [List.length_set, List.length_set]
theorem gt_set {R : List Nat} {x y z : Nat} (hx : x < R.length) : gt (R.set x y) z = if z = x then y else gt R z := by
  unfold gt
  rw [List.getD_eq_getElem?_getD, List.getElem?_set, List.getD_eq_getElem?_getD]
  by_cases c : x = z
  · rw [if_pos c, if_pos c.symm, if_pos (by omega)]
    rfl
  · rw [if_neg c, if_neg (fun h => c h.symm)]
theorem gt_swp {R : List Nat} {x y z : Nat} (hx : x < R.length) (hy : y < R.length) : gt (swp R x y) z = if z = y then x else if z = x then y else gt R z := by
  unfold swp
  rw [gt_set (by rw [List.length_set]; exact hy), gt_set hx]
/-- whom the j-th record shows in the row r after k links -/
def stp (r s k j : Nat) : Nat := if (s + j) % 2 = r then (if j < k then j + 1 else j) else (if 0 < j ∧ j ≤ k then j - 1 else j)
theorem stp_zero {r s j : Nat} : stp r s 0 j = j := by
  unfold stp
  split <;> split <;> omega
theorem stp_same {r s k j : Nat} (hr : r < 2) (h : (s + k) % 2 ≠ r) : stp r s (k + 1) j = stp r s k j := by
  unfold stp
  split <;> split <;> split <;> omega
theorem stp_go {r s k j : Nat} (h : (s + k) % 2 = r) : stp r s (k + 1) j = if j = k + 1 then k else if j = k then k + 1 else stp r s k j := by
  unfold stp
  by_cases c1 : j = k + 1
  · rw [if_pos c1, if_neg (by omega), if_pos (by omega)]
    omega
  · rw [if_neg c1]
    by_cases c2 : j = k
    · rw [if_pos c2, if_pos (by omega), if_pos (by omega)]
      omega
    · rw [if_neg c2]
      split <;> split <;> split <;> omega
/-- the links so far, in the row r -/
structure Lnk (R0 R : List Nat) (L : List Nat) (r s k : Nat) : Prop where
  len : R.length = R0.length
  out : ∀ z, z ∉ L → gt R z = gt R0 z
  at_ : ∀ j, j < L.length → gt R (gt L j) = gt L (stp r s k j)
theorem Lnk.zero {R0 L : List Nat} {r s : Nat} (h : ∀ x ∈ L, gt R0 x = x) : Lnk R0 R0 L r s 0 :=
  ⟨rfl, fun _ _ => rfl, fun j hj => by rw [stp_zero]; exact h _ (gt_mem hj)⟩
theorem Lnk.same {R0 R L : List Nat} {r s k : Nat} (l : Lnk R0 R L r s k) (hr : r < 2) (h : (s + k) % 2 ≠ r) : Lnk R0 R L r s (k + 1) :=
  ⟨l.len, l.out, fun j hj => by rw [stp_same hr h]; exact l.at_ j hj⟩
theorem Lnk.go {R0 R L : List Nat} {r s k : Nat} (l : Lnk R0 R L r s k) (nd : L.Nodup) (lt : ∀ x ∈ L, x < R0.length) (hk : k + 1 < L.length) (h : (s + k) % 2 = r) : Lnk R0 (swp R (gt L k) (gt L (k + 1))) L r s (k + 1) := by
  have m1 := gt_mem (show k < L.length by omega)
  have m2 := gt_mem hk
  have b1 := lt _ m1
  have b2 := lt _ m2
  rw [← l.len] at b1 b2
  refine ⟨by rw [swp_len]; exact l.len, fun z hz => ?_, fun j hj => ?_⟩
  · rw [gt_swp b1 b2, if_neg (fun e => hz (by rw [e]; exact m2)), if_neg (fun e => hz (by rw [e]; exact m1))]
    exact l.out z hz
  · rw [gt_swp b1 b2, stp_go h]
    by_cases c1 : j = k + 1
    · rw [c1, if_pos rfl, if_pos rfl]
    · rw [if_neg (fun e => c1 (gt_inj nd hj hk e)), if_neg c1]
      by_cases c2 : j = k
      · rw [c2, if_pos rfl, if_pos rfl]
      · rw [if_neg (fun e => c2 (gt_inj nd hj (by omega) e)), if_neg c2]
        exact l.at_ j hj
theorem Lnk.chain {R0 R : List Nat} {p : Pc} {r : Nat} (l : Lnk R0 R p.2.1 r p.2.2 (p.2.1.length - 1)) (hw : p.1 = 2) : PcAt R r p := by
  intro k hk
  rw [l.at_ k hk]
  congr 1
  unfold stp nb
  rw [if_neg (show ¬ p.1 = 0 by omega), if_neg (show ¬ p.1 = 1 by omega), if_neg (show ¬ p.1 = 3 by omega), if_neg (show ¬ p.1 = 3 by omega)]
  split
  · split <;> split <;> omega
  · split <;> split <;> omega
theorem Lnk.free {R0 R : List Nat} {p : Pc} {r : Nat} (l : Lnk R0 R p.2.1 r p.2.2 (p.2.1.length - 1)) (ok : PcOk p) (hw : p.1 = 0) : PcAt R r p := by
  intro k hk
  rw [l.at_ k hk]
  congr 1
  have := ok.l0 hw
  rw [show p.2.1.length - 1 = 0 by omega, stp_zero]
  unfold nb
  rw [if_pos hw]
theorem Lnk.ring0 {R0 R : List Nat} {p : Pc} (l : Lnk R0 R p.2.1 0 p.2.2 (p.2.1.length - 1)) (ok : PcOk p) (hw : p.1 = 3) (s0 : p.2.2 = 0) : PcAt R 0 p := by
  intro k hk
  rw [l.at_ k hk]
  congr 1
  obtain ⟨n4, n2⟩ := ok.l3 hw
  unfold stp nb
  rw [if_neg (show ¬ p.1 = 0 by omega), if_neg (show ¬ p.1 = 1 by omega), if_pos hw, if_pos hw, s0]
  split
  · split <;> split <;> omega
  · split <;> split <;> omega
theorem Lnk.ring1 {R0 R : List Nat} {p : Pc} (l : Lnk R0 R p.2.1 1 p.2.2 (p.2.1.length - 1)) (ok : PcOk p) (lt : ∀ x ∈ p.2.1, x < R0.length) (hw : p.1 = 3) (s0 : p.2.2 = 0) : PcAt (swp R (gt p.2.1 (p.2.1.length - 1)) (gt p.2.1 0)) 1 p := by
  intro k hk
  obtain ⟨n4, n2⟩ := ok.l3 hw
  have m1 := lt _ (gt_mem (show p.2.1.length - 1 < p.2.1.length by omega))
  have m2 := lt _ (gt_mem (show 0 < p.2.1.length by omega))
  rw [← l.len] at m1 m2
  rw [gt_swp m1 m2]
  unfold nb
  rw [if_neg (show ¬ p.1 = 0 by omega), if_neg (show ¬ p.1 = 1 by omega), if_pos hw, if_pos hw, s0]
  by_cases c1 : k = 0
  · rw [if_pos (by rw [c1]), if_neg (by omega), if_neg (by omega)]
  · rw [if_neg (fun e => c1 (gt_inj ok.nd hk (by omega) e))]
    by_cases c2 : k = p.2.1.length - 1
    · rw [if_pos (by rw [← c2]), if_pos (by omega), if_neg (by omega)]
    · rw [if_neg (fun e => c2 (gt_inj ok.nd hk (by omega) e)), l.at_ k hk, s0]
      congr 1
      unfold stp
      split
      · split <;> split <;> omega
      · split <;> split <;> omega
theorem ring_out {R0 R L : List Nat} {s k : Nat} (l : Lnk R0 R L 1 s k) (pos : 0 < L.length) (lt : ∀ x ∈ L, x < R0.length) : ∀ z, z ∉ L → gt (swp R (gt L (L.length - 1)) (gt L 0)) z = gt R0 z := fun z hz => by
  have a1 := gt_mem (show L.length - 1 < L.length by omega)
  have a2 := gt_mem pos
  have m1 := lt _ a1
  have m2 := lt _ a2
  rw [← l.len] at m1 m2
  rw [gt_swp m1 m2, if_neg (fun e => hz (by rw [e]; exact a2)), if_neg (fun e => hz (by rw [e]; exact a1))]
  exact l.out z hz
theorem pair_at {R : List Nat} {p : Pc} {r : Nat} (ok : PcOk p) (hw : p.1 = 1) (lt : ∀ x ∈ p.2.1, x < R.length) : PcAt (swp R (gt p.2.1 0) (gt p.2.1 1)) r p ∧ ∀ z, z ∉ p.2.1 → gt (swp R (gt p.2.1 0) (gt p.2.1 1)) z = gt R z := by
  have l1 := ok.l1 hw
  have a1 := gt_mem (show 0 < p.2.1.length by omega)
  have a2 := gt_mem (show 1 < p.2.1.length by omega)
  have m1 := lt _ a1
  have m2 := lt _ a2
  refine ⟨fun k hk => ?_, fun z hz => ?_⟩
  · rw [gt_swp m1 m2]
    unfold nb
    rw [if_neg (show ¬ p.1 = 0 by omega), if_pos hw]
    by_cases c : k = 1
    · rw [c, if_pos rfl]
    · rw [if_neg (fun e => c (gt_inj ok.nd hk (by omega) e)), if_pos (by rw [show k = 0 by omega]), show 1 - k = 1 by omega]
  · rw [gt_swp m1 m2, if_neg (fun e => hz (by rw [e]; exact a2)), if_neg (fun e => hz (by rw [e]; exact a1))]
/-- the rows after some pieces -/
structure Stt (n : Nat) (qs : List Pc) (A B : List Nat) : Prop where
  la : A.length = n
  lb : B.length = n
  at_ : ∀ p ∈ qs, PcAt A 0 p ∧ PcAt B 1 p
  out : ∀ x, x < n → x ∉ qs.flatMap (·.2.1) → gt A x = x ∧ gt B x = x
theorem Stt.step {n : Nat} {qs : List Pc} {p : Pc} {A B A1 B1 : List Nat} (S : Stt n qs A B) (ok : ∀ q ∈ qs, PcOk q) (dis : ∀ x ∈ p.2.1, x ∉ qs.flatMap (·.2.1)) (l1 : A1.length = A.length) (l2 : B1.length = B.length) (o1 : ∀ z, z ∉ p.2.1 → gt A1 z = gt A z) (o2 : ∀ z, z ∉ p.2.1 → gt B1 z = gt B z) (h1 : PcAt A1 0 p) (h2 : PcAt B1 1 p) : Stt n (qs ++ [p]) A1 B1 := by
  refine ⟨l1.trans S.la, l2.trans S.lb, fun q hq => ?_, fun x hx hn => ?_⟩
  · rcases List.mem_append.mp hq with hq | hq
    · obtain ⟨a, b⟩ := S.at_ q hq
      have no : ∀ k, k < q.2.1.length → gt q.2.1 k ∉ p.2.1 := fun k hk h => dis _ h (List.mem_flatMap.mpr ⟨q, hq, gt_mem hk⟩)
      exact ⟨fun k hk => by rw [o1 _ (no k hk)]; exact a k hk, fun k hk => by rw [o2 _ (no k hk)]; exact b k hk⟩
    · rw [List.mem_singleton.mp hq]
      exact ⟨h1, h2⟩
  · rw [List.flatMap_append, List.mem_append, not_or] at hn
    have hp : x ∉ p.2.1 := fun h => hn.2 (List.mem_flatMap.mpr ⟨p, List.mem_singleton.mpr rfl, h⟩)
    rw [o1 _ hp, o2 _ hp]
    exact S.out x hx hn.1
theorem gt_range {n x : Nat} (h : x < n) : gt (List.range n) x = x := by
  unfold gt
  rw [List.getD_eq_getElem?_getD, List.getElem?_range h]
  rfl
theorem Stt.zero {n : Nat} : Stt n [] (List.range n) (List.range n) :=
  ⟨List.length_range, List.length_range, (fun _ h => by cases h), fun x hx _ => ⟨gt_range hx, gt_range hx⟩⟩
end Pv

/-! rows put together of pieces are states -/
namespace Pv
open Pm
theorem nb_nb {p : Pc} (ok : PcOk p) {r k : Nat} (hr : r < 2) (hk : k < p.2.1.length) : nb r p.1 p.2.1.length p.2.2 (nb r p.1 p.2.1.length p.2.2 k) = k := by
  have h0 := ok.l0
  have h1 := ok.l1
  have h2 := ok.l2
  have h3 := ok.l3
  have hw := ok.w
  by_cases c0 : p.1 = 0
  · have nz : ∀ j, nb r p.1 p.2.1.length p.2.2 j = j := fun j => by unfold nb; rw [if_pos c0]
    rw [nz, nz]
  by_cases c1 : p.1 = 1
  · have l := h1 c1
    have n1 : ∀ j, nb r p.1 p.2.1.length p.2.2 j = 1 - j := fun j => by unfold nb; rw [if_neg c0, if_pos c1]
    rw [n1, n1]
    omega
  have cr : ∀ j, nb r p.1 p.2.1.length p.2.2 j = if (p.2.2 + j) % 2 = r then (if j + 1 < p.2.1.length then j + 1 else if p.1 = 3 then 0 else j) else (if 0 < j then j - 1 else if p.1 = 3 then p.2.1.length - 1 else j) := fun j => nb_cr (by omega)
  rw [cr k]
  by_cases par : (p.2.2 + k) % 2 = r
  · rw [if_pos par]
    by_cases d : k + 1 < p.2.1.length
    · rw [if_pos d, cr, if_neg (by omega), if_pos (by omega)]
      omega
    · rw [if_neg d]
      by_cases c3 : p.1 = 3
      · obtain ⟨n4, n2⟩ := h3 c3
        rw [if_pos c3, cr, if_neg (by omega), if_neg (by omega), if_pos c3]
        omega
      · rw [if_neg c3, cr, if_pos par, if_neg d, if_neg c3]
  · rw [if_neg par]
    by_cases d : 0 < k
    · rw [if_pos d, cr, if_pos (by omega), if_pos (by omega)]
      omega
    · rw [if_neg d]
      by_cases c3 : p.1 = 3
      · obtain ⟨n4, n2⟩ := h3 c3
        rw [if_pos c3, cr, if_pos (by omega), if_neg (by omega), if_pos c3]
        omega
      · rw [if_neg c3, cr, if_neg par, if_neg d, if_neg c3]
theorem Bl.sta_ {A B : List Nat} {f n r : Nat} {ps : List Pc} (b : Bl A B f ps n) {R : List Nat} (hr : r < 2) (hl : R.length = n) (h : ∀ p ∈ ps, PcAt R r p) : Sta R := by
  have one : ∀ x, x < n → ∃ p q, p ∈ ps ∧ q < p.2.1.length ∧ gt p.2.1 q = x := fun x hx => by
    obtain ⟨p, hp, hm⟩ := b.own hx
    obtain ⟨q, hq, e⟩ := mem_getD hm
    exact ⟨p, q, hp, hq, e⟩
  refine ⟨fun x hx => ?_, fun x hx => ?_⟩
  · rw [hl] at hx ⊢
    obtain ⟨p, q, hp, hq, rfl⟩ := one x hx
    rw [h p hp q hq]
    exact b.lt hp _ (gt_mem (nb_lt (b.ok p hp) hq))
  · rw [hl] at hx
    obtain ⟨p, q, hp, hq, rfl⟩ := one x hx
    rw [h p hp q hq, h p hp _ (nb_lt (b.ok p hp) hq), nb_nb (b.ok p hp) hr hq]
theorem Bl.sta {A B : List Nat} {f n : Nat} {ps : List Pc} (b : Bl A B f ps n) : Sta A ∧ Sta B := by
  have hf := b.hf
  exact ⟨b.sta_ hf b.la fun p hp => (b.at_ p hp).1, b.sta_ (r := 1 - f) (by omega) b.lb fun p hp => (b.at_ p hp).2⟩
end Pv

/-! any two states are put together of pieces -/
namespace Pv
open Pm
structure PcOf (A B : List Nat) (p : Pc) : Prop where
  ok : PcOk p
  a : PcAt A 0 p
  b : PcAt B 1 p
  lt : ∀ x ∈ p.2.1, x < A.length
  c2 : p.1 = 2 → gt p.2.1 0 < gt p.2.1 (p.2.1.length - 1)
  c3 : p.1 = 3 → p.2.2 = 0 ∧ ∀ x ∈ p.2.1, gt p.2.1 0 ≤ x
theorem trl_reach {A B w : List Nat} {s : Nat} (T : Trl A B s w) {S : Nat → Prop} (cl : ∀ y, y < A.length → S y → S (gt A y) ∧ S (gt B y)) (hs : S s) : ∀ j, j < w.length → S (gt w j)
  | 0, _ => by rw [T.st]; exact hs
  | j + 1, h => by
    have ih := trl_reach T cl hs j (by omega)
    have c := cl _ (T.lt _ (gt_mem (by omega))) ih
    rw [← T.go j h]
    unfold sel
    split
    · exact c.1
    · exact c.2
theorem gt_ix {l : List Nat} {x : Nat} (h : x ∈ l) : ∃ j, j < l.length ∧ gt l j = x := by
  obtain ⟨i, hi, e⟩ := List.getElem_of_mem h
  refine ⟨i, hi, ?_⟩
  unfold gt
  rw [List.getD_eq_getElem?_getD, List.getElem?_eq_getElem hi]
  exact e
/-- a trail that comes back to its start -/
theorem ring_of {A B w : List Nat} {x : Nat} (sa : Sta A) (sb : Sta B) (hl : B.length = A.length) (T : Trl A B x w) (ne : gt A x ≠ gt B x) (nf : gt (sel A B (w.length - 1)) (gt w (w.length - 1)) ≠ gt w (w.length - 1)) (low : ∀ y ∈ w, x ≤ y) : PcOf A B (3, w, 0) := by
  have pos := T.pos
  have xl : x < A.length := by rw [← T.st]; exact T.lt _ (gt_mem pos)
  have ltw : ∀ j, j < w.length → gt w j < A.length := fun j h => T.lt _ (gt_mem h)
  have fin : gt (sel A B (w.length - 1)) (gt w (w.length - 1)) = x := T.fin.resolve_left nf
  have go := T.go
  have odd : (w.length - 1) % 2 = 1 := by
    apply Classical.byContradiction
    intro c
    have c0 : (w.length - 1) % 2 = 0 := by omega
    have fa : gt A (gt w (w.length - 1)) = x := by
      unfold sel at fin
      rw [if_pos c0] at fin
      exact fin
    have la : gt A x = gt w (w.length - 1) := by rw [← fa]; exact sa.inv _ (ltw _ (by omega))
    by_cases n1 : w.length = 1
    · have : gt w (w.length - 1) = x := by rw [n1]; exact T.st
      exact nf (by rw [fin, this])
    · have g0 := go 0 (by omega)
      have g0 : gt A (gt w 0) = gt w 1 := g0
      rw [T.st, la] at g0
      have := gt_inj T.nd (by omega) (by omega) g0
      omega
  have fb : gt B (gt w (w.length - 1)) = x := by
    unfold sel at fin
    rw [if_neg (by omega)] at fin
    exact fin
  have lb : gt B x = gt w (w.length - 1) := by rw [← fb]; exact sb.inv _ (by rw [hl]; exact ltw _ (by omega))
  have four : 4 ≤ w.length := by
    by_cases c : w.length = 2
    · have g0 : gt A (gt w 0) = gt w 1 := go 0 (by omega)
      rw [T.st] at g0
      rw [c] at lb
      exact absurd (g0.trans lb.symm) ne
    · omega
  have goA : ∀ j, j + 1 < w.length → j % 2 = 0 → gt A (gt w j) = gt w (j + 1) := fun j h c => by
    have := go j h
    unfold sel at this
    rw [if_pos c] at this
    exact this
  have goB : ∀ j, j + 1 < w.length → j % 2 = 1 → gt B (gt w j) = gt w (j + 1) := fun j h c => by
    have := go j h
    unfold sel at this
    rw [if_neg (by omega)] at this
    exact this
  refine ⟨⟨by show 3 < 4; decide, by show 0 < 2; decide, T.nd, (fun h => by cases h), (fun h => by cases h), (fun h => by cases h), fun _ => ⟨four, by show w.length % 2 = 0; omega⟩⟩, fun k hk => ?_, fun k hk => ?_, T.lt, (fun h => by cases h), fun _ => ⟨rfl, fun y hy => ?_⟩⟩
  · have hk : k < w.length := hk
    show gt A (gt w k) = gt w (nb 0 3 w.length 0 k)
    rw [nb_cr (by decide)]
    by_cases c : (0 + k) % 2 = 0
    · rw [if_pos c, if_pos (by omega)]
      exact goA k (by omega) (by omega)
    · rw [if_neg c, if_pos (by omega)]
      have := goA (k - 1) (by omega) (by omega)
      rw [show k - 1 + 1 = k by omega] at this
      rw [← this]
      exact sa.inv _ (ltw _ (by omega))
  · have hk : k < w.length := hk
    show gt B (gt w k) = gt w (nb 1 3 w.length 0 k)
    rw [nb_cr (by decide)]
    by_cases c : (0 + k) % 2 = 1
    · rw [if_pos c]
      by_cases e : k + 1 < w.length
      · rw [if_pos e]
        exact goB k e (by omega)
      · rw [if_neg e, if_pos rfl, T.st, show k = w.length - 1 by omega]
        exact fb
    · rw [if_neg c]
      by_cases e : 0 < k
      · rw [if_pos e]
        have := goB (k - 1) (by omega) (by omega)
        rw [show k - 1 + 1 = k by omega] at this
        rw [← this]
        exact sb.inv _ (by rw [hl]; exact ltw _ (by omega))
      · rw [if_neg e, if_pos rfl, show k = 0 by omega, T.st]
        exact lb
  · show gt w 0 ≤ y
    rw [T.st]
    exact low y hy
/-- a trail from a record that the other state leaves free -/
theorem chain_at {G F w : List Nat} {e : Nat} (sg : Sta G) (sf : Sta F) (hl : F.length = G.length) (T : Trl G F e w) (fe : gt F e = e) :
    (∀ k, k < w.length → gt G (gt w k) = gt w (if k % 2 = 0 then (if k + 1 < w.length then k + 1 else k) else k - 1)) ∧ ∀ k, k < w.length → gt F (gt w k) = gt w (if k % 2 = 1 then (if k + 1 < w.length then k + 1 else k) else if 0 < k then k - 1 else k) := by
  have pos := T.pos
  have ltw : ∀ j, j < w.length → gt w j < G.length := fun j h => T.lt _ (gt_mem h)
  have el : e < G.length := by rw [← T.st]; exact ltw 0 pos
  have go := T.go
  have goA : ∀ j, j + 1 < w.length → j % 2 = 0 → gt G (gt w j) = gt w (j + 1) := fun j h c => by
    have := go j h
    unfold sel at this
    rw [if_pos c] at this
    exact this
  have goB : ∀ j, j + 1 < w.length → j % 2 = 1 → gt F (gt w j) = gt w (j + 1) := fun j h c => by
    have := go j h
    unfold sel at this
    rw [if_neg (by omega)] at this
    exact this
  have fin : gt (sel G F (w.length - 1)) (gt w (w.length - 1)) = gt w (w.length - 1) := by
    rcases T.fin with h | h
    · exact h
    by_cases n1 : w.length = 1
    · have : gt w (w.length - 1) = e := by rw [n1]; exact T.st
      rw [h, this]
    exfalso
    by_cases c : (w.length - 1) % 2 = 0
    · unfold sel at h
      rw [if_pos c] at h
      have la : gt G e = gt w (w.length - 1) := by rw [← h]; exact sg.inv _ (ltw _ (by omega))
      have g0 := goA 0 (by omega) rfl
      rw [T.st, la] at g0
      have := gt_inj T.nd (by omega) (by omega) g0
      omega
    · unfold sel at h
      rw [if_neg c] at h
      have la : gt F e = gt w (w.length - 1) := by rw [← h]; exact sf.inv _ (by rw [hl]; exact ltw _ (by omega))
      rw [fe, ← T.st] at la
      have := gt_inj T.nd (by omega) (by omega) la
      omega
  refine ⟨fun k hk => ?_, fun k hk => ?_⟩
  · by_cases c : k % 2 = 0
    · rw [if_pos c]
      by_cases d : k + 1 < w.length
      · rw [if_pos d]
        exact goA k d c
      · rw [if_neg d]
        have ek : k = w.length - 1 := by omega
        unfold sel at fin
        rw [← ek, if_pos c] at fin
        exact fin
    · rw [if_neg c]
      have := goA (k - 1) (by omega) (by omega)
      rw [show k - 1 + 1 = k by omega] at this
      rw [← this]
      exact sg.inv _ (ltw _ (by omega))
  · by_cases c : k % 2 = 1
    · rw [if_pos c]
      by_cases d : k + 1 < w.length
      · rw [if_pos d]
        exact goB k d c
      · rw [if_neg d]
        have ek : k = w.length - 1 := by omega
        unfold sel at fin
        rw [← ek, if_neg (by omega)] at fin
        exact fin
    · rw [if_neg c]
      by_cases d : 0 < k
      · rw [if_pos d]
        have := goB (k - 1) (by omega) (by omega)
        rw [show k - 1 + 1 = k by omega] at this
        rw [← this]
        exact sf.inv _ (by rw [hl]; exact ltw _ (by omega))
      · rw [if_neg d, show k = 0 by omega, T.st]
        exact fe
theorem gt_rev' {l : List Nat} {j : Nat} (h : j < l.length) : gt l.reverse j = gt l (l.length - 1 - j) := gt_rev h
theorem rev_at {A w : List Nat} {r s : Nat} (hr : r < 2) (h : PcAt A r (2, w, s)) : PcAt A r (2, w.reverse, (s + w.length) % 2) := by
  intro k hk
  have hk : k < w.length := by rw [← List.length_reverse]; exact hk
  have h1 := h (w.length - 1 - k) (by show w.length - 1 - k < w.length; omega)
  show gt A (gt w.reverse k) = gt w.reverse (nb r 2 w.reverse.length ((s + w.length) % 2) k)
  rw [gt_rev' hk, List.length_reverse]
  have h1 : gt A (gt w (w.length - 1 - k)) = gt w (nb r 2 w.length s (w.length - 1 - k)) := h1
  rw [h1]
  have e : nb r 2 w.length s (w.length - 1 - k) = w.length - 1 - nb r 2 w.length ((s + w.length) % 2) k ∧ nb r 2 w.length ((s + w.length) % 2) k < w.length := by
    rw [nb_cr (by decide), nb_cr (by decide)]
    by_cases c : (s + (w.length - 1 - k)) % 2 = r
    · rw [if_pos c, if_neg (show ¬ ((s + w.length) % 2 + k) % 2 = r by omega)]
      by_cases d : 0 < k
      · rw [if_pos d, if_pos (by omega)]
        omega
      · rw [if_neg d, if_neg (by omega), if_neg (by decide), if_neg (by decide)]
        omega
    · rw [if_neg c, if_pos (show ((s + w.length) % 2 + k) % 2 = r by omega)]
      by_cases d : k + 1 < w.length
      · rw [if_pos d, if_pos (by omega)]
        omega
      · rw [if_neg d, if_neg (by omega), if_neg (by decide), if_neg (by decide)]
        omega
  rw [e.1, gt_rev' e.2]
/-- a chain from either end is a piece -/
theorem chain_of {A B w : List Nat} {s : Nat} (hs : s < 2) (nd : w.Nodup) (l2 : 2 ≤ w.length) (lt : ∀ x ∈ w, x < A.length) (a : PcAt A 0 (2, w, s)) (b : PcAt B 1 (2, w, s)) : ∃ p, PcOf A B p ∧ ∀ x, x ∈ p.2.1 ↔ x ∈ w := by
  by_cases c : gt w 0 < gt w (w.length - 1)
  · exact ⟨(2, w, s), ⟨⟨by show 2 < 4; decide, hs, nd, (fun h => by cases h), (fun h => by cases h), fun _ => l2, (fun h => by cases h)⟩, a, b, lt, fun _ => c, (fun h => by cases h)⟩, fun x => Iff.rfl⟩
  · refine ⟨(2, w.reverse, (s + w.length) % 2), ⟨⟨by show 2 < 4; decide, by show _ % 2 < 2; omega, (List.reverse_perm w).nodup_iff.2 nd, (fun h => by cases h), (fun h => by cases h), fun _ => by show 2 ≤ w.reverse.length; rw [List.length_reverse]; exact l2, (fun h => by cases h)⟩, rev_at (by decide) a, rev_at (by decide) b, fun x hx => lt x (List.mem_reverse.1 hx), fun _ => ?_, (fun h => by cases h)⟩, fun x => List.mem_reverse⟩
    show gt w.reverse 0 < gt w.reverse (w.reverse.length - 1)
    rw [gt_rev' (by omega), List.length_reverse, gt_rev' (by omega), Nat.sub_zero, Nat.sub_self]
    have : gt w 0 ≠ gt w (w.length - 1) := fun z => by
      have := gt_inj nd (by omega) (by omega) z
      omega
    omega
theorem nb_chain0 {n k s : Nat} : nb 0 2 n 0 k = (if k % 2 = 0 then (if k + 1 < n then k + 1 else k) else k - 1) := by
  rw [nb_cr (by decide), Nat.zero_add, if_neg (show ¬ (2 : Nat) = 3 by decide), if_neg (show ¬ (2 : Nat) = 3 by decide)]
  by_cases c : k % 2 = 0
  · rw [if_pos c, if_pos c]
  · rw [if_neg c, if_neg c, if_pos (by omega)]
theorem nb_chain1 {n k s : Nat} : nb 1 2 n 0 k = (if k % 2 = 1 then (if k + 1 < n then k + 1 else k) else if 0 < k then k - 1 else k) := by
  rw [nb_cr (by decide), Nat.zero_add, if_neg (show ¬ (2 : Nat) = 3 by decide), if_neg (show ¬ (2 : Nat) = 3 by decide)]
theorem nb_flip {n k r : Nat} (hr : r < 2) : nb r 2 n 1 k = nb (1 - r) 2 n 0 k := by
  rw [nb_cr (by decide), nb_cr (by decide)]
  by_cases c : (1 + k) % 2 = r
  · rw [if_pos c, if_pos (show (0 + k) % 2 = 1 - r by omega)]
  · rw [if_neg c, if_neg (show ¬ (0 + k) % 2 = 1 - r by omega)]
/-- the piece of a record -/
theorem piece_of {A B : List Nat} (sa : Sta A) (sb : Sta B) (hl : B.length = A.length) {x : Nat} (hx : x < A.length) (low : ∀ w, Trl A B x w → gt (sel A B (w.length - 1)) (gt w (w.length - 1)) ≠ gt w (w.length - 1) → ∀ y ∈ w, x ≤ y) :
    ∃ p, PcOf A B p ∧ x ∈ p.2.1 ∧ ∀ S : Nat → Prop, (∀ y, y < A.length → S y → S (gt A y) ∧ S (gt B y)) → S x → ∀ y ∈ p.2.1, S y := by
  by_cases ne : gt A x = gt B x
  · by_cases fx : gt A x = x
    · refine ⟨(0, [x], 0), ⟨⟨by show 0 < 4; decide, by show 0 < 2; decide, by simp, fun _ => rfl, (fun h => by cases h), (fun h => by cases h), (fun h => by cases h)⟩, fun k hk => ?_, fun k hk => ?_, fun y hy => by rw [List.mem_singleton.1 hy]; exact hx, (fun h => by cases h), (fun h => by cases h)⟩, List.mem_singleton.mpr rfl, fun S _ s y hy => by rw [List.mem_singleton.1 hy]; exact s⟩
      · have hk : k < 1 := hk
        rw [show k = 0 by omega]
        exact fx
      · have hk : k < 1 := hk
        rw [show k = 0 by omega]
        exact ne.symm.trans fx
    · have yl := sa.lt x hx
      have back := sa.inv x hx
      have backB : gt B (gt A x) = x := by rw [ne]; exact sb.inv x (by rw [hl]; exact hx)
      refine ⟨(1, [x, gt A x], 0), ⟨⟨by show 1 < 4; decide, by show 0 < 2; decide, by simp; exact fun z => fx z.symm, (fun h => by cases h), fun _ => rfl, (fun h => by cases h), (fun h => by cases h)⟩, fun k hk => ?_, fun k hk => ?_, fun y hy => ?_, (fun h => by cases h), (fun h => by cases h)⟩, List.mem_cons_self .., fun S cl s y hy => ?_⟩
      · have hk : k < 2 := hk
        rcases (show k = 0 ∨ k = 1 by omega) with rfl | rfl
        · rfl
        · exact back
      · have hk : k < 2 := hk
        rcases (show k = 0 ∨ k = 1 by omega) with rfl | rfl
        · exact ne.symm
        · exact backB
      · rcases List.mem_cons.1 hy with q | q
        · rw [q]; exact hx
        · rw [List.mem_singleton.1 q]; exact yl
      · rcases List.mem_cons.1 hy with q | q
        · rw [q]; exact s
        · rw [List.mem_singleton.1 q]; exact (cl x hx s).1
  obtain ⟨w0, T0⟩ := trl_ex hl.symm sa sb hx
  by_cases nf : gt (sel A B (w0.length - 1)) (gt w0 (w0.length - 1)) = gt w0 (w0.length - 1)
  · have pos := T0.pos
    have e0l : gt w0 (w0.length - 1) < A.length := T0.lt _ (gt_mem (by omega))
    -- the whole chain from its end
    have main : ∀ (G F w : List Nat), (G = A ∧ F = B) ∨ (G = B ∧ F = A) → Trl G F (gt w0 (w0.length - 1)) w → gt F (gt w0 (w0.length - 1)) = gt w0 (w0.length - 1) → ∃ p, PcOf A B p ∧ x ∈ p.2.1 ∧ ∀ S : Nat → Prop, (∀ y, y < A.length → S y → S (gt A y) ∧ S (gt B y)) → S x → ∀ y ∈ p.2.1, S y := by
      intro G F w gf T fe
      have sg : Sta G := by rcases gf with ⟨rfl, _⟩ | ⟨rfl, _⟩ <;> assumption
      have sf : Sta F := by rcases gf with ⟨_, rfl⟩ | ⟨_, rfl⟩ <;> assumption
      have hlg : F.length = G.length := by rcases gf with ⟨rfl, rfl⟩ | ⟨rfl, rfl⟩ <;> omega
      have gl : G.length = A.length := by rcases gf with ⟨rfl, rfl⟩ | ⟨rfl, rfl⟩ <;> omega
      obtain ⟨cg, cf⟩ := chain_at sg sf hlg T fe
      have posw := T.pos
      have closed : ∀ y ∈ w, gt A y ∈ w ∧ gt B y ∈ w := fun y hy => by
        obtain ⟨j, hj, rfl⟩ := gt_ix hy
        have h1 : gt G (gt w j) ∈ w := by rw [cg j hj]; exact gt_mem (by split <;> (try split) <;> omega)
        have h2 : gt F (gt w j) ∈ w := by rw [cf j hj]; exact gt_mem (by split <;> split <;> omega)
        rcases gf with ⟨rfl, rfl⟩ | ⟨rfl, rfl⟩
        · exact ⟨h1, h2⟩
        · exact ⟨h2, h1⟩
      have back : ∀ d, d < w0.length → gt w0 (w0.length - 1 - d) ∈ w := by
        intro d
        induction d with
        | zero => exact fun _ => by rw [Nat.sub_zero, ← T.st]; exact gt_mem posw
        | succ d ih =>
          intro hd
          have h1 := ih (by omega)
          have g := T0.go (w0.length - 1 - (d + 1)) (by omega)
          rw [show w0.length - 1 - (d + 1) + 1 = w0.length - 1 - d by omega] at g
          have hy := T0.lt _ (gt_mem (show w0.length - 1 - (d + 1) < w0.length by omega))
          have c := closed _ h1
          rw [← g] at c
          unfold sel at c
          by_cases q : (w0.length - 1 - (d + 1)) % 2 = 0
          · rw [if_pos q, sa.inv _ hy] at c
            exact c.1
          · rw [if_neg q, sb.inv _ (by rw [hl]; exact hy)] at c
            exact c.2
      have xw : x ∈ w := by
        have := back (w0.length - 1) (by omega)
        rw [Nat.sub_self, T0.st] at this
        exact this
      have l2 : 2 ≤ w.length := by
        apply Classical.byContradiction
        intro c
        have one : w.length = 1 := by omega
        obtain ⟨j, hj, e⟩ := gt_ix xw
        have hj0 : j = 0 := by omega
        rw [hj0] at e
        have h1 := cg 0 posw
        have h2 := cf 0 posw
        rw [if_pos rfl, if_neg (by omega), e] at h1
        rw [if_neg (by decide), if_neg (by decide), e] at h2
        rcases gf with ⟨rfl, rfl⟩ | ⟨rfl, rfl⟩
        · exact ne (h1.trans h2.symm)
        · exact ne (h2.trans h1.symm)
      have lt : ∀ y ∈ w, y < A.length := fun y hy => by rw [← gl]; exact T.lt y hy
      obtain ⟨p, hp, mem⟩ : ∃ p, PcOf A B p ∧ ∀ x, x ∈ p.2.1 ↔ x ∈ w := by
        rcases gf with ⟨rfl, rfl⟩ | ⟨rfl, rfl⟩
        · refine chain_of (s := 0) (by decide) T.nd l2 lt (fun k hk => ?_) (fun k hk => ?_)
          · show gt G (gt w k) = gt w (nb 0 2 w.length 0 k)
            rw [nb_chain0 (s := 0)]
            exact cg k hk
          · show gt F (gt w k) = gt w (nb 1 2 w.length 0 k)
            rw [nb_chain1 (s := 0)]
            exact cf k hk
        · refine chain_of (s := 1) (by decide) T.nd l2 lt (fun k hk => ?_) (fun k hk => ?_)
          · show gt F (gt w k) = gt w (nb 0 2 w.length 1 k)
            rw [nb_flip (by decide)]
            show gt F (gt w k) = gt w (nb 1 2 w.length 0 k)
            rw [nb_chain1 (s := 0)]
            exact cf k hk
          · show gt G (gt w k) = gt w (nb 1 2 w.length 1 k)
            rw [nb_flip (by decide)]
            show gt G (gt w k) = gt w (nb 0 2 w.length 0 k)
            rw [nb_chain0 (s := 0)]
            exact cg k hk
      refine ⟨p, hp, (mem x).2 xw, fun S cl s y hy => ?_⟩
      have se := trl_reach T0 cl s (w0.length - 1) (by omega)
      obtain ⟨j, hj, rfl⟩ := gt_ix ((mem y).1 hy)
      refine trl_reach T (S := S) (fun z hz q => ?_) se j hj
      have := cl z (by rw [← gl]; exact hz) q
      rcases gf with ⟨rfl, rfl⟩ | ⟨rfl, rfl⟩
      · exact this
      · exact this.symm
    unfold sel at nf
    by_cases par : (w0.length - 1) % 2 = 0
    · rw [if_pos par] at nf
      obtain ⟨w, T⟩ := trl_ex (s := gt w0 (w0.length - 1)) hl sb sa (by rw [hl]; exact e0l)
      exact main B A w (.inr ⟨rfl, rfl⟩) T nf
    · rw [if_neg par] at nf
      obtain ⟨w, T⟩ := trl_ex (s := gt w0 (w0.length - 1)) hl.symm sa sb e0l
      exact main A B w (.inl ⟨rfl, rfl⟩) T nf
  · refine ⟨(3, w0, 0), ring_of sa sb hl T0 ne nf (low w0 T0 nf), ?_, fun S cl s y hy => ?_⟩
    · show x ∈ w0
      rw [← T0.st]
      exact gt_mem T0.pos
    · obtain ⟨j, hj, rfl⟩ := gt_ix hy
      exact trl_reach T0 cl s j hj
/-- any two states of a size are put together of pieces -/
theorem bl_ex {A B : List Nat} (sa : Sta A) (sb : Sta B) (hl : B.length = A.length) : ∃ ps, Bl A B 0 ps A.length ∧ ∀ p ∈ ps, PcOf A B p := by
  have main : ∀ (m : Nat) (ps : List Pc), (∀ p ∈ ps, PcOf A B p) → (ps.flatMap (·.2.1)).Nodup → A.length - (ps.flatMap (·.2.1)).length ≤ m → ∃ ps, Bl A B 0 ps A.length ∧ ∀ p ∈ ps, PcOf A B p := by
    intro m
    induction m with
    | zero =>
      intro ps of nd le
      have lt : ∀ x ∈ ps.flatMap (·.2.1), x < A.length := fun x hx => by
        obtain ⟨p, hp, hq⟩ := List.mem_flatMap.1 hx
        exact (of p hp).lt x hq
      refine ⟨ps, ⟨rfl, hl, by decide, ?_, fun p hp => (of p hp).ok, fun p hp => ⟨(of p hp).a, (of p hp).b⟩⟩, of⟩
      refine (List.perm_ext_iff_of_nodup nd List.nodup_range).2 fun x => ⟨fun h => List.mem_range.2 (lt x h), fun h => ?_⟩
      apply Classical.byContradiction
      intro c
      have := nodup_len (w := x :: ps.flatMap (·.2.1)) (n := A.length) (List.nodup_cons.2 ⟨c, nd⟩) (fun y hy => by
        rcases List.mem_cons.1 hy with q | q
        · rw [q]; exact List.mem_range.1 h
        · exact lt y q)
      rw [List.length_cons] at this
      omega
    | succ m ih =>
      intro ps of nd le
      have lt : ∀ x ∈ ps.flatMap (·.2.1), x < A.length := fun x hx => by
        obtain ⟨p, hp, hq⟩ := List.mem_flatMap.1 hx
        exact (of p hp).lt x hq
      by_cases full : ∀ x, x < A.length → x ∈ ps.flatMap (·.2.1)
      · refine ⟨ps, ⟨rfl, hl, by decide, ?_, fun p hp => (of p hp).ok, fun p hp => ⟨(of p hp).a, (of p hp).b⟩⟩, of⟩
        exact (List.perm_ext_iff_of_nodup nd List.nodup_range).2 fun x => ⟨fun h => List.mem_range.2 (lt x h), fun h => full x (List.mem_range.1 h)⟩
      -- the least record left
      obtain ⟨x, hx, nx, least⟩ : ∃ x, x < A.length ∧ x ∉ ps.flatMap (·.2.1) ∧ ∀ y, y < A.length → y ∉ ps.flatMap (·.2.1) → x ≤ y := by
        have ex : ∃ x, x < A.length ∧ x ∉ ps.flatMap (·.2.1) := by
          apply Classical.byContradiction
          intro c
          exact full fun x hx => Classical.byContradiction fun d => c ⟨x, hx, d⟩
        have strong : ∀ n x, x ≤ n → x < A.length → x ∉ ps.flatMap (·.2.1) → ∃ x, x < A.length ∧ x ∉ ps.flatMap (·.2.1) ∧ ∀ y, y < A.length → y ∉ ps.flatMap (·.2.1) → x ≤ y := by
          intro n
          induction n with
          | zero => exact fun x h0 h1 h2 => ⟨x, h1, h2, fun y _ _ => by omega⟩
          | succ n ihn =>
            intro x h0 h1 h2
            by_cases c : ∃ y, y < x ∧ y ∉ ps.flatMap (·.2.1)
            · obtain ⟨y, hy, ny⟩ := c
              exact ihn y (by omega) (by omega) ny
            · refine ⟨x, h1, h2, fun y _ ny => ?_⟩
              apply Classical.byContradiction
              intro d
              exact c ⟨y, by omega, ny⟩
        obtain ⟨x, h1, h2⟩ := ex
        exact strong x x (Nat.le_refl _) h1 h2
      have closed : ∀ y, y ∈ ps.flatMap (·.2.1) → gt A y ∈ ps.flatMap (·.2.1) ∧ gt B y ∈ ps.flatMap (·.2.1) := fun y hy => by
        obtain ⟨p, hp, hq⟩ := List.mem_flatMap.1 hy
        obtain ⟨j, hj, rfl⟩ := gt_ix hq
        exact ⟨List.mem_flatMap.2 ⟨p, hp, by rw [(of p hp).a j hj]; exact gt_mem (nb_lt (of p hp).ok hj)⟩, List.mem_flatMap.2 ⟨p, hp, by rw [(of p hp).b j hj]; exact gt_mem (nb_lt (of p hp).ok hj)⟩⟩
      have out : ∀ y, y < A.length → y ∉ ps.flatMap (·.2.1) → gt A y ∉ ps.flatMap (·.2.1) ∧ gt B y ∉ ps.flatMap (·.2.1) := fun y hy ny => ⟨fun z => ny (by have := (closed _ z).1; rw [sa.inv y hy] at this; exact this), fun z => ny (by have := (closed _ z).2; rw [sb.inv y (by rw [hl]; exact hy)] at this; exact this)⟩
      obtain ⟨p, hp, xp, reach⟩ := piece_of sa sb hl hx (fun w T _ y hy => by
        obtain ⟨j, hj, rfl⟩ := gt_ix hy
        exact least _ (T.lt _ (gt_mem hj)) (trl_reach T (S := fun y => y ∉ ps.flatMap (·.2.1)) out nx j hj))
      have dis : ∀ y ∈ p.2.1, y ∉ ps.flatMap (·.2.1) := reach (fun y => y ∉ ps.flatMap (·.2.1)) out nx
      have len : 0 < p.2.1.length := hp.ok.pos
      refine ih (ps ++ [p]) (fun q hq => ?_) ?_ ?_
      · rcases List.mem_append.1 hq with h | h
        · exact of q h
        · rw [List.mem_singleton.1 h]; exact hp
      · rw [List.flatMap_append, List.flatMap_cons, List.flatMap_nil, List.append_nil, List.nodup_append]
        exact ⟨nd, hp.ok.nd, fun a ha b hb e => dis b hb (e ▸ ha)⟩
      · rw [List.flatMap_append, List.flatMap_cons, List.flatMap_nil, List.append_nil, List.length_append]
        omega
  exact main _ [] (fun p h => by cases h) (by simp) (Nat.le_refl _)
end Pv

/-! a piece falls into small pieces by the state between -/
namespace Pv
open Pm
/-- whom the k-th record of a piece shows in the state between -/
def midI (w n s k : Nat) : Nat :=
  if w < 2 then nb 0 w n s k
  else
    (fun off => (fun L => (fun q => if off ≤ q ∧ q < off + n then q - off else k) ((L + 1 - (k + off)) % L)) (if w = 3 then n else if (n + off) % 2 = 1 then n + off + 1 else if off = 1 then n + 1 else n + 2)) (if w = 2 ∧ s = 1 then 1 else 0)
/-- the small pieces that two ways to show records make of 0 to n - 1 -/
def cutI (n : Nat) (f g : Nat → Nat) : List Pc := (List.range n).filterMap fun k =>
  if f k = k ∧ g k = k then some (0, [k], 0)
  else if f k = g k then (if k < f k then some (1, [k, f k], 0) else none)
  else if g k = k then (if g (f k) = f k then (if k < f k then some (2, [k, f k], 0) else none) else none)
  else if f k = k then (if f (g k) = g k then (if k < g k then some (2, [k, g k], 1) else none) else none)
  else if g (f k) = f k then some (2, [f k, k, g k], 0)
  else if f (g k) = g k then none
  else if k < f k ∧ k < g (f k) ∧ k < g k then some (3, [k, f k, g (f k), g k], 0) else none
def distI (w n : Nat) : Nat := if w = 2 then n / 2 else if w = 3 then n / 2 - 1 else 0
def isSm (q : Pc) : Bool := decide (q.1 < 4) && decide (q.2.2 < 2) && (if q.1 = 0 then decide (q.2.1.length = 1) else if q.1 = 1 then decide (q.2.1.length = 2) else if q.1 = 2 then decide (q.2.1.length = 2) || decide (q.2.1.length = 3) else decide (q.2.1.length = 4))
def fitI (n : Nat) (f g : Nat → Nat) : Bool :=
  (cutI n f g).all (fun q => isSm q && (List.range q.2.1.length).all fun j => decide (f (gt q.2.1 j) = gt q.2.1 (nb 0 q.1 q.2.1.length q.2.2 j)) && decide (g (gt q.2.1 j) = gt q.2.1 (nb 1 q.1 q.2.1.length q.2.2 j))) &&
  decide (((cutI n f g).flatMap (·.2.1)).length = n) && (decide (((cutI n f g).flatMap (·.2.1)).Nodup) && ((cutI n f g).flatMap (·.2.1)).all fun k => decide (k < n))
def crs (qs : List Pc) : Nat := (qs.filter isCR).length
def tabI (w n s : Nat) : Bool :=
  (List.range n).all (fun k => decide (midI w n s k < n)) &&
  fitI n (nb 0 w n s) (midI w n s) && fitI n (midI w n s) (nb 1 w n s) &&
  decide (crs (cutI n (nb 0 w n s) (midI w n s)) + crs (cutI n (midI w n s) (nb 1 w n s)) = distI w n) &&
  decide (0 < crs (cutI n (midI w n s) (nb 1 w n s))) && decide ((crs (cutI n (nb 0 w n s) (midI w n s)) = 0) = (distI w n = 1))
def rowI (n : Nat) : Bool := decide (n < 2) || (tabI 2 n 0 && tabI 2 n 1 && (decide (n < 4) || decide (n % 2 = 1) || tabI 3 n 0))
theorem tab_0 : ((List.range 20).all fun i => rowI (0 + i)) = true := by decide +kernel
theorem tab_20 : ((List.range 10).all fun i => rowI (20 + i)) = true := by decide +kernel
theorem tab_30 : ((List.range 6).all fun i => rowI (30 + i)) = true := by decide +kernel
theorem tab_36 : ((List.range 6).all fun i => rowI (36 + i)) = true := by decide +kernel
theorem tab_42 : ((List.range 4).all fun i => rowI (42 + i)) = true := by decide +kernel
theorem tab_46 : ((List.range 4).all fun i => rowI (46 + i)) = true := by decide +kernel
theorem tab_50 : ((List.range 3).all fun i => rowI (50 + i)) = true := by decide +kernel
theorem tab_53 : ((List.range 3).all fun i => rowI (53 + i)) = true := by decide +kernel
theorem tab_56 : ((List.range 2).all fun i => rowI (56 + i)) = true := by decide +kernel
theorem tab_58 : ((List.range 2).all fun i => rowI (58 + i)) = true := by decide +kernel
theorem tab_60 : ((List.range 1).all fun i => rowI (60 + i)) = true := by decide +kernel
theorem tab_61 : ((List.range 1).all fun i => rowI (61 + i)) = true := by decide +kernel
theorem tab_62 : ((List.range 1).all fun i => rowI (62 + i)) = true := by decide +kernel
theorem tab_63 : ((List.range 1).all fun i => rowI (63 + i)) = true := by decide +kernel
theorem tab_64 : ((List.range 1).all fun i => rowI (64 + i)) = true := by decide +kernel
theorem tab_part {a m : Nat} (h : ((List.range m).all fun i => rowI (a + i)) = true) {n : Nat} (h1 : a ≤ n) (h2 : n < a + m) : rowI n = true := by
  have := List.all_eq_true.1 h (n - a) (List.mem_range.2 (by omega))
  rw [show a + (n - a) = n by omega] at this
  exact this
theorem tab_ok : ((List.range 65).all fun n => decide (n < 2) || (tabI 2 n 0 && tabI 2 n 1 && (decide (n < 4) || decide (n % 2 = 1) || tabI 3 n 0))) = true := by
  rw [List.all_eq_true]
  intro n hn
  have hn := List.mem_range.1 hn
  show rowI n = true
  by_cases c0 : n < 20
  · exact tab_part tab_0 (by omega) (by omega)
  by_cases c1 : n < 30
  · exact tab_part tab_20 (by omega) (by omega)
  by_cases c2 : n < 36
  · exact tab_part tab_30 (by omega) (by omega)
  by_cases c3 : n < 42
  · exact tab_part tab_36 (by omega) (by omega)
  by_cases c4 : n < 46
  · exact tab_part tab_42 (by omega) (by omega)
  by_cases c5 : n < 50
  · exact tab_part tab_46 (by omega) (by omega)
  by_cases c6 : n < 53
  · exact tab_part tab_50 (by omega) (by omega)
  by_cases c7 : n < 56
  · exact tab_part tab_53 (by omega) (by omega)
  by_cases c8 : n < 58
  · exact tab_part tab_56 (by omega) (by omega)
  by_cases c9 : n < 60
  · exact tab_part tab_58 (by omega) (by omega)
  by_cases c10 : n < 61
  · exact tab_part tab_60 (by omega) (by omega)
  by_cases c11 : n < 62
  · exact tab_part tab_61 (by omega) (by omega)
  by_cases c12 : n < 63
  · exact tab_part tab_62 (by omega) (by omega)
  by_cases c13 : n < 64
  · exact tab_part tab_63 (by omega) (by omega)
  exact tab_part tab_64 (by omega) (by omega)
end Pv

/-! the state between two states, put together of small pieces -/
namespace Pv
open Pm
def mapP (l : List Nat) (q : Pc) : Pc := (q.1, q.2.1.map (gt l), q.2.2)
/-- the small pieces of a piece: of the first state and the one between, of the one between and the second -/
def subP (i : Nat) (p : Pc) : List Pc := if p.1 < 2 then [p] else
  (if i = 0 then cutI p.2.1.length (nb 0 p.1 p.2.1.length p.2.2) (midI p.1 p.2.1.length p.2.2) else cutI p.2.1.length (midI p.1 p.2.1.length p.2.2) (nb 1 p.1 p.2.1.length p.2.2)).map (mapP p.2.1)
def MidAt (M : List Nat) (p : Pc) : Prop := ∀ k, k < p.2.1.length → gt M (gt p.2.1 k) = gt p.2.1 (midI p.1 p.2.1.length p.2.2 k)
theorem gt_map {l : List Nat} {f : Nat → Nat} {j : Nat} (h : j < l.length) : gt (l.map f) j = f (gt l j) := by
  unfold gt
  rw [List.getD_eq_getElem?_getD, List.getElem?_map, List.getElem?_eq_getElem h, List.getD_eq_getElem?_getD, List.getElem?_eq_getElem h]
  rfl
theorem fit_of {n : Nat} {f g : Nat → Nat} (h : fitI n f g = true) : (∀ q ∈ cutI n f g, isSm q = true ∧ ∀ j, j < q.2.1.length → f (gt q.2.1 j) = gt q.2.1 (nb 0 q.1 q.2.1.length q.2.2 j) ∧ g (gt q.2.1 j) = gt q.2.1 (nb 1 q.1 q.2.1.length q.2.2 j)) ∧ ((cutI n f g).flatMap (·.2.1)).Perm (List.range n) := by
  unfold fitI at h
  rw [Bool.and_eq_true, Bool.and_eq_true] at h
  obtain ⟨⟨h1, h2⟩, h3⟩ := h
  refine ⟨fun q hq => ?_, ?_⟩
  · have a := List.all_eq_true.1 h1 q hq
    rw [Bool.and_eq_true] at a
    refine ⟨a.1, fun j hj => ?_⟩
    have b := List.all_eq_true.1 a.2 j (List.mem_range.2 hj)
    rw [Bool.and_eq_true] at b
    exact ⟨of_decide_eq_true b.1, of_decide_eq_true b.2⟩
  · have len := of_decide_eq_true h2
    rw [Bool.and_eq_true] at h3
    have nd := of_decide_eq_true h3.1
    have lt : ∀ x ∈ (cutI n f g).flatMap (·.2.1), x < n := fun x hx => of_decide_eq_true (List.all_eq_true.1 h3.2 x hx)
    refine (List.perm_ext_iff_of_nodup nd List.nodup_range).2 fun x => ⟨fun h => List.mem_range.2 (lt x h), fun h => ?_⟩
    apply Classical.byContradiction
    intro c
    have := nodup_len (w := x :: (cutI n f g).flatMap (·.2.1)) (n := n) (List.nodup_cons.2 ⟨c, nd⟩) (fun y hy => by
      rcases List.mem_cons.1 hy with q | q
      · rw [q]; exact List.mem_range.1 h
      · exact lt y q)
    rw [List.length_cons] at this
    omega
theorem nd_each {qs : List Pc} (nd : (qs.flatMap (·.2.1)).Nodup) {q : Pc} (hq : q ∈ qs) : q.2.1.Nodup := by
  rw [List.flatMap_def] at nd
  exact nd.sublist (List.sublist_flatten_of_mem (List.mem_map.2 ⟨q, hq, rfl⟩))
theorem sm_ok {q : Pc} (h : isSm q = true) (nd : q.2.1.Nodup) : PcOk q ∧ (1 < q.1 → (q.1 = 2 ∧ (q.2.1.length = 2 ∨ q.2.1.length = 3)) ∨ (q.1 = 3 ∧ q.2.1.length = 4)) := by
  unfold isSm at h
  rw [Bool.and_eq_true, Bool.and_eq_true] at h
  obtain ⟨⟨h1, h2⟩, h3⟩ := h
  have h1 := of_decide_eq_true h1
  have h2 := of_decide_eq_true h2
  have key : (q.1 = 0 → q.2.1.length = 1) ∧ (q.1 = 1 → q.2.1.length = 2) ∧ (q.1 = 2 → q.2.1.length = 2 ∨ q.2.1.length = 3) ∧ (q.1 = 3 → q.2.1.length = 4) := by
    by_cases c0 : q.1 = 0
    · rw [if_pos c0] at h3
      have := of_decide_eq_true h3
      exact ⟨fun _ => this, fun z => by omega, fun z => by omega, fun z => by omega⟩
    · rw [if_neg c0] at h3
      by_cases c1 : q.1 = 1
      · rw [if_pos c1] at h3
        have := of_decide_eq_true h3
        exact ⟨fun z => by omega, fun _ => this, fun z => by omega, fun z => by omega⟩
      · rw [if_neg c1] at h3
        by_cases c2 : q.1 = 2
        · rw [if_pos c2, Bool.or_eq_true] at h3
          refine ⟨fun z => by omega, fun z => by omega, fun _ => h3.imp of_decide_eq_true of_decide_eq_true, fun z => by omega⟩
        · rw [if_neg c2] at h3
          have := of_decide_eq_true h3
          exact ⟨fun z => by omega, fun z => by omega, fun z => by omega, fun _ => this⟩
  obtain ⟨k0, k1, k2, k3⟩ := key
  refine ⟨⟨h1, h2, nd, k0, k1, fun z => by have := k2 z; omega, fun z => by have := k3 z; omega⟩, fun z => ?_⟩
  by_cases c2 : q.1 = 2
  · exact .inl ⟨c2, k2 c2⟩
  · exact .inr ⟨by omega, k3 (by omega)⟩
/-- a piece of at most 64 records: what the tables say -/
theorem tab_of {A B : List Nat} {p : Pc} (hp : PcOf A B p) (h1 : 1 < p.1) (h64 : p.2.1.length ≤ 64) : tabI p.1 p.2.1.length p.2.2 = true := by
  have t := List.all_eq_true.1 tab_ok p.2.1.length (List.mem_range.2 (by omega))
  have ok := hp.ok
  have l2 := ok.l2
  have l3 := ok.l3
  have w := ok.w
  have s := ok.s
  have n2 : ¬ p.2.1.length < 2 := by
    rcases (show p.1 = 2 ∨ p.1 = 3 by omega) with c | c
    · have := l2 c; omega
    · have := l3 c; omega
  rw [decide_eq_false n2, Bool.false_or, Bool.and_eq_true, Bool.and_eq_true] at t
  obtain ⟨⟨t0, t1⟩, t3⟩ := t
  rcases (show p.1 = 2 ∨ p.1 = 3 by omega) with c | c
  · rcases (show p.2.2 = 0 ∨ p.2.2 = 1 by omega) with d | d
    · rw [c, d]; exact t0
    · rw [c, d]; exact t1
  · have := l3 c
    rw [decide_eq_false (show ¬ p.2.1.length < 4 by omega), decide_eq_false (show ¬ p.2.1.length % 2 = 1 by omega), Bool.false_or, Bool.false_or] at t3
    rw [c, (hp.c3 c).1]
    exact t3
theorem tab_parts {w n s : Nat} (h : tabI w n s = true) : (∀ k, k < n → midI w n s k < n) ∧ fitI n (nb 0 w n s) (midI w n s) = true ∧ fitI n (midI w n s) (nb 1 w n s) = true ∧
    crs (cutI n (nb 0 w n s) (midI w n s)) + crs (cutI n (midI w n s) (nb 1 w n s)) = distI w n ∧ 0 < crs (cutI n (midI w n s) (nb 1 w n s)) ∧ (crs (cutI n (nb 0 w n s) (midI w n s)) = 0 ↔ distI w n = 1) := by
  unfold tabI at h
  rw [Bool.and_eq_true, Bool.and_eq_true, Bool.and_eq_true, Bool.and_eq_true, Bool.and_eq_true] at h
  obtain ⟨⟨⟨⟨⟨h1, h2⟩, h3⟩, h4⟩, h5⟩, h6⟩ := h
  exact ⟨fun k hk => of_decide_eq_true (List.all_eq_true.1 h1 k (List.mem_range.2 hk)), h2, h3, of_decide_eq_true h4, of_decide_eq_true h5, by rw [of_decide_eq_true h6]⟩
theorem flat_mapP {l : List Nat} {qs : List Pc} : ((qs.map (mapP l)).flatMap (·.2.1)) = (qs.flatMap (·.2.1)).map (gt l) := by
  induction qs with
  | nil => rfl
  | cons q qs ih =>
    rw [List.map_cons, List.flatMap_cons, List.flatMap_cons, List.map_append, ih]
    rfl
/-- small pieces of one piece -/
theorem sub_of {F G : List Nat} {p : Pc} {f g : Nat → Nat} (nd : p.2.1.Nodup) (hf : ∀ k, k < p.2.1.length → gt F (gt p.2.1 k) = gt p.2.1 (f k)) (hg : ∀ k, k < p.2.1.length → gt G (gt p.2.1 k) = gt p.2.1 (g k)) (fit : fitI p.2.1.length f g = true) :
    (((cutI p.2.1.length f g).map (mapP p.2.1)).flatMap (·.2.1)).Perm p.2.1 ∧ ∀ q ∈ (cutI p.2.1.length f g).map (mapP p.2.1), PcOk q ∧ PcAt F 0 q ∧ PcAt G 1 q ∧ (1 < q.1 → (q.1 = 2 ∧ (q.2.1.length = 2 ∨ q.2.1.length = 3)) ∨ (q.1 = 3 ∧ q.2.1.length = 4)) := by
  obtain ⟨h1, h2⟩ := fit_of fit
  have pm : (((cutI p.2.1.length f g).map (mapP p.2.1)).flatMap (·.2.1)).Perm p.2.1 := by
    rw [flat_mapP]
    have := h2.map (gt p.2.1)
    rw [← line_map] at this
    exact this
  refine ⟨pm, fun q hq => ?_⟩
  obtain ⟨q0, hq0, rfl⟩ := List.mem_map.1 hq
  obtain ⟨sm, at_⟩ := h1 q0 hq0
  have ndq : (mapP p.2.1 q0).2.1.Nodup := nd_each (pm.nodup_iff.2 nd) hq
  have len : (mapP p.2.1 q0).2.1.length = q0.2.1.length := List.length_map ..
  have nd0 : q0.2.1.Nodup := nd_each (h2.nodup_iff.2 List.nodup_range) hq0
  obtain ⟨ok0, small⟩ := sm_ok sm nd0
  have lt0 : ∀ j, j < q0.2.1.length → gt q0.2.1 j < p.2.1.length := fun j hj => List.mem_range.1 (h2.mem_iff.1 (List.mem_flatMap.2 ⟨q0, hq0, gt_mem hj⟩))
  refine ⟨⟨ok0.w, ok0.s, ndq, fun z => by rw [len]; exact ok0.l0 z, fun z => by rw [len]; exact ok0.l1 z, fun z => by rw [len]; exact ok0.l2 z, fun z => by rw [len]; exact ok0.l3 z⟩, fun k hk => ?_, fun k hk => ?_, fun z => by rw [len]; exact small z⟩
  · rw [len] at hk ⊢
    show gt F (gt (q0.2.1.map (gt p.2.1)) k) = gt (q0.2.1.map (gt p.2.1)) (nb 0 q0.1 q0.2.1.length q0.2.2 k)
    rw [gt_map hk, gt_map (nb_lt ok0 hk), hf _ (lt0 k hk), (at_ k hk).1]
  · rw [len] at hk ⊢
    show gt G (gt (q0.2.1.map (gt p.2.1)) k) = gt (q0.2.1.map (gt p.2.1)) (nb 1 q0.1 q0.2.1.length q0.2.2 k)
    rw [gt_map hk, gt_map (nb_lt ok0 hk), hg _ (lt0 k hk), (at_ k hk).2]
theorem perm_flat {ps : List Pc} {f : Pc → List Pc} (h : ∀ p ∈ ps, ((f p).flatMap (·.2.1)).Perm p.2.1) : ((ps.flatMap f).flatMap (·.2.1)).Perm (ps.flatMap (·.2.1)) := by
  induction ps with
  | nil => exact .nil
  | cons p ps ih =>
    rw [List.flatMap_cons, List.flatMap_append, List.flatMap_cons]
    exact (h p (List.mem_cons_self ..)).append (ih fun q hq => h q (List.mem_cons_of_mem _ hq))
def Small (q : Pc) : Prop := 1 < q.1 → (q.1 = 2 ∧ (q.2.1.length = 2 ∨ q.2.1.length = 3)) ∨ (q.1 = 3 ∧ q.2.1.length = 4)
theorem nb_same {w n s k r r' : Nat} (h : w < 2) : nb r w n s k = nb r' w n s k := by
  unfold nb
  rcases (show w = 0 ∨ w = 1 by omega) with rfl | rfl
  · rfl
  · rfl
/-- the state between: both halves are put together of small pieces -/
theorem sub_bl {A B M : List Nat} {ps : List Pc} {n : Nat} (b : Bl A B 0 ps n) (of : ∀ p ∈ ps, PcOf A B p) (h64 : n ≤ 64) (lm : M.length = n) (mid : ∀ p ∈ ps, MidAt M p) :
    Bl A M 0 (ps.flatMap (subP 0)) n ∧ Bl M B 0 (ps.flatMap (subP 1)) n ∧ (∀ q ∈ ps.flatMap (subP 0), Small q) ∧ ∀ q ∈ ps.flatMap (subP 1), Small q := by
  have small : ∀ p ∈ ps, p.2.1.length ≤ 64 := fun p hp => by
    have : p.2.1.length ≤ n := nodup_len (of p hp).ok.nd fun x hx => b.lt hp x hx
    omega
  have one : ∀ i, i < 2 → ∀ p ∈ ps, ((subP i p).flatMap (·.2.1)).Perm p.2.1 ∧ ∀ q ∈ subP i p, PcOk q ∧ (i = 0 → PcAt A 0 q ∧ PcAt M 1 q) ∧ (i = 1 → PcAt M 0 q ∧ PcAt B 1 q) ∧ Small q := by
    intro i hi p hp
    have o := of p hp
    unfold subP
    by_cases c : p.1 < 2
    · rw [if_pos c]
      refine ⟨by rw [List.flatMap_cons, List.flatMap_nil, List.append_nil], fun q hq => ?_⟩
      rw [List.mem_singleton.1 hq]
      have mm : ∀ r, PcAt M r p := fun r k hk => by
        rw [mid p hp k hk]
        unfold midI
        rw [if_pos c, nb_same (r' := r) c]
      have aa : ∀ r, PcAt A r p := fun r k hk => by rw [o.a k hk, nb_same (r' := r) c]
      have bb : ∀ r, PcAt B r p := fun r k hk => by rw [o.b k hk, nb_same (r' := r) c]
      exact ⟨o.ok, fun _ => ⟨aa 0, mm 1⟩, fun _ => ⟨mm 0, bb 1⟩, fun z => absurd z (by omega)⟩
    · rw [if_neg c]
      obtain ⟨t1, t2, t3, _⟩ := tab_parts (tab_of o (by omega) (small p hp))
      rcases (show i = 0 ∨ i = 1 by omega) with rfl | rfl
      · rw [if_pos rfl]
        obtain ⟨s1, s2⟩ := sub_of (F := A) (G := M) o.ok.nd o.a (mid p hp) t2
        exact ⟨s1, fun q hq => ⟨(s2 q hq).1, fun _ => ⟨(s2 q hq).2.1, (s2 q hq).2.2.1⟩, (fun z => by cases z), (s2 q hq).2.2.2⟩⟩
      · rw [if_neg (by decide)]
        obtain ⟨s1, s2⟩ := sub_of (F := M) (G := B) o.ok.nd (mid p hp) o.b t3
        exact ⟨s1, fun q hq => ⟨(s2 q hq).1, (fun z => by cases z), fun _ => ⟨(s2 q hq).2.1, (s2 q hq).2.2.1⟩, (s2 q hq).2.2.2⟩⟩
  have pick : ∀ i, i < 2 → ∀ q ∈ ps.flatMap (subP i), ∃ p ∈ ps, q ∈ subP i p := fun i _ q hq => by
    obtain ⟨p, hp, h⟩ := List.mem_flatMap.1 hq
    exact ⟨p, hp, h⟩
  refine ⟨⟨b.la, lm, by decide, (perm_flat fun p hp => (one 0 (by decide) p hp).1).trans b.perm, fun q hq => ?_, fun q hq => ?_⟩, ⟨lm, b.lb, by decide, (perm_flat fun p hp => (one 1 (by decide) p hp).1).trans b.perm, fun q hq => ?_, fun q hq => ?_⟩, fun q hq => ?_, fun q hq => ?_⟩
  · obtain ⟨p, hp, h⟩ := pick 0 (by decide) q hq
    exact ((one 0 (by decide) p hp).2 q h).1
  · obtain ⟨p, hp, h⟩ := pick 0 (by decide) q hq
    exact ((one 0 (by decide) p hp).2 q h).2.1 rfl
  · obtain ⟨p, hp, h⟩ := pick 1 (by decide) q hq
    exact ((one 1 (by decide) p hp).2 q h).1
  · obtain ⟨p, hp, h⟩ := pick 1 (by decide) q hq
    exact ((one 1 (by decide) p hp).2 q h).2.2.1 rfl
  · obtain ⟨p, hp, h⟩ := pick 0 (by decide) q hq
    exact ((one 0 (by decide) p hp).2 q h).2.2.2
  · obtain ⟨p, hp, h⟩ := pick 1 (by decide) q hq
    exact ((one 1 (by decide) p hp).2 q h).2.2.2
/-! ### how many -/
theorem crs_app {a b : List Pc} : crs (a ++ b) = crs a + crs b := by
  unfold crs
  rw [List.filter_append, List.length_append]
theorem crs_map {l : List Nat} {qs : List Pc} : crs (qs.map (mapP l)) = crs qs := by
  unfold crs
  rw [List.filter_map, List.length_map]
  rfl
def distP (p : Pc) : Nat := distI p.1 p.2.1.length
theorem sub_crs {A B : List Nat} {p : Pc} (o : PcOf A B p) (h64 : p.2.1.length ≤ 64) : crs (subP 0 p) + crs (subP 1 p) = distP p ∧ (1 < p.1 → 0 < crs (subP 1 p) ∧ (crs (subP 0 p) = 0 ↔ distP p = 1) ∧ 0 < distP p) ∧ (¬ 1 < p.1 → crs (subP 0 p) = 0 ∧ crs (subP 1 p) = 0 ∧ distP p = 0) := by
  unfold subP distP
  by_cases c : p.1 < 2
  · rw [if_pos c, if_pos c]
    have z : crs [p] = 0 := by
      unfold crs isCR
      rw [List.filter_cons, decide_eq_false (by omega)]
      rfl
    have d : distI p.1 p.2.1.length = 0 := by
      unfold distI
      rw [if_neg (by omega), if_neg (by omega)]
    exact ⟨by rw [z, d], fun h => absurd h (by omega), fun _ => ⟨z, z, d⟩⟩
  · rw [if_neg c, if_neg c, if_pos rfl, if_neg (by decide), crs_map, crs_map]
    obtain ⟨_, _, _, t4, t5, t6⟩ := tab_parts (tab_of o (by omega) h64)
    exact ⟨t4, fun _ => ⟨t5, t6, by omega⟩, fun h => absurd (by omega) h⟩
end Pv

/-! the changes of small parts lead to the state between -/
namespace Pv
open PySem L2 Evl Pm PySem.W
def chgN (c : Bool × List Nat) : Str × List Nat :=
  if c.1 then ("cross", [gt c.2 0, min (gt c.2 1) (gt c.2 3), gt c.2 2, max (gt c.2 1) (gt c.2 3)])
  else if c.2.length = 2 then ("tie", [min (gt c.2 0) (gt c.2 1), max (gt c.2 0) (gt c.2 1)])
  else ("move", [gt c.2 1, min (gt c.2 0) (gt c.2 2), max (gt c.2 0) (gt c.2 2)])
def chgR (c : Bool × List Nat) : Chg := ((chgN c).1, toI (chgN c).2)
/-- a change of records of a row, leading from A to M -/
structure ChOk (A M : List Nat) (c : Chg) (row : List Nat) : Prop where
  pm : c.2.Perm (toI row)
  vd : Vd c.1 c.2 (A.length : Int)
  sd : sdI (toI A) c.2 ≠ 2
  ot : ∀ x y, (x, y) ∈ c.2.zip (oth (toI A) c.2) → (toI M).getD x.toNat 0 = y
theorem sh_toI {A : List Nat} : ∀ {ln : List Nat}, (∀ x ∈ ln, x < A.length) → shF (toI A) (toI ln) = toI (ln.map (gt A))
  | [], _ => rfl
  | x :: ln, h => by
    have ih := sh_toI (A := A) (ln := ln) fun y hy => h y (List.mem_cons_of_mem _ hy)
    unfold shF at ih ⊢
    unfold toI at ih ⊢
    rw [List.map_cons, List.map_cons, List.map_cons, List.map_cons, ih]
    congr 1
    rw [Int.toNat_natCast]
    exact toI_at (h x (List.mem_cons_self ..))
theorem toI_gt {M : List Nat} {x : Nat} (h : x < M.length) : (toI M).getD ((x : Nat) : Int).toNat 0 = ((gt M x : Nat) : Int) := by
  rw [Int.toNat_natCast]
  exact toI_at h
theorem toI_inj {a b : List Nat} (h : toI a = toI b) : a = b := by
  have := congrArg natI h
  rw [toI_nat, toI_nat] at this
  exact this
theorem nm_toI {ln : List Nat} : nm0 (toI ln) = toI (match ln with | [a, b] => [a, b] | [a, b, c] => [b, a, c] | [a, b, c, d] => [b, a, d, c] | _ => []) ∧ nm1 (toI ln) = toI (match ln with | [a, b] => [b, a] | [a, b, c] => [c, b, a] | [a, b, c, d] => [d, c, b, a] | _ => []) := by
  match ln with
  | [] => exact ⟨rfl, rfl⟩
  | [a] => exact ⟨rfl, rfl⟩
  | [a, b] => exact ⟨rfl, rfl⟩
  | [a, b, c] => exact ⟨rfl, rfl⟩
  | [a, b, c, d] => exact ⟨rfl, rfl⟩
  | _ :: _ :: _ :: _ :: _ :: _ => exact ⟨rfl, rfl⟩
theorem zip_all {M : List Nat} : ∀ {ln ys : List Nat}, (∀ x ∈ ln, x < M.length) → ln.map (gt M) = ys → ∀ x y, (x, y) ∈ (toI ln).zip (toI ys) → (toI M).getD x.toNat 0 = y
  | [], _, _, _, x, y, h => by cases h
  | a :: ln, ys, lt, e, x, y, h => by
    subst e
    unfold toI at h
    rw [List.map_cons, List.map_cons, List.map_cons, List.zip_cons_cons] at h
    rcases List.mem_cons.1 h with q | q
    · injection q with q1 q2
      rw [q1, q2]
      exact toI_gt (lt a (List.mem_cons_self ..))
    · exact zip_all (fun z hz => lt z (List.mem_cons_of_mem _ hz)) rfl x y q
/-- what has to be shown of a change of naturals -/
theorem chOk_of {A M ln : List Nat} {w : Str} {row n0 n1 : List Nat} (lm : M.length = A.length) (fm : Fm w (toI ln)) (pm : ln.Perm row) (nd : row.Nodup) (lt : ∀ x ∈ row, x < A.length) (od : ordF w (toI ln) = true) (e0 : nm0 (toI ln) = toI n0) (e1 : nm1 (toI ln) = toI n1) (ne : n0 ≠ n1)
    (h : (ln.map (gt A) = n0 ∧ ln.map (gt M) = n1) ∨ (ln.map (gt A) = n1 ∧ ln.map (gt M) = n0)) : ChOk A M (w, toI ln) row := by
  have ltl : ∀ x ∈ ln, x < A.length := fun x hx => lt x (pm.mem_iff.1 hx)
  have ltm : ∀ x ∈ ln, x < M.length := fun x hx => by rw [lm]; exact ltl x hx
  have sh := sh_toI ltl
  have nin : toI n0 ≠ toI n1 := fun z => ne (toI_inj z)
  refine ⟨pm.map _, ⟨fm, ?_, fun x hx => ?_, od⟩, ?_, fun x y hx => ?_⟩
  · have : ln.Nodup := pm.nodup_iff.2 nd
    show (ln.map fun x : Nat => (x : Int)).Nodup
    rw [List.nodup_iff_pairwise_ne, List.pairwise_map]
    exact (List.nodup_iff_pairwise_ne.1 this).imp fun {a b} h => by omega
  · obtain ⟨z, hz, rfl⟩ := List.mem_map.1 hx
    have := ltl z hz
    show 0 ≤ (z : Int) ∧ (z : Int) < (A.length : Int)
    omega
  · show sdI (toI A) (toI ln) ≠ 2
    unfold sdI
    rw [sh, e0, e1]
    rcases h with ⟨h, _⟩ | ⟨h, _⟩
    · rw [h, if_pos rfl]; decide
    · rw [h, if_neg (fun z => nin z.symm), if_pos rfl]; decide
  · have hx : (x, y) ∈ (toI ln).zip (oth (toI A) (toI ln)) := hx
    unfold oth at hx
    rw [sh, e0, e1] at hx
    rcases h with ⟨h, k⟩ | ⟨h, k⟩
    · rw [h, if_pos rfl] at hx
      exact zip_all ltm k x y hx
    · rw [h, if_neg (fun z => nin z.symm)] at hx
      exact zip_all ltm k x y hx
theorem tie_ok {A M : List Nat} {x y : Nat} (lm : M.length = A.length) (ne : x ≠ y) (hx : x < A.length) (hy : y < A.length) (h : (gt A x = y ∧ gt A y = x ∧ gt M x = x ∧ gt M y = y) ∨ (gt A x = x ∧ gt A y = y ∧ gt M x = y ∧ gt M y = x)) : ChOk A M ("tie", toI [min x y, max x y]) [x, y] := by
  have pm : [min x y, max x y].Perm [x, y] := by
    by_cases c : x ≤ y
    · rw [Nat.min_eq_left c, Nat.max_eq_right c]
    · rw [Nat.min_eq_right (by omega), Nat.max_eq_left (by omega)]
      exact .swap ..
  refine chOk_of lm (.tie _ _) pm (by simp [ne]) (fun z hz => ?_) (decide_eq_true (by show ((min x y : Nat) : Int) < ((max x y : Nat) : Int); omega)) nm_toI.1 nm_toI.2 (fun z => ?_) ?_
  · rcases List.mem_cons.1 hz with q | q
    · rw [q]; exact hx
    · rw [List.mem_singleton.1 q]; exact hy
  · injection z with z _
    omega
  · by_cases c : x ≤ y
    · rw [Nat.min_eq_left c, Nat.max_eq_right c]
      rcases h with ⟨a, b, e, f⟩ | ⟨a, b, e, f⟩
      · exact .inr ⟨by simp [a, b], by simp [e, f]⟩
      · exact .inl ⟨by simp [a, b], by simp [e, f]⟩
    · rw [Nat.min_eq_right (by omega), Nat.max_eq_left (by omega)]
      rcases h with ⟨a, b, e, f⟩ | ⟨a, b, e, f⟩
      · exact .inr ⟨by simp [a, b], by simp [e, f]⟩
      · exact .inl ⟨by simp [a, b], by simp [e, f]⟩
theorem move_ok {A M : List Nat} {x y z : Nat} (lm : M.length = A.length) (nd : [x, y, z].Nodup) (lt : ∀ u ∈ [x, y, z], u < A.length) (h : (gt A y = x ∧ gt A x = y ∧ gt A z = z ∧ gt M y = z ∧ gt M z = y ∧ gt M x = x) ∨ (gt M y = x ∧ gt M x = y ∧ gt M z = z ∧ gt A y = z ∧ gt A z = y ∧ gt A x = x)) : ChOk A M ("move", toI [y, min x z, max x z]) [x, y, z] := by
  have n : x ≠ y ∧ x ≠ z ∧ y ≠ z := by simpa [and_assoc] using nd
  obtain ⟨n1, n2, n3⟩ := n
  have pm : [y, min x z, max x z].Perm [x, y, z] := by
    by_cases c : x ≤ z
    · rw [Nat.min_eq_left c, Nat.max_eq_right c]
      exact .swap ..
    · rw [Nat.min_eq_right (by omega), Nat.max_eq_left (by omega)]
      exact ((List.Perm.swap z y [x]).trans ((List.Perm.swap x y []).cons z)).trans ((List.Perm.swap x z [y]).trans ((List.Perm.swap y z []).cons x))
  refine chOk_of lm (.move _ _ _) pm nd lt (decide_eq_true (by show ((min x z : Nat) : Int) < ((max x z : Nat) : Int); omega)) nm_toI.1 nm_toI.2 (fun q => ?_) ?_
  · injection q with q _
    omega
  · by_cases c : x ≤ z
    · rw [Nat.min_eq_left c, Nat.max_eq_right c]
      rcases h with ⟨a, b, e, f, g, k⟩ | ⟨f, g, k, a, b, e⟩
      · exact .inl ⟨by simp [a, b, e], by simp [f, g, k]⟩
      · exact .inr ⟨by simp [a, b, e], by simp [f, g, k]⟩
    · rw [Nat.min_eq_right (by omega), Nat.max_eq_left (by omega)]
      rcases h with ⟨a, b, e, f, g, k⟩ | ⟨f, g, k, a, b, e⟩
      · exact .inr ⟨by simp [a, b, e], by simp [f, g, k]⟩
      · exact .inl ⟨by simp [a, b, e], by simp [f, g, k]⟩
theorem cross_ok {A M : List Nat} {x y z u : Nat} (lm : M.length = A.length) (nd : [x, y, z, u].Nodup) (lt : ∀ v ∈ [x, y, z, u], v < A.length) (low : x ≤ y ∧ x ≤ z ∧ x ≤ u) (a : gt A x = y ∧ gt A y = x ∧ gt A z = u ∧ gt A u = z) (b : gt M y = z ∧ gt M z = y ∧ gt M u = x ∧ gt M x = u) : ChOk A M ("cross", toI [x, min y u, z, max y u]) [x, y, z, u] := by
  have n : x ≠ y ∧ x ≠ z ∧ x ≠ u ∧ y ≠ z ∧ y ≠ u ∧ z ≠ u := by simpa [and_assoc] using nd
  obtain ⟨n1, n2, n3, n4, n5, n6⟩ := n
  obtain ⟨a1, a2, a3, a4⟩ := a
  obtain ⟨b1, b2, b3, b4⟩ := b
  have pm : [x, min y u, z, max y u].Perm [x, y, z, u] := by
    by_cases c : y ≤ u
    · rw [Nat.min_eq_left c, Nat.max_eq_right c]
    · rw [Nat.min_eq_right (by omega), Nat.max_eq_left (by omega)]
      exact .cons x (((List.Perm.swap z u [y]).trans ((List.Perm.swap y u []).cons z)).trans (.swap ..))
  refine chOk_of lm (.cross _ _ _ _) pm nd lt ?_ nm_toI.1 nm_toI.2 (fun q => ?_) ?_
  · show (decide ((x : Int) < ((min y u : Nat) : Int)) && decide ((x : Int) < (z : Int)) && decide ((x : Int) < ((max y u : Nat) : Int)) && decide (((min y u : Nat) : Int) < ((max y u : Nat) : Int))) = true
    rw [decide_eq_true (by omega), decide_eq_true (by omega), decide_eq_true (by omega), decide_eq_true (by omega)]
    rfl
  · injection q with q _
    omega
  · by_cases c : y ≤ u
    · rw [Nat.min_eq_left c, Nat.max_eq_right c]
      exact .inl ⟨by simp [a1, a2, a3, a4], by simp [b1, b2, b3, b4]⟩
    · rw [Nat.min_eq_right (by omega), Nat.max_eq_left (by omega)]
      exact .inr ⟨by simp [a1, a2, a3, a4], by simp [b1, b2, b3, b4]⟩
theorem two_of {l : List Nat} (h : l.length = 2) : ∃ x y, l = [x, y] := match l, h with | [x, y], _ => ⟨x, y, rfl⟩
theorem three_of {l : List Nat} (h : l.length = 3) : ∃ x y z, l = [x, y, z] := match l, h with | [x, y, z], _ => ⟨x, y, z, rfl⟩
theorem four_of {l : List Nat} (h : l.length = 4) : ∃ x y z u, l = [x, y, z, u] := match l, h with | [x, y, z, u], _ => ⟨x, y, z, u, rfl⟩
/-- the change of a small part -/
theorem part_ok {A M : List Nat} {qs : List Pc} {n : Nat} (b : Bl A M 0 qs n) {q : Pc} (hq : q ∈ qs) (cr : 1 < q.1) (sm : Small q) : ChOk A M (chgR (outP A q)) q.2.1 := by
  have ok := b.ok q hq
  obtain ⟨pa, pb⟩ := b.at_ q hq
  have lm : M.length = A.length := by rw [b.la, b.lb]
  have lt : ∀ x ∈ q.2.1, x < A.length := fun x hx => by rw [b.la]; exact b.lt hq x hx
  rcases sm cr with ⟨w, l | l⟩ | ⟨w, l⟩
  · obtain ⟨x, y, e⟩ := two_of l
    have nd := ok.nd
    rw [e] at nd lt
    have ne : x ≠ y := by simpa using nd
    have s := ok.s
    have a0 := pa 0 (by omega)
    have a1 := pa 1 (by omega)
    have b0 := pb 0 (by omega)
    have b1 := pb 1 (by omega)
    rw [w, e] at a0 a1 b0 b1
    have hx := lt x (by simp)
    have hy := lt y (by simp)
    have fact : (gt A x = y ∧ gt A y = x ∧ gt M x = x ∧ gt M y = y) ∨ (gt A x = x ∧ gt A y = y ∧ gt M x = y ∧ gt M y = x) := by
      rcases (show q.2.2 = 0 ∨ q.2.2 = 1 by omega) with d | d
      · rw [d] at a0 a1 b0 b1
        exact .inl ⟨a0, a1, b0, b1⟩
      · rw [d] at a0 a1 b0 b1
        exact .inr ⟨a0, a1, b0, b1⟩
    have cn : canonP A q = [x, y] ∨ canonP A q = [y, x] := by
      unfold canonP
      rw [if_pos w, e]
      split
      · exact .inr rfl
      · exact .inl rfl
    rw [e]
    unfold outP chgR chgN
    rw [decide_eq_false (show ¬ q.1 = 3 by omega)]
    rcases cn with c | c <;> rw [c]
    · exact tie_ok lm ne hx hy fact
    · have := tie_ok lm ne hx hy fact
      show ChOk A M ("tie", toI [min y x, max y x]) [x, y]
      rw [Nat.min_comm, Nat.max_comm]
      exact this
  · obtain ⟨x, y, z, e⟩ := three_of l
    have nd := ok.nd
    rw [e] at nd lt
    have s := ok.s
    have a0 := pa 0 (by omega)
    have a1 := pa 1 (by omega)
    have a2 := pa 2 (by omega)
    have b0 := pb 0 (by omega)
    have b1 := pb 1 (by omega)
    have b2 := pb 2 (by omega)
    rw [w, e] at a0 a1 a2 b0 b1 b2
    have fact : (gt A y = x ∧ gt A x = y ∧ gt A z = z ∧ gt M y = z ∧ gt M z = y ∧ gt M x = x) ∨ (gt M y = x ∧ gt M x = y ∧ gt M z = z ∧ gt A y = z ∧ gt A z = y ∧ gt A x = x) := by
      rcases (show q.2.2 = 0 ∨ q.2.2 = 1 by omega) with d | d
      · rw [d] at a0 a1 a2 b0 b1 b2
        exact .inl ⟨a1, a0, a2, b1, b2, b0⟩
      · rw [d] at a0 a1 a2 b0 b1 b2
        exact .inr ⟨b1, b0, b2, a1, a2, a0⟩
    have cn : canonP A q = [x, y, z] ∨ canonP A q = [z, y, x] := by
      unfold canonP
      rw [if_pos w, e]
      split
      · exact .inr rfl
      · exact .inl rfl
    rw [e]
    unfold outP chgR chgN
    rw [decide_eq_false (show ¬ q.1 = 3 by omega)]
    rcases cn with c | c <;> rw [c]
    · exact move_ok lm nd lt fact
    · have := move_ok lm nd lt fact
      show ChOk A M ("move", toI [y, min z x, max z x]) [x, y, z]
      rw [Nat.min_comm, Nat.max_comm]
      exact this
  · -- a ring of four
    have pr := part_ring ok w (r := 0) (by decide) pa pb lm.symm lt
    have len : (canonP A q).length = 4 := (canonP_perm (A := A)).length_eq.trans l
    have T : Trl A M (mn q.2.1) (canonP A q) := by
      have sa := b.sta
      have hm : mn q.2.1 < A.length := lt _ (mn_in ok)
      have W := walkF_ok (trl_ex lm.symm sa.1 sa.2 hm)
      have : walkF A M (mn q.2.1) = canonP A q := by
        unfold partF at pr
        split at pr
        · injection pr
        · injection pr with h _
          cases h
      rw [this] at W
      exact W
    obtain ⟨x, y, z, u, e⟩ := four_of len
    have perm : [x, y, z, u].Perm q.2.1 := by rw [← e]; exact canonP_perm
    have nd : [x, y, z, u].Nodup := perm.nodup_iff.2 ok.nd
    have lt4 : ∀ v ∈ [x, y, z, u], v < A.length := fun v hv => lt v (perm.mem_iff.1 hv)
    have sA := b.sta.1
    have sM := b.sta.2
    have st := T.st
    have g0 := T.go 0 (by omega)
    have g1 := T.go 1 (by omega)
    have g2 := T.go 2 (by omega)
    have fin := T.fin
    rw [len] at fin
    rw [e] at st g0 g1 g2 fin
    have st : x = mn q.2.1 := st
    have g0 : gt A x = y := g0
    have g1 : gt M y = z := g1
    have g2 : gt A z = u := g2
    have xl := lt4 x (by simp)
    have yl := lt4 y (by simp)
    have zl := lt4 z (by simp)
    have ul := lt4 u (by simp)
    have fin : gt M u = u ∨ gt M u = mn q.2.1 := fin
    have a1 : gt A y = x := by rw [← g0]; exact sA.inv x xl
    have a3 : gt A u = z := by rw [← g2]; exact sA.inv z zl
    have b2 : gt M z = y := by rw [← g1]; exact sM.inv y (by rw [lm]; exact yl)
    have b3 : gt M u = x := by
      rcases fin with f | f
      · exfalso
        obtain ⟨k, hk, ek⟩ := gt_ix (perm.mem_iff.1 (show u ∈ [x, y, z, u] by simp))
        have pk := pb k hk
        rw [ek, f] at pk
        rw [← ek] at pk
        have := gt_inj ok.nd hk (nb_lt ok hk) pk
        rw [w, l, nb_cr (by decide)] at this
        split at this
        · split at this
          · omega
          · rw [if_pos rfl] at this
            omega
        · split at this
          · omega
          · rw [if_pos rfl] at this
            omega
      · rw [f, ← st]
    have b4 : gt M x = u := by rw [← b3]; exact sM.inv u (by rw [lm]; exact ul)
    have low : x ≤ y ∧ x ≤ z ∧ x ≤ u := by
      rw [st]
      exact ⟨mn_le (perm.mem_iff.1 (by simp)), mn_le (perm.mem_iff.1 (by simp)), mn_le (perm.mem_iff.1 (by simp))⟩
    have key := cross_ok lm nd lt4 low ⟨g0, a1, g2, a3⟩ ⟨g1, b2, b3, b4⟩
    have fin2 : chgR (outP A q) = (("cross" : Str), toI [x, min y u, z, max y u]) := by
      unfold outP chgR chgN
      rw [decide_eq_true w, e]
      rfl
    rw [fin2]
    exact ⟨key.pm.trans (perm.map _), key.vd, key.sd, key.ot⟩
end Pv

/-! rounds of the small parts; how many there are -/
namespace Pv
open PySem L2 Evl Pm PySem.W
theorem filt_one {qs : List Pc} {j : Nat} (nd : (qs.flatMap (·.2.1)).Nodup) : (qs.filter fun q => decide (j ∈ q.2.1)).length ≤ 1 := by
  induction qs with
  | nil => simp
  | cons q qs ih =>
    rw [List.flatMap_cons, List.nodup_append] at nd
    by_cases c : j ∈ q.2.1
    · rw [List.filter_cons, if_pos (decide_eq_true c)]
      have : (qs.filter fun q => decide (j ∈ q.2.1)) = [] := by
        rw [List.filter_eq_nil_iff]
        intro r hr d
        have d := of_decide_eq_true d
        exact nd.2.2 j c j (List.mem_flatMap.2 ⟨r, hr, d⟩) rfl
      rw [this]
      simp
    · rw [List.filter_cons, if_neg (by simpa using c)]
      exact ih nd.2.1
theorem chg_mem {A M : List Nat} {c : Chg} {row : List Nat} (h : ChOk A M c row) {j : Nat} : (j : Int) ∈ c.2 ↔ j ∈ row := by
  rw [h.pm.mem_iff]
  unfold toI
  rw [List.mem_map]
  constructor
  · rintro ⟨x, hx, e⟩
    rw [← Int.ofNat.inj e]
    exact hx
  · exact fun h => ⟨j, h, rfl⟩
theorem plan_rnd {A M : List Nat} {qs : List Pc} {n : Nat} (b : Bl A M 0 qs n) (sm : ∀ q ∈ qs, Small q) : RndF (toI A) ((partsF A M n).map chgR) (.rch (toI M)) := by
  have lA : (toI A).length = n := by rw [toI_len]; exact b.la
  have lM : (toI M).length = n := by rw [toI_len]; exact b.lb
  have pj : ∀ q, q ∈ psJ qs n ↔ q ∈ qs ∧ isCR q = true := fun q => by rw [b.psJ_perm.mem_iff, List.mem_filter]
  have ok : ∀ q ∈ psJ qs n, ChOk A M (chgR (outP A q)) q.2.1 := fun q hq => part_ok b ((pj q).1 hq).1 (of_decide_eq_true ((pj q).1 hq).2) (sm q ((pj q).1 hq).1)
  have eq : (partsF A M n).map chgR = (psJ qs n).map fun q => chgR (outP A q) := by rw [b.parts n (Nat.le_refl _), List.map_map]; rfl
  rw [eq]
  have al : ((psJ qs n).map fun q => chgR (outP A q)).all (okR (toI A)) = true := by
    rw [List.all_eq_true]
    intro c hc
    obtain ⟨q, hq, rfl⟩ := List.mem_map.1 hc
    have o := ok q hq
    unfold okR
    rw [toI_len, o.vd.is, decide_eq_true o.sd]
    rfl
  have tm : ∀ j : Nat, tmF ((psJ qs n).map fun q => chgR (outP A q)) j = ((psJ qs n).filter fun q => decide (j ∈ q.2.1)).length := fun j => by
    unfold tmF
    rw [List.filter_map, List.length_map]
    refine congrArg List.length (List.filter_congr fun q hq => ?_)
    show decide ((j : Int) ∈ (chgR (outP A q)).2) = decide (j ∈ q.2.1)
    exact decide_eq_decide.2 (chg_mem (ok q hq))
  have one : ∀ j : Nat, tmF ((psJ qs n).map fun q => chgR (outP A q)) j ≤ 1 := fun j => by
    rw [tm, (b.psJ_perm.filter _).length_eq, List.filter_filter]
    refine Nat.le_trans ?_ (filt_one (j := j) b.nd)
    have : (qs.filter fun q => decide (j ∈ q.2.1) && isCR q) = (qs.filter fun q => decide (j ∈ q.2.1)).filter isCR := by
      rw [List.filter_filter]
      exact List.filter_congr fun q _ => Bool.and_comm ..
    rw [this]
    exact List.length_filter_le _ _
  refine ⟨al, firstOf_none fun j _ => decide_eq_false (by have := one j; omega), lM.trans lA.symm, fun j hj h0 => ?_, fun j c p _ hc hp e => ?_⟩
  · rw [lA] at hj
    obtain ⟨p, hp, hx⟩ := b.own hj
    have nc : ¬ 1 < p.1 := fun z => by
      rw [tm] at h0
      have : p ∈ (psJ qs n).filter fun q => decide (j ∈ q.2.1) := List.mem_filter.2 ⟨(pj p).2 ⟨hp, decide_eq_true z⟩, decide_eq_true hx⟩
      rw [List.length_eq_zero_iff.1 h0] at this
      cases this
    obtain ⟨k, hk, ek⟩ := gt_ix hx
    have pa := (b.at_ p hp).1 k hk
    have pb := (b.at_ p hp).2 k hk
    rw [ek, nb_same (r' := 0) (by omega)] at pb
    rw [ek] at pa
    rw [toI_at (by rw [b.lb]; exact hj), toI_at (by rw [b.la]; exact hj)]
    exact congrArg _ (pb.trans pa.symm)
  · obtain ⟨q, hq, rfl⟩ := List.mem_map.1 hc
    have := (ok q hq).ot p.1 p.2 hp
    rw [e, Int.toNat_natCast] at this
    exact this
theorem parts_crs {A M : List Nat} {qs : List Pc} {n : Nat} (b : Bl A M 0 qs n) : (partsF A M n).length = crs qs := by
  rw [b.parts n (Nat.le_refl _), List.length_map, b.psJ_perm.length_eq]
  rfl
def distS (ps : List Pc) : Nat := (ps.map distP).sum
theorem crs_flat {f : Pc → List Pc} : ∀ {ps : List Pc}, crs (ps.flatMap f) = (ps.map fun p => crs (f p)).sum
  | [] => rfl
  | p :: ps => by rw [List.flatMap_cons, crs_app, crs_flat, List.map_cons, List.sum_cons]
/-- the two rounds: how many changes, which are empty -/
theorem two_count {A B : List Nat} {ps : List Pc} {n : Nat} (b : Bl A B 0 ps n) (of : ∀ p ∈ ps, PcOf A B p) (h64 : n ≤ 64) :
    crs (ps.flatMap (subP 0)) + crs (ps.flatMap (subP 1)) = distS ps ∧ (crs (ps.flatMap (subP 1)) = 0 ↔ ∀ p ∈ ps, ¬ 1 < p.1) ∧ (crs (ps.flatMap (subP 0)) = 0 ↔ ∀ p ∈ ps, distP p ≤ 1) := by
  have small : ∀ p ∈ ps, p.2.1.length ≤ 64 := fun p hp => by
    have : p.2.1.length ≤ n := nodup_len (of p hp).ok.nd fun x hx => b.lt hp x hx
    omega
  rw [crs_flat, crs_flat]
  clear b h64
  unfold distS
  induction ps with
  | nil => exact ⟨rfl, ⟨fun _ p h => by (cases h), fun _ => rfl⟩, ⟨fun _ p h => by (cases h), fun _ => rfl⟩⟩
  | cons p ps ih =>
    obtain ⟨i1, i2, i3⟩ := ih (fun q hq => of q (List.mem_cons_of_mem _ hq)) fun q hq => small q (List.mem_cons_of_mem _ hq)
    obtain ⟨s1, s2, s3⟩ := sub_crs (of p (List.mem_cons_self ..)) (small p (List.mem_cons_self ..))
    rw [List.map_cons, List.sum_cons, List.map_cons, List.sum_cons, List.map_cons, List.sum_cons]
    refine ⟨by omega, ?_, ?_⟩
    · rw [Nat.add_eq_zero_iff, i2, List.forall_mem_cons]
      refine and_congr_left fun _ => ?_
      by_cases c : 1 < p.1
      · have := s2 c
        exact ⟨fun z => by omega, fun z => absurd c z⟩
      · exact ⟨fun _ => c, fun _ => (s3 c).2.1⟩
    · rw [Nat.add_eq_zero_iff, i3, List.forall_mem_cons]
      refine and_congr_left fun _ => ?_
      by_cases c : 1 < p.1
      · have := s2 c
        exact ⟨fun z => by have := this.2.1.1 z; omega, fun z => this.2.1.2 (by omega)⟩
      · exact ⟨fun _ => by have := s3 c; omega, fun _ => (s3 c).1⟩
/-- nothing but free records and pairs: the states are one -/
theorem same_iff {A B : List Nat} {ps : List Pc} {n : Nat} (b : Bl A B 0 ps n) : (∀ p ∈ ps, ¬ 1 < p.1) ↔ A = B := by
  constructor
  · intro h
    refine ext_gt (by rw [b.la, b.lb]) fun j hj => ?_
    obtain ⟨p, hp, hx⟩ := b.own (by rw [← b.la]; exact hj)
    obtain ⟨k, hk, ek⟩ := gt_ix hx
    have pa := (b.at_ p hp).1 k hk
    have pb := (b.at_ p hp).2 k hk
    rw [ek, nb_same (r' := 0) (by have := h p hp; omega)] at pb
    rw [ek] at pa
    exact pa.trans pb.symm
  · intro e p hp c
    have ok := b.ok p hp
    have pos := ok.pos
    have pa := (b.at_ p hp).1 0 pos
    have pb := (b.at_ p hp).2 0 pos
    rw [e] at pa
    have := gt_inj ok.nd (nb_lt ok pos) (nb_lt ok pos) (pa.symm.trans pb)
    have s := ok.s
    have l2 := ok.l2
    have l3 := ok.l3
    have w := ok.w
    have ln : 2 ≤ p.2.1.length := by
      rcases (show p.1 = 2 ∨ p.1 = 3 by omega) with q | q
      · exact l2 q
      · have := l3 q; omega
    have up : ∀ r s, (s + 0) % 2 = r → nb r p.1 p.2.1.length s 0 = 1 := fun r s h => by rw [nb_cr c, if_pos h, if_pos (by omega)]
    have dn : ∀ r s, (s + 0) % 2 ≠ r → nb r p.1 p.2.1.length s 0 = if p.1 = 3 then p.2.1.length - 1 else 0 := fun r s h => by rw [nb_cr c, if_neg h, if_neg (by omega)]
    have this : nb 0 p.1 p.2.1.length p.2.2 0 = nb 1 p.1 p.2.1.length p.2.2 0 := this
    have end_ : ∀ m, m = (if p.1 = 3 then p.2.1.length - 1 else 0) → m ≠ 1 := fun m hm => by
      rw [hm]
      split
      · rename_i w3
        have := l3 w3
        omega
      · omega
    rcases (show p.2.2 = 0 ∨ p.2.2 = 1 by omega) with d | d <;> rw [d] at this
    · rw [up 0 0 rfl, dn 1 0 (by decide)] at this
      exact end_ _ rfl this.symm
    · rw [up 1 1 rfl, dn 0 1 (by decide)] at this
      exact end_ _ rfl this
/-! ### what the law counts -/
def lotP (p : Pc) : Nat × Bool := (p.2.1.length, decide (p.1 = 1 ∨ p.1 = 3))
def farL (n : Nat) (ls : List (Nat × Bool)) : Nat := (n - (ls.filter fun l => decide (l.1 % 2 = 1)).length) / 2 - (ls.filter fun l => l.2).length
theorem far_is {A B : List Nat} {ps : List Pc} {n : Nat} (b : Bl A B 0 ps n) {ls : List (Nat × Bool)} (h : ls.Perm (ps.map lotP)) : farL n ls = distS ps ∧ (ls.filter fun l => decide (l.1 % 2 = 1)).length ≤ n ∧ (ls.filter fun l => l.2).length ≤ (n - (ls.filter fun l => decide (l.1 % 2 = 1)).length) / 2 := by
  unfold farL
  rw [(h.filter _).length_eq, (h.filter _).length_eq]
  have len : n = (ps.map fun p => p.2.1.length).sum := by
    have := b.perm.length_eq
    rw [List.length_range, List.length_flatMap] at this
    exact this.symm
  have key : ∀ qs : List Pc, (∀ p ∈ qs, PcOk p) → (qs.map fun p => p.2.1.length).sum = ((qs.map lotP).filter fun l => decide (l.1 % 2 = 1)).length + 2 * (distS qs + ((qs.map lotP).filter fun l => l.2).length) := by
    intro qs
    induction qs with
    | nil => exact fun _ => rfl
    | cons p qs ih =>
      intro ok
      have i := ih fun q hq => ok q (List.mem_cons_of_mem _ hq)
      have o := ok p (List.mem_cons_self ..)
      have l0 := o.l0
      have l1 := o.l1
      have l2 := o.l2
      have l3 := o.l3
      have w := o.w
      unfold distS at i ⊢
      rw [List.map_cons, List.sum_cons, List.map_cons, List.map_cons, List.sum_cons, i]
      have d : distP p = distI p.1 p.2.1.length := rfl
      unfold distI at d
      rw [List.filter_cons, List.filter_cons]
      have e1 : (lotP p).1 = p.2.1.length := rfl
      have e2 : (lotP p).2 = decide (p.1 = 1 ∨ p.1 = 3) := rfl
      rw [e1, e2]
      by_cases od : p.2.1.length % 2 = 1
      · rw [if_pos (decide_eq_true od), List.length_cons]
        by_cases cl : p.1 = 1 ∨ p.1 = 3
        · exfalso
          rcases cl with c | c
          · have := l1 c; omega
          · have := l3 c; omega
        · rw [if_neg (by simpa using cl)]
          have : distP p = (p.2.1.length - 1) / 2 := by
            rw [d]
            split
            · omega
            · split
              · omega
              · have := l0 (by omega); omega
          omega
      · rw [if_neg (by simpa using od)]
        by_cases cl : p.1 = 1 ∨ p.1 = 3
        · rw [if_pos (decide_eq_true cl), List.length_cons]
          have : distP p + 1 = p.2.1.length / 2 := by
            rw [d]
            rcases cl with c | c
            · rw [if_neg (by omega), if_neg (by omega)]
              have := l1 c; omega
            · rw [if_neg (by omega), if_pos c]
              have := l3 c; omega
          omega
        · rw [if_neg (by simpa using cl)]
          have : distP p = p.2.1.length / 2 := by
            rw [d]
            split
            · rfl
            · have := l0 (by omega); omega
          omega
  have k := key ps b.ok
  rw [← len] at k
  refine ⟨by omega, by omega, by omega⟩
def smallL (l : Nat × Bool) : Bool := (l.1 == 1 && !l.2) || (l.1 == 2 && l.2) || (l.1 == 2 && !l.2) || (l.1 == 3 && !l.2) || (l.1 == 4 && l.2)
theorem small_iff {p : Pc} (o : PcOk p) : smallL (lotP p) = decide (distP p ≤ 1) := by
  have l0 := o.l0
  have l1 := o.l1
  have l2 := o.l2
  have l3 := o.l3
  have w := o.w
  have d : distP p = distI p.1 p.2.1.length := rfl
  unfold distI at d
  unfold smallL lotP
  rw [Bool.eq_iff_iff, decide_eq_true_eq, d]
  rcases (show p.1 = 0 ∨ p.1 = 1 ∨ p.1 = 2 ∨ p.1 = 3 by omega) with c | c | c | c
  · have := l0 c
    rw [c]
    simp [this]
  · have := l1 c
    rw [c]
    simp [this]
  · have := l2 c
    rw [c]
    simp
    omega
  · have := l3 c
    rw [c]
    simp
    omega
end Pv

namespace Pv
open PySem L2 Evl Pm PySem.W
def oV : Option Nat → V
  | none => .non
  | some x => .int (x : Int)
def cirO (s : Nat) (row : List Nat) : List (Option Nat) :=
  (fun c => if c.length % 2 = 1 then c ++ [none] else if s = 1 then c else c ++ [none, none]) ((if s = 1 then [none] else []) ++ row.map some)
def circP (p : Pc) : List (Option Nat) := if p.1 = 3 then p.2.1.map some else cirO p.2.2 p.2.1
def offP (p : Pc) : Nat := if p.1 = 2 ∧ p.2.2 = 1 then 1 else 0
def lenP (p : Pc) : Nat := if p.1 = 3 then p.2.1.length else if (p.2.1.length + offP p) % 2 = 1 then p.2.1.length + offP p + 1 else if offP p = 1 then p.2.1.length + 1 else p.2.1.length + 2
theorem mid_is {p : Pc} (h : 1 < p.1) (k : Nat) : midI p.1 p.2.1.length p.2.2 k = if offP p ≤ (lenP p + 1 - (k + offP p)) % lenP p ∧ (lenP p + 1 - (k + offP p)) % lenP p < offP p + p.2.1.length then (lenP p + 1 - (k + offP p)) % lenP p - offP p else k := by
  unfold midI
  rw [if_neg (by omega)]
  rfl
theorem getO {l : List Nat} {j : Nat} (h : j < l.length) : (l.map some)[j]? = some (some (gt l j)) := by
  unfold gt
  rw [List.getElem?_map, List.getElem?_eq_getElem h, List.getD_eq_getElem?_getD, List.getElem?_eq_getElem h]
  rfl
/-- the circle of a piece: its length, what stands where -/
theorem circ_is {A B : List Nat} {p : Pc} (o : PcOf A B p) (h : 1 < p.1) : (circP p).length = lenP p ∧ lenP p % 2 = 0 ∧ 2 ≤ lenP p ∧ offP p + p.2.1.length ≤ lenP p ∧ lenP p ≤ p.2.1.length + 2 ∧ ∀ q, q < lenP p → (circP p)[q]? = some (if offP p ≤ q ∧ q < offP p + p.2.1.length then some (gt p.2.1 (q - offP p)) else none) := by
  have ok := o.ok
  have s := ok.s
  have w := ok.w
  have l2 := ok.l2
  have l3 := ok.l3
  by_cases c3 : p.1 = 3
  · have := l3 c3
    have e0 : offP p = 0 := by unfold offP; rw [if_neg (by omega)]
    have eL : lenP p = p.2.1.length := by unfold lenP; rw [if_pos c3]
    have eC : circP p = p.2.1.map some := by unfold circP; rw [if_pos c3]
    rw [e0, eL, eC]
    refine ⟨List.length_map .., by omega, by omega, by omega, by omega, fun q hq => ?_⟩
    rw [getO hq, if_pos ⟨Nat.zero_le _, by omega⟩, Nat.sub_zero]
  · have n2 := l2 (by omega)
    have eC : circP p = cirO p.2.2 p.2.1 := by unfold circP; rw [if_neg c3]
    rw [eC]
    rcases (show p.2.2 = 0 ∨ p.2.2 = 1 by omega) with d | d
    · have e0 : offP p = 0 := by unfold offP; rw [if_neg (by omega)]
      rw [d]
      unfold cirO lenP
      rw [e0, if_neg c3, if_neg (by decide), List.nil_append]
      simp only [List.length_map, Nat.add_zero, Nat.zero_add]
      by_cases od : p.2.1.length % 2 = 1
      · rw [if_pos od, if_pos od]
        refine ⟨by rw [List.length_append, List.length_map]; rfl, by omega, by omega, by omega, by omega, fun q hq => ?_⟩
        by_cases c : q < p.2.1.length
        · rw [List.getElem?_append_left (by rw [List.length_map]; exact c), getO c, if_pos ⟨Nat.zero_le _, c⟩, Nat.sub_zero]
        · rw [List.getElem?_append_right (by rw [List.length_map]; omega), List.length_map, if_neg (by omega), show q - p.2.1.length = 0 by omega]
          rfl
      · rw [if_neg od, if_neg od, if_neg (by decide), if_neg (by decide)]
        refine ⟨by rw [List.length_append, List.length_map]; rfl, by omega, by omega, by omega, by omega, fun q hq => ?_⟩
        by_cases c : q < p.2.1.length
        · rw [List.getElem?_append_left (by rw [List.length_map]; exact c), getO c, if_pos ⟨Nat.zero_le _, c⟩, Nat.sub_zero]
        · rw [List.getElem?_append_right (by rw [List.length_map]; omega), List.length_map, if_neg (by omega)]
          rcases (show q - p.2.1.length = 0 ∨ q - p.2.1.length = 1 by omega) with z | z <;> rw [z] <;> rfl
    · have e1 : offP p = 1 := by unfold offP; rw [if_pos ⟨by omega, d⟩]
      rw [d]
      unfold cirO lenP
      rw [e1, if_neg c3, if_pos rfl]
      simp only [List.length_append, List.length_map, List.length_singleton]
      by_cases od : (p.2.1.length + 1) % 2 = 1
      · rw [if_pos od, if_pos (show (1 + p.2.1.length) % 2 = 1 by omega)]
        refine ⟨by simp only [List.length_append, List.length_map, List.length_singleton]; omega, by omega, by omega, by omega, by omega, fun q hq => ?_⟩
        by_cases c : q < 1 + p.2.1.length
        · rw [List.getElem?_append_left (by simp only [List.length_append, List.length_map, List.length_singleton]; omega)]
          by_cases z : q = 0
          · rw [z, if_neg (by omega)]
            rfl
          · rw [List.getElem?_append_right (by simp only [List.length_singleton]; omega), List.length_singleton, getO (by omega), if_pos (by omega)]
        · rw [List.getElem?_append_right (by simp only [List.length_append, List.length_map, List.length_singleton]; omega), if_neg (by omega)]
          simp only [List.length_append, List.length_map, List.length_singleton]
          rw [show q - (1 + p.2.1.length) = 0 by omega]
          rfl
      · rw [if_neg od, if_neg (show ¬ (1 + p.2.1.length) % 2 = 1 by omega)]
        simp only [if_true]
        refine ⟨by simp only [List.length_append, List.length_map, List.length_singleton]; omega, by omega, by omega, by omega, by omega, fun q hq => ?_⟩
        by_cases z : q = 0
        · rw [z, if_neg (by omega)]
          rfl
        · rw [List.getElem?_append_right (by simp only [List.length_singleton]; omega), List.length_singleton, getO (by omega), if_pos (by omega)]
def setO (R : List Nat) (f g : Option Nat) : List Nat := match f with
  | none => R
  | some x => R.set x (g.getD x)
def pairO (R : List Nat) (f g : Option Nat) : List Nat := setO (setO R f g) g f
theorem setO_len {R : List Nat} {f g : Option Nat} : (setO R f g).length = R.length := by
  cases f with
  | none => rfl
  | some x => exact List.length_set ..
theorem gt_setO {R : List Nat} {f g : Option Nat} {z : Nat} (hz : z < R.length) : gt (setO R f g) z = if f = some z then g.getD z else gt R z := by
  cases f with
  | none => rw [if_neg (fun h => by cases h)]; rfl
  | some x =>
    show gt (R.set x (g.getD x)) z = _
    unfold gt
    rw [List.getD_eq_getElem?_getD, List.getElem?_set]
    by_cases c : x = z
    · subst c
      rw [if_pos rfl, if_pos hz, if_pos rfl]
      rfl
    · rw [if_neg c, if_neg (fun h => c (by injection h)), List.getD_eq_getElem?_getD]
/-- the state between, part by part: what stands after j turns of a part's loop -/
structure MidJ (R0 R : List Nat) (p : Pc) (j : Nat) : Prop where
  len : R.length = R0.length
  out : ∀ x, x < R0.length → x ∉ p.2.1 → gt R x = gt R0 x
  dn : ∀ k, k < p.2.1.length → (((k + offP p) % 2 = 0 ∧ k + offP p < 2 * j) ∨ ((k + offP p) % 2 = 1 ∧ (lenP p + 1 - (k + offP p)) % lenP p < 2 * j)) → gt R (gt p.2.1 k) = gt p.2.1 (midI p.1 p.2.1.length p.2.2 k)
theorem md_lt {a L : Nat} (h : 0 < L) : a % L < L := Nat.mod_lt _ h
theorem MidJ.step {A B R0 R : List Nat} {p : Pc} {j : Nat} (o : PcOf A B p) (h : 1 < p.1) (lt : ∀ x ∈ p.2.1, x < R0.length) (m : MidJ R0 R p j) (hj : 2 * j < lenP p) {f g : Option Nat} (hf : (circP p)[2 * j]? = some f) (hg : (circP p)[(lenP p + 1 - 2 * j) % lenP p]? = some g) : MidJ R0 (pairO R f g) p (j + 1) := by
  obtain ⟨c1, c2, c3, c4, c5, c6⟩ := circ_is o h
  have nd := o.ok.nd
  have q2l : (lenP p + 1 - 2 * j) % lenP p < lenP p := md_lt (by omega)
  have q2e : (lenP p + 1 - 2 * j) % lenP p = if j = 0 then 1 else lenP p + 1 - 2 * j := by
    split
    · rename_i z
      rw [z, Nat.mul_zero, Nat.sub_zero, Nat.add_mod_left, Nat.mod_eq_of_lt (by omega)]
    · exact Nat.mod_eq_of_lt (by omega)
  have par2 : (lenP p + 1 - 2 * j) % lenP p % 2 = 1 := by rw [q2e]; split <;> omega
  have back : (lenP p + 1 - (lenP p + 1 - 2 * j) % lenP p) % lenP p = 2 * j := by
    rw [q2e]
    split
    · rename_i z
      rw [z, Nat.add_sub_cancel, Nat.mod_self]
    · rw [show lenP p + 1 - (lenP p + 1 - 2 * j) = 2 * j by omega]
      exact Nat.mod_eq_of_lt hj
  have ef := c6 (2 * j) hj
  have eg := c6 _ q2l
  rw [hf] at ef
  rw [hg] at eg
  have ef := Option.some.inj ef
  have eg := Option.some.inj eg
  -- who stands at a place
  have who : ∀ q, q < lenP p → ∀ v, v = (if offP p ≤ q ∧ q < offP p + p.2.1.length then some (gt p.2.1 (q - offP p)) else none) → ∀ k, k < p.2.1.length → (v = some (gt p.2.1 k) ↔ q = k + offP p) := fun q hq v hv k hk => by
    constructor
    · intro e
      rw [hv] at e
      by_cases c : offP p ≤ q ∧ q < offP p + p.2.1.length
      · rw [if_pos c] at e
        have := gt_inj nd (by omega) hk (Option.some.inj e)
        omega
      · rw [if_neg c] at e
        cases e
    · intro e
      rw [hv, if_pos (by omega), show q - offP p = k by omega]
  have whof := who (2 * j) hj f ef
  have whog := who _ q2l g eg
  have getV : ∀ q, ∀ v : Option Nat, v = (if offP p ≤ q ∧ q < offP p + p.2.1.length then some (gt p.2.1 (q - offP p)) else none) → ∀ k, (lenP p + 1 - (k + offP p)) % lenP p = q → v.getD (gt p.2.1 k) = gt p.2.1 (midI p.1 p.2.1.length p.2.2 k) := fun q v hv k e => by
    rw [mid_is h, e, hv]
    by_cases c : offP p ≤ q ∧ q < offP p + p.2.1.length
    · rw [if_pos c, if_pos c]; rfl
    · rw [if_neg c, if_neg c]; rfl
  refine ⟨by unfold pairO; rw [setO_len, setO_len]; exact m.len, fun x hx nx => ?_, fun k hk hd => ?_⟩
  · have hR : x < R.length := by rw [m.len]; exact hx
    have nf : f ≠ some x := fun z => by
      rw [ef] at z
      split at z
      · rename_i c
        exact nx (by rw [← Option.some.inj z]; exact gt_mem (by omega))
      · cases z
    have ng : g ≠ some x := fun z => by
      rw [eg] at z
      split at z
      · rename_i c
        exact nx (by rw [← Option.some.inj z]; exact gt_mem (by omega))
      · cases z
    unfold pairO
    rw [gt_setO (by rw [setO_len]; exact hR), if_neg ng, gt_setO hR, if_neg nf]
    exact m.out x hx nx
  · have hR : gt p.2.1 k < R.length := by rw [m.len]; exact lt _ (gt_mem hk)
    unfold pairO
    rw [gt_setO (by rw [setO_len]; exact hR)]
    by_cases cg : (lenP p + 1 - 2 * j) % lenP p = k + offP p
    · rw [if_pos ((whog k hk).2 cg)]
      exact getV (2 * j) f ef k (by rw [← cg]; exact back)
    · rw [if_neg (fun z => cg ((whog k hk).1 z)), gt_setO hR]
      by_cases cf : 2 * j = k + offP p
      · rw [if_pos ((whof k hk).2 cf)]
        exact getV _ g eg k (by rw [← cf])
      · rw [if_neg (fun z => cf ((whof k hk).1 z))]
        refine m.dn k hk ?_
        rcases hd with ⟨d1, d2⟩ | ⟨d1, d2⟩
        · exact .inl ⟨d1, by omega⟩
        · refine .inr ⟨d1, ?_⟩
          have pl : k + offP p < lenP p := by omega
          have r : (lenP p + 1 - (k + offP p)) % lenP p = if k + offP p = 1 then 0 else lenP p + 1 - (k + offP p) := by
            split
            · rename_i z
              rw [z, Nat.add_sub_cancel, Nat.mod_self]
            · exact Nat.mod_eq_of_lt (by omega)
          rw [r] at d2 ⊢
          rw [q2e] at cg
          split at d2
          · rename_i z
            rw [if_pos z]
            split at cg
            · omega
            · omega
          · rename_i z
            rw [if_neg z]
            split at cg
            · omega
            · omega
theorem MidJ.zero {R0 : List Nat} {p : Pc} : MidJ R0 R0 p 0 := ⟨rfl, fun _ _ _ => rfl, fun k _ h => by omega⟩
theorem MidJ.fin {A B R0 R : List Nat} {p : Pc} {j : Nat} (o : PcOf A B p) (h : 1 < p.1) (m : MidJ R0 R p j) (hj : lenP p ≤ 2 * j) : MidAt R p := by
  obtain ⟨c1, c2, c3, c4, c5, c6⟩ := circ_is o h
  intro k hk
  refine m.dn k hk ?_
  by_cases c : (k + offP p) % 2 = 0
  · exact .inl ⟨c, by omega⟩
  · refine .inr ⟨by omega, ?_⟩
    have := md_lt (a := lenP p + 1 - (k + offP p)) (L := lenP p) (by omega)
    omega
/-- the pieces are written as the parts are -/
theorem canon_is {A B : List Nat} {p : Pc} (o : PcOf A B p) (h : 1 < p.1) : canonP A p = p.2.1 := by
  have ok := o.ok
  unfold canonP
  by_cases c : p.1 = 2
  · rw [if_pos c, if_neg (by have := o.c2 c; omega)]
  · have w := ok.w
    have c3 : p.1 = 3 := by omega
    obtain ⟨s0, low⟩ := o.c3 c3
    have l3 := ok.l3 c3
    have mnE : mn p.2.1 = gt p.2.1 0 := by
      have m1 := mn_le (l := p.2.1) (x := gt p.2.1 0) (gt_mem (by omega))
      have m2 := low _ (mn_in ok)
      omega
    have ix : p.2.1.idxOf (mn p.2.1) = 0 := by
      have i := idx_gt (mn_in ok)
      rw [mnE] at i ⊢
      exact gt_inj ok.nd i.1 (by omega) i.2
    rw [if_neg c, ix, List.drop_zero, List.take_zero, List.append_nil, if_neg]
    intro z
    have a0 := o.a 0 (by omega)
    rw [c3, s0, nb_cr (by decide), if_pos rfl, if_pos (by omega)] at a0
    exact z a0
/-- all parts are done -/
theorem mid_all {A B M : List Nat} {ps : List Pc} {n : Nat} (b : Bl A B 0 ps n) (of : ∀ p ∈ ps, PcOf A B p) (dn : ∀ p ∈ psJ ps n, MidAt M p) (out : ∀ x, x < n → (∀ p ∈ psJ ps n, x ∉ p.2.1) → gt M x = gt A x) : ∀ p ∈ ps, MidAt M p := by
  intro p hp
  have pj : ∀ q, q ∈ psJ ps n ↔ q ∈ ps ∧ isCR q = true := fun q => by rw [b.psJ_perm.mem_iff, List.mem_filter]
  by_cases c : 1 < p.1
  · exact dn p ((pj p).2 ⟨hp, decide_eq_true c⟩)
  · intro k hk
    have hx := b.lt hp _ (gt_mem hk)
    rw [out _ hx fun q hq m => ?_, (of p hp).a k hk]
    · unfold midI
      rw [if_pos (by omega)]
    · have e := b.uq hp ((pj q).1 hq).1 (gt_mem hk) m
      have := of_decide_eq_true ((pj q).1 hq).2
      rw [← e] at this
      exact c this
/-! ### contracts -/
/-- a change, its tuples plain -/
def CgP (H : Hp) (a : Addr) (c : Chg) : Prop := ∃ t, H a = some (.tup [.str c.1, .ref t]) ∧ H t = some (.tup (c.2.map V.int))
theorem CgP.at {H : Hp} {a : Addr} {c : Chg} (h : CgP H a c) : CgAt H a c := h.elim fun t h => ⟨t, h.1, .inl h.2⟩
theorem CgP.ex {H H' : Hp} {a : Addr} {c : Chg} (e : Ex H H') (h : CgP H a c) : CgP H' a c := h.elim fun t h => ⟨t, e _ _ h.1, e _ _ h.2⟩
theorem CgP.keep {H H' : Hp} {a : Addr} {c : Chg} (h : CgP H a c) (k : KpT H H') : CgP H' a c := h.elim fun t h => ⟨t, k.p _ _ h.1, k.p _ _ h.2⟩
def CgsP (H : Hp) (r : Addr) (cs : List Chg) : Prop := ∃ ts : List Addr, H r = some (.lst (ts.map V.ref)) ∧ ts.length = cs.length ∧ ∀ (i : Nat) (t : Addr) (c : Chg), ts[i]? = some t → cs[i]? = some c → CgP H t c ∧ okC c
theorem CgsP.ex {H H' : Hp} {r : Addr} {cs : List Chg} (e : Ex H H') (h : CgsP H r cs) : CgsP H' r cs := by
  obtain ⟨ts, a, b, k⟩ := h
  exact ⟨ts, e _ _ a, b, fun i t c h1 h2 => ⟨(k i t c h1 h2).1.ex e, (k i t c h1 h2).2⟩⟩
theorem CgsP.at {H : Hp} {r : Addr} {cs : List Chg} (h : CgsP H r cs) : CgsL H r cs := by
  obtain ⟨ts, a, b, k⟩ := h
  exact ⟨ts, a, b, fun i t c h1 h2 => ⟨(k i t c h1 h2).1.at, (k i t c h1 h2).2⟩⟩
def spTie : Sp := fun vs H Q _ => ∃ (l : Addr) (x y : Nat), vs = [.ref l] ∧ ListN H l [x, y] ∧ ∀ p H', Ex H H' → CgP H' p ("tie", toI [min x y, max x y]) → Q (.ref p) H'
def spMov : Sp := fun vs H Q _ => ∃ (a b c : Nat), vs = [.int (a : Int), .int (b : Int), .int (c : Int)] ∧ ∀ p H', Ex H H' → CgP H' p ("move", toI [a, min b c, max b c]) → Q (.ref p) H'
def spCro : Sp := fun vs H Q _ => ∃ (l : Addr) (x y z u : Nat), vs = [.ref l] ∧ ListN H l [x, y, z, u] ∧ x ≤ y ∧ x ≤ z ∧ x ≤ u ∧ ∀ p H', Ex H H' → CgP H' p ("cross", toI [x, min y u, z, max y u]) → Q (.ref p) H'
def SmC (c : Bool × List Nat) : Prop := (c.1 = false ∧ (c.2.length = 2 ∨ c.2.length = 3)) ∨ (c.1 = true ∧ ∃ x y z u, c.2 = [x, y, z, u] ∧ x ≤ y ∧ x ≤ z ∧ x ≤ u)
def spCop : Sp := fun vs H Q _ => ∃ (t : Addr) (c : Bool × List Nat), vs = [.ref t] ∧ PrtAt H t c ∧ SmC c ∧ ∀ p H', Ex H H' → CgP H' p (chgR c) → Q (.ref p) H'
def spCb : Sp := fun vs H Q E => ∃ (a b : Addr) (ys zs : List Nat) (qs : List Pc) (n : Nat), vs = [.ref a, .ref b] ∧ ListN H a ys ∧ ListN H b zs ∧ Bl ys zs 0 qs n ∧ (∀ q ∈ qs, Small q) ∧ n ≤ 64 ∧ ∀ p H', H p = none → Ex H H' → CgsP H' p ((partsF ys zs n).map chgR) → Q (.ref p) H'
def spPd : Sp := fun vs H Q _ => ∃ (t : Addr) (c : Bool × List Nat), vs = [.ref t] ∧ PrtAt H t c ∧ c.2.length ≤ 200 ∧ Q (.int ((if c.1 then (c.2.length : Int) / 2 - 1 else (c.2.length : Int) / 2))) H
def spCl : Sp := fun vs H Q _ => ∃ (a r : Addr) (ys row : List Nat) (s : Nat), vs = [.ref a, .ref r] ∧ ListN H a ys ∧ ListN H r row ∧ 0 < row.length ∧ row.length ≤ 200 ∧ gt row 0 < ys.length ∧ s < 2 ∧ (s = 1 ↔ gt ys (gt row 0) = gt row 0) ∧ ∀ p H', H p = none → Ex H H' → H' p = some (.lst ((cirO s row).map oV)) → Q (.ref p) H'
def spPr : Sp := fun vs H Q _ => ∃ (m : Addr) (R : List Nat) (f g : Option Nat), vs = [.ref m, oV f, oV g] ∧ ListN H m R ∧ (∀ x, f = some x → x < R.length) ∧ (∀ x, g = some x → x < R.length) ∧ ∀ H', (∀ x o, x ≠ m → H x = some o → H' x = some o) → ListN H' m (pairO R f g) → Q .non H'
def spMi (A : Ad) : Sp := fun vs H Q E => ∃ (a b : Addr) (xs zs : List Int), vs = [.ref a, .ref b] ∧ ListI H a xs ∧ ListI H b zs ∧ xs.length ≤ 64 ∧ zs.length ≤ 64 ∧
  (faultF xs zs = none → ∀ ps, Bl (natI xs) (natI zs) 0 ps xs.length → (∀ q ∈ ps, PcOf (natI xs) (natI zs) q) → ∀ p M H', H p = none → Ex H H' → ListN H' p M → M.length = xs.length → (∀ q ∈ ps, MidAt M q) → Q (.ref p) H') ∧ ∀ f, faultF xs zs = some f → RzF A f H E
noncomputable def roundsP (ys M zs : List Nat) (n : Nat) : List (List Chg) := [(partsF ys M n).map chgR, (partsF M zs n).map chgR].filter fun cs => decide (0 < cs.length)
def CssP (H : Hp) (r : Addr) (css : List (List Chg)) : Prop := ∃ rs : List Addr, H r = some (.lst (rs.map V.ref)) ∧ rs.length = css.length ∧ ∀ (i : Nat) (t : Addr) (cs : List Chg), rs[i]? = some t → css[i]? = some cs → CgsP H t cs
theorem CssP.ex {H H' : Hp} {r : Addr} {css : List (List Chg)} (e : Ex H H') (h : CssP H r css) : CssP H' r css := by
  obtain ⟨ts, a, b, k⟩ := h
  exact ⟨ts, e _ _ a, b, fun i t c h1 h2 => (k i t c h1 h2).ex e⟩
def spPl (A : Ad) : Sp := fun vs H Q E => ∃ (a b : Addr) (xs zs : List Int), vs = [.ref a, .ref b] ∧ ListI H a xs ∧ ListI H b zs ∧ xs.length ≤ 64 ∧ zs.length ≤ 64 ∧
  (faultF xs zs = none → ∀ ps, Bl (natI xs) (natI zs) 0 ps xs.length → (∀ q ∈ ps, PcOf (natI xs) (natI zs) q) → ∀ M r H', M.length = xs.length → (∀ q ∈ ps, MidAt M q) → Ex H H' → CssP H' r (roundsP (natI xs) M (natI zs) xs.length) → Q (.ref r) H') ∧ ∀ f, faultF xs zs = some f → RzF A f H E
/-- how many rounds are needed -/
def needN (ps : List Pc) : Nat := if ps.all (fun p => decide (¬ 1 < p.1)) = true then 0 else if ps.all (fun p => decide (distP p ≤ 1)) = true then 1 else 2
def spRn (A : Ad) : Sp := fun vs H Q E => ∃ (a b : Addr) (xs zs : List Int), vs = [.ref a, .ref b] ∧ ListI H a xs ∧ ListI H b zs ∧ xs.length ≤ 64 ∧ zs.length ≤ 64 ∧
  (faultF xs zs = none → ∀ ps, Bl (natI xs) (natI zs) 0 ps xs.length → (∀ q ∈ ps, PcOf (natI xs) (natI zs) q) → ∀ H', Ex H H' → Q (.int (needN ps : Nat)) H') ∧ ∀ f, faultF xs zs = some f → RzF A f H E
end Pv

namespace Pv
open PySem L2 Evl Pm PySem.W
def wF : Nat → Str
  | 1 => "image" | 2 => "unsettled" | _ => "sizes"
def dueT (o : Option (Nat × Nat)) : List V := match o with
  | none => []
  | some f => [.str (wF f.1), .int (f.2 : Int)]
theorem wF_mem (f : Nat) : wF f ∈ wordsW := by
  unfold wF
  split <;> decide +kernel
def spMt3 : Sp := fun vs H Q _ => ∃ (l r : Addr) (b : Bool) (xs zs : List Int), vs = [.ref l, .ref r, .bl b] ∧ ListI H l xs ∧ ListI H r zs ∧ xs.length ≤ 64 ∧ zs.length ≤ 64 ∧
  (∀ f, faultF xs zs = some f → AnW (wF f.1) f.2 H Q) ∧
  (faultF xs zs = none → ∀ ps, Bl (natI xs) (natI zs) 0 ps xs.length → (∀ q ∈ ps, PcOf (natI xs) (natI zs) q) →
    (b = true → ∀ t H', Ex H H' → H' t = some (.tup [.str "told", .int (needN ps : Nat)]) → Q (.ref t) H') ∧
    (b = false → ∀ M t r H', M.length = xs.length → (∀ q ∈ ps, MidAt M q) → Ex H H' → H' t = some (.tup [.str "told", .ref r]) → CssP H' r (roundsP (natI xs) M (natI zs) xs.length) → Q (.ref t) H'))
def spTwd : Sp := fun vs H Q _ => ∃ (l r : Addr) (xs zs : List Int), vs = [.ref l, .ref r] ∧ ListI H l xs ∧ ListI H r zs ∧ xs.length ≤ 65 ∧ zs.length ≤ 65 ∧ ∀ t H', Ex H H' → H' t = some (.tup (dueT (faultF xs zs))) → Q (.ref t) H'
def spBt2 : Sp := fun vs H Q _ => ∃ (b c l r : Addr) (xs zs : List Int), vs = [.ref b, .ref l, .ref r] ∧ Bx H b c ∧ ListI H l xs ∧ ListI H r zs ∧ xs.length ≤ 64 ∧ zs.length ≤ 64 ∧
  ∀ p u v us ws H', H p = none → Bx H' b c → Mut b H H' → H' p = some (.lst [.ref u, .ref v]) → ListI H' u us → ListI H' v ws → us.length ≤ 64 → ws.length ≤ 64 → Q (.ref p) H'
def spWr : Sp := fun vs H Q _ => ∃ (l r : Addr) (xs zs : List Int), vs = [.ref l, .ref r] ∧ ListI H l xs ∧ ListI H r zs ∧ faultF xs zs = none ∧ xs.length ≤ 64 ∧ ∀ H', Ex H H' → Q (.bl true) H'
def spPrr : Sp := fun vs H Q _ => ∃ (r l d : Addr) (ys zs M : List Nat) (ps : List Pc) (n : Nat), vs = [.ref r, .ref l, .ref d] ∧ CssP H r (roundsP ys M zs n) ∧ ListN H l ys ∧ ListN H d zs ∧ Bl ys zs 0 ps n ∧ (∀ p ∈ ps, PcOf ys zs p) ∧ n ≤ 64 ∧ M.length = n ∧ (∀ p ∈ ps, MidAt M p) ∧ ∀ H', Ex H H' → Q (.bl true) H'
def spWlk : Sp := fun vs H Q _ => ∃ (l r : Addr) (xs : List Int) (css : List (List Chg)) (rows : List (List Int)) (ys : List Int), vs = [.ref l, .ref r] ∧ ListI H l xs ∧ CssP H r css ∧ Fol xs css rows ys ∧ (∀ cs ∈ css, 0 < cs.length) ∧ (∀ cs ∈ css, cs.length ≤ 200) ∧ xs.length ≤ 64 ∧ faultS xs = none ∧ ∀ t u H', Ex H H' → H' t = some (.tup [.str "reached", .ref u]) → ListI H' u ys → Q (.ref t) H'
def spFm : Sp := fun vs H Q _ => ∃ (a : Addr) (c : Chg), vs = [.ref a] ∧ CgP H a c ∧ okC c ∧ ∀ H', Ex H H' → Q (.bl true) H'
def LotAt (H : Hp) (t : Addr) (l : Nat × Bool) : Prop := H t = some (.tup [.int (l.1 : Int), .bl l.2])
def LotsAt (H : Hp) (p : Addr) (ls : List (Nat × Bool)) : Prop := ∃ ts : List Addr, H p = some (.lst (ts.map V.ref)) ∧ ts.length = ls.length ∧ ∀ (i : Nat) (t : Addr) (l : Nat × Bool), ts[i]? = some t → ls[i]? = some l → LotAt H t l
theorem LotsAt.ex {H H' : Hp} {p : Addr} {ls : List (Nat × Bool)} (e : Ex H H') (h : LotsAt H p ls) : LotsAt H' p ls := by
  obtain ⟨ts, a, b, c⟩ := h
  exact ⟨ts, e _ _ a, b, fun i t l x y => e _ _ (c i t l x y)⟩
def spLo : Sp := fun vs H Q _ => ∃ (l r : Addr) (ys zs : List Nat) (ps : List Pc) (n : Nat), vs = [.ref l, .ref r] ∧ ListN H l ys ∧ ListN H r zs ∧ Bl ys zs 0 ps n ∧ (∀ p ∈ ps, PcOf ys zs p) ∧ n ≤ 64 ∧ ∀ p ls H', H p = none → Ex H H' → LotsAt H' p ls → ls.Perm (ps.map lotP) → ls.length ≤ 64 → Q (.ref p) H'
def spFa : Sp := fun vs H Q _ => ∃ (l r : Addr) (ys zs : List Nat) (ps : List Pc) (n : Nat), vs = [.ref l, .ref r] ∧ ListN H l ys ∧ ListN H r zs ∧ Bl ys zs 0 ps n ∧ (∀ p ∈ ps, PcOf ys zs p) ∧ n ≤ 64 ∧ ∀ H', Ex H H' → Q (.int (distS ps : Nat)) H'
def spNe : Sp := fun vs H Q _ => ∃ (l r : Addr) (ys zs : List Nat) (ps : List Pc) (n : Nat), vs = [.ref l, .ref r] ∧ ListN H l ys ∧ ListN H r zs ∧ Bl ys zs 0 ps n ∧ (∀ p ∈ ps, PcOf ys zs p) ∧ n ≤ 64 ∧ ∀ H', Ex H H' → Q (.int (needN ps : Nat)) H'
def spTw : Sp := fun vs H Q _ => ∃ (b c : Addr) (n : Nat), vs = [.ref b, .int (n : Int)] ∧ n ≤ 64 ∧ Bx H b c ∧ ∀ p u v R0 R1 H', H p = none → Bx H' b c → Mut b H H' → H' p = some (.lst [.ref u, .ref v]) → ListN H' u R0 → ListN H' v R1 → StN R0 n → StN R1 n → Q (.ref p) H'
def spDr3 : Sp := fun vs H Q _ => ∃ (b c l r : Addr) (xs zs : List Int), vs = [.ref b, .ref l, .ref r] ∧ Bx H b c ∧ ListI H l xs ∧ ListI H r zs ∧ xs.length ≤ 64 ∧ zs.length ≤ 64 ∧ ∀ H', Q (.bl true) H'
end Pv

/-! the pieces gathered breadth first, in any order, and their lots -/
namespace Pv
open PySem L2 Evl Pm
theorem nod1 (y : Nat) : [y].Nodup := List.nodup_cons.mpr ⟨List.not_mem_nil, List.nodup_nil⟩
theorem nodP (y : Pc) : [y].Nodup := List.nodup_cons.mpr ⟨List.not_mem_nil, List.nodup_nil⟩
/-- gathered of p so far: line; S tells who was seen -/
structure Ga (p : Pc) (S0 : Nat → Bool) (line : List Nat) (S : Nat → Bool) : Prop where
  nd : line.Nodup
  sub : ∀ x ∈ line, x ∈ p.2.1
  old : ∀ x ∈ p.2.1, S0 x = false
  is : ∀ x, S x = (S0 x || decide (x ∈ line))
theorem Ga.mem {p : Pc} {S0 S : Nat → Bool} {line : List Nat} (g : Ga p S0 line S) {y : Nat} (hy : y ∈ p.2.1) (h : S y = true) : y ∈ line := by
  rw [g.is, g.old y hy, Bool.false_or] at h
  exact of_decide_eq_true h
theorem Ga.add {p : Pc} {S0 S : Nat → Bool} {line : List Nat} (g : Ga p S0 line S) {y : Nat} (hy : y ∈ p.2.1) (h : S y = false) : Ga p S0 (line ++ [y]) (fun x => if x = y then true else S x) := by
  have ny : y ∉ line := fun m => by
    rw [g.is, decide_eq_true m, Bool.or_true] at h
    cases h
  refine ⟨?_, fun x hx => ?_, g.old, fun x => ?_⟩
  · rw [List.nodup_append]
    exact ⟨g.nd, nod1 y, fun a ha b hb e => ny (by rw [List.mem_singleton.mp hb] at e; rw [← e]; exact ha)⟩
  · rcases List.mem_append.mp hx with m | m
    · exact g.sub x m
    · rw [List.mem_singleton.mp m]
      exact hy
  · by_cases e : x = y
    · subst e
      rw [if_pos rfl, decide_eq_true (List.mem_append.mpr (.inr (List.mem_singleton.mpr rfl))), Bool.or_true]
    · rw [if_neg e, g.is]
      congr 1
      rw [Bool.eq_iff_iff, decide_eq_true_eq, decide_eq_true_eq, List.mem_append, List.mem_singleton]
      exact ⟨.inl, fun h => h.resolve_right e⟩
/-- the first q of the line show none but the line's own -/
def Dn (A B line : List Nat) (q : Nat) : Prop := ∀ i, i < q → gt A (gt line i) ∈ line ∧ gt B (gt line i) ∈ line
theorem Dn.mono {A B line : List Nat} {q : Nat} {l2 : List Nat} (d : Dn A B line q) (hq : q ≤ line.length) : Dn A B (line ++ l2) q := fun i hi => by
  have := d i hi
  rw [gt_app, if_pos (by omega)]
  exact ⟨List.mem_append_left _ this.1, List.mem_append_left _ this.2⟩
theorem recs_in {A : List Nat} {p : Pc} {r x : Nat} (ok : PcOk p) (a : PcAt A r p) (h : x ∈ p.2.1) : gt A x ∈ p.2.1 := by
  obtain ⟨h1, h2⟩ := idx_gt h
  have := a _ h1
  rw [h2] at this
  rw [this]
  have lt := nb_lt ok (r := r) h1
  unfold gt
  rw [List.getD_eq_getElem?_getD, List.getElem?_eq_getElem lt]
  exact List.getElem_mem lt
theorem gather {A B : List Nat} {p : Pc} {line : List Nat} (ok : PcOk p) (h1 : 1 < p.1) (a : PcAt A 0 p) (b : PcAt B 1 p) (nd : line.Nodup) (sub : ∀ x ∈ line, x ∈ p.2.1) {st : Nat} (hs : st ∈ line) (d : Dn A B line line.length) : line.Perm p.2.1 := by
  have gm : ∀ {l : List Nat} {k : Nat}, k < l.length → gt l k ∈ l := fun {l k} h => by
    unfold gt
    rw [List.getD_eq_getElem?_getD, List.getElem?_eq_getElem h]
    exact List.getElem_mem h
  have cl : ∀ x ∈ line, gt A x ∈ line ∧ gt B x ∈ line := fun x hx => by
    obtain ⟨i1, i2⟩ := idx_gt hx
    have := d _ i1
    rw [i2] at this
    exact this
  have up : ∀ k, k + 1 < p.2.1.length → gt p.2.1 k ∈ line → gt p.2.1 (k + 1) ∈ line := fun k hk m => by
    have c := cl _ m
    by_cases par : (p.2.2 + k) % 2 = 0
    · have := a k (by omega)
      rw [nb_cr h1, if_pos par, if_pos hk] at this
      rw [← this]
      exact c.1
    · have := b k (by omega)
      rw [nb_cr h1, if_pos (by omega), if_pos hk] at this
      rw [← this]
      exact c.2
  have dn : ∀ k, k + 1 < p.2.1.length → gt p.2.1 (k + 1) ∈ line → gt p.2.1 k ∈ line := fun k hk m => by
    have c := cl _ m
    by_cases par : (p.2.2 + (k + 1)) % 2 = 0
    · have := b (k + 1) hk
      rw [nb_cr h1, if_neg (by omega), if_pos (by omega), Nat.add_sub_cancel] at this
      rw [← this]
      exact c.2
    · have := a (k + 1) hk
      rw [nb_cr h1, if_neg (by omega), if_pos (by omega), Nat.add_sub_cancel] at this
      rw [← this]
      exact c.1
  obtain ⟨q1, q2⟩ := idx_gt (sub st hs)
  generalize p.2.1.idxOf st = q at q1 q2
  have m0 : gt p.2.1 q ∈ line := by rw [q2]; exact hs
  have lo : ∀ j, j ≤ q → gt p.2.1 (q - j) ∈ line := fun j => by
    induction j with
    | zero => exact fun _ => m0
    | succ j ih =>
      intro hj
      have := ih (by omega)
      rw [show q - j = (q - (j + 1)) + 1 by omega] at this
      exact dn _ (by omega) this
  have hi : ∀ j, q + j < p.2.1.length → gt p.2.1 (q + j) ∈ line := fun j => by
    induction j with
    | zero => exact fun _ => m0
    | succ j ih => exact fun hj => up _ hj (ih (by omega))
  refine (List.perm_ext_iff_of_nodup nd ok.nd).mpr fun x => ⟨sub x, fun hx => ?_⟩
  obtain ⟨i1, i2⟩ := idx_gt hx
  rw [← i2]
  generalize p.2.1.idxOf x = k at i1
  by_cases c : k ≤ q
  · have := lo (q - k) (by omega)
    rw [show q - (q - k) = k by omega] at this
    exact this
  · have := hi (k - q) (by omega)
    rw [show q + (k - q) = k by omega] at this
    exact this
/-- pieces told so far -/
structure Gs (ps : List Pc) (dn : List Pc) (S : Nat → Bool) : Prop where
  nd : dn.Nodup
  sub : ∀ p ∈ dn, p ∈ ps
  is : ∀ x, S x = true ↔ ∃ p ∈ dn, x ∈ p.2.1
theorem Gs.add {A B : List Nat} {n : Nat} {ps dn : List Pc} {S S1 : Nat → Bool} (bl : Bl A B 0 ps n) (g : Gs ps dn S) {p : Pc} (hp : p ∈ ps) {line : List Nat} (ga : Ga p S line S1) (pm : line.Perm p.2.1) : Gs ps (dn ++ [p]) S1 := by
  have np : p ∉ dn := fun m => by
    have := bl.ok p hp
    have x0 := mn_in this
    have h1 := ga.old _ x0
    rw [(g.is _).mpr ⟨p, m, x0⟩] at h1
    cases h1
  refine ⟨?_, fun q hq => ?_, fun x => ?_⟩
  · rw [List.nodup_append]
    exact ⟨g.nd, nodP p, fun a ha b hb e => np (by rw [List.mem_singleton.mp hb] at e; rw [← e]; exact ha)⟩
  · rcases List.mem_append.mp hq with m | m
    · exact g.sub q m
    · rw [List.mem_singleton.mp m]
      exact hp
  · rw [ga.is, Bool.or_eq_true, g.is, decide_eq_true_eq, pm.mem_iff]
    constructor
    · rintro (⟨q, h1, h2⟩ | h)
      · exact ⟨q, List.mem_append_left _ h1, h2⟩
      · exact ⟨p, List.mem_append_right _ (List.mem_singleton.mpr rfl), h⟩
    · rintro ⟨q, h1, h2⟩
      rcases List.mem_append.mp h1 with m | m
      · exact .inl ⟨q, m, h2⟩
      · rw [List.mem_singleton.mp m] at h2
        exact .inr h2
theorem nd_ps {ps : List Pc} (nd : (ps.flatMap (·.2.1)).Nodup) (ok : ∀ p ∈ ps, PcOk p) : ps.Nodup := by
  induction ps with
  | nil => exact List.nodup_nil
  | cons a qs ih =>
    rw [List.flatMap_cons, List.nodup_append] at nd
    have m := mn_in (ok a (List.mem_cons_self ..))
    exact List.nodup_cons.mpr ⟨fun h => nd.2.2 _ m _ (List.mem_flatMap.mpr ⟨a, h, m⟩) rfl, ih nd.2.1 fun p hp => ok p (List.mem_cons_of_mem _ hp)⟩
theorem Gs.all {A B : List Nat} {n : Nat} {ps dn : List Pc} {S : Nat → Bool} (bl : Bl A B 0 ps n) (g : Gs ps dn S) (h : ∀ x, x < n → S x = true) : dn.Perm ps := by
  refine (List.perm_ext_iff_of_nodup g.nd (nd_ps bl.nd bl.ok)).mpr fun p => ⟨g.sub p, fun hp => ?_⟩
  have m := mn_in (bl.ok p hp)
  obtain ⟨q, hq, hx⟩ := (g.is _).mp (h _ (bl.lt hp _ m))
  rw [bl.uq hp (g.sub q hq) m hx]
  exact hq
theorem Gs.new {A B : List Nat} {n : Nat} {ps dn : List Pc} {S : Nat → Bool} (bl : Bl A B 0 ps n) (g : Gs ps dn S) {x : Nat} (hx : x < n) (h : S x = false) : ∃ p ∈ ps, x ∈ p.2.1 ∧ Ga p S [x] (fun y => if y = x then true else S y) := by
  obtain ⟨p, hp, m⟩ := bl.own hx
  refine ⟨p, hp, m, nod1 x, fun y hy => by rw [List.mem_singleton.mp hy]; exact m, fun y hy => ?_, fun y => ?_⟩
  · cases q : S y with
    | false => rfl
    | true =>
      obtain ⟨r, hr, my⟩ := (g.is y).mp q
      have e := bl.uq hp (g.sub r hr) hy my
      rw [← e] at hr
      rw [(g.is x).mpr ⟨p, hr, m⟩] at h
      cases h
  · by_cases e : y = x
    · subst e
      rw [if_pos rfl, decide_eq_true (List.mem_singleton.mpr rfl), Bool.or_true]
    · rw [if_neg e, decide_eq_false (fun z => e (List.mem_singleton.mp z)), Bool.or_false]

theorem gatherA {A B : List Nat} {p : Pc} {line : List Nat} (ok : PcOk p) (a : PcAt A 0 p) (b : PcAt B 1 p) (nd : line.Nodup) (sub : ∀ x ∈ line, x ∈ p.2.1) {st : Nat} (hs : st ∈ line) (d : Dn A B line line.length) : line.Perm p.2.1 := by
  by_cases h1 : 1 < p.1
  · exact gather ok h1 a b nd sub hs d
  refine (List.perm_ext_iff_of_nodup nd ok.nd).mpr fun x => ⟨sub x, fun hx => ?_⟩
  obtain ⟨i1, i2⟩ := idx_gt (sub st hs)
  obtain ⟨j1, j2⟩ := idx_gt hx
  generalize p.2.1.idxOf st = i at i1 i2
  generalize p.2.1.idxOf x = j at j1 j2
  by_cases e : i = j
  · rw [← j2, ← e, i2]
    exact hs
  · have l0 := ok.l0
    have l1 := ok.l1
    have w1 : p.1 = 1 := by omega
    have ai := a i i1
    have nbi : nb 0 p.1 p.2.1.length p.2.2 i = j := by
      unfold nb
      rw [if_neg (by omega), if_pos w1]
      omega
    rw [nbi, i2, j2] at ai
    obtain ⟨q1, q2⟩ := idx_gt hs
    have := (d _ q1).1
    rw [q2, ai] at this
    exact this
theorem ends_nb {w n s : Nat} (hw : w < 4) (h0 : w = 0 → n = 1) (h1 : w = 1 → n = 2) (h2 : w = 2 → 2 ≤ n) (h3 : w = 3 → 4 ≤ n) (hs : s < 2) : (∀ k, k < n → nb 0 w n s k ≠ k ∧ nb 1 w n s k ≠ k) ↔ (w = 1 ∨ w = 3) := by
  have n0 : ∀ r k, nb r 0 n s k = k := fun r k => by simp [nb]
  have n1 : ∀ r k, nb r 1 n s k = 1 - k := fun r k => by simp [nb]
  have n2 : ∀ r k, nb r 2 n s k = if (s + k) % 2 = r then (if k + 1 < n then k + 1 else k) else (if 0 < k then k - 1 else k) := fun r k => by simp [nb]
  have n3 : ∀ r k, nb r 3 n s k = if (s + k) % 2 = r then (if k + 1 < n then k + 1 else 0) else (if 0 < k then k - 1 else n - 1) := fun r k => by simp [nb]
  rcases (by omega : w = 0 ∨ w = 1 ∨ w = 2 ∨ w = 3) with c | c | c | c
  · subst c
    simp only [n0]
    constructor
    · intro h
      have := h 0 (by have := h0 rfl; omega)
      exact absurd rfl this.1
    · intro h
      rcases h with h | h <;> cases h
  · subst c
    simp only [n1]
    constructor
    · intro _
      exact .inl trivial
    · intro _ k hk
      have := h1 rfl
      omega
  · subst c
    simp only [n2]
    have := h2 rfl
    constructor
    · intro h
      have := h 0 (by omega)
      exfalso
      rcases (by omega : s = 0 ∨ s = 1) with z | z
      · subst z
        simp at this
      · subst z
        simp at this
    · intro h
      rcases h with h | h <;> cases h
  · subst c
    simp only [n3]
    have := h3 rfl
    constructor
    · intro _
      exact .inr trivial
    · intro _ k hk
      constructor
      · by_cases c1 : (s + k) % 2 = 0
        · rw [if_pos c1]
          by_cases c2 : k + 1 < n
          · rw [if_pos c2]; omega
          · rw [if_neg c2]; omega
        · rw [if_neg c1]
          by_cases c2 : 0 < k
          · rw [if_pos c2]; omega
          · rw [if_neg c2]; omega
      · by_cases c1 : (s + k) % 2 = 1
        · rw [if_pos c1]
          by_cases c2 : k + 1 < n
          · rw [if_pos c2]; omega
          · rw [if_neg c2]; omega
        · rw [if_neg c1]
          by_cases c2 : 0 < k
          · rw [if_pos c2]; omega
          · rw [if_neg c2]; omega
def endB (A B : List Nat) (x : Nat) : Bool := decide (gt A x = x) || decide (gt B x = x)
theorem ends_iff {A B : List Nat} {p : Pc} {line : List Nat} (ok : PcOk p) (a : PcAt A 0 p) (b : PcAt B 1 p) (pm : line.Perm p.2.1) : (line.filter (endB A B)).length = 0 ↔ (p.1 = 1 ∨ p.1 = 3) := by
  rw [← ends_nb ok.w ok.l0 ok.l1 ok.l2 (fun z => (ok.l3 z).1) ok.s, List.length_eq_zero_iff, List.filter_eq_nil_iff]
  have eq : ∀ k, k < p.2.1.length → ((gt A (gt p.2.1 k) = gt p.2.1 k ↔ nb 0 p.1 p.2.1.length p.2.2 k = k) ∧ (gt B (gt p.2.1 k) = gt p.2.1 k ↔ nb 1 p.1 p.2.1.length p.2.2 k = k)) := fun k hk => by
    rw [a k hk, b k hk]
    exact ⟨⟨fun z => gt_inj ok.nd (nb_lt ok hk) hk z, fun z => by rw [z]⟩, ⟨fun z => gt_inj ok.nd (nb_lt ok hk) hk z, fun z => by rw [z]⟩⟩
  constructor
  · intro h k hk
    have := h (gt p.2.1 k) (pm.mem_iff.2 (gt_mem hk))
    unfold endB at this
    rw [Bool.or_eq_true, decide_eq_true_eq, decide_eq_true_eq, (eq k hk).1, (eq k hk).2] at this
    exact ⟨fun z => this (.inl z), fun z => this (.inr z)⟩
  · intro h x hx
    obtain ⟨i1, i2⟩ := idx_gt (pm.mem_iff.1 hx)
    generalize p.2.1.idxOf x = k at i1 i2
    unfold endB
    rw [Bool.or_eq_true, decide_eq_true_eq, decide_eq_true_eq, ← i2, (eq k i1).1, (eq k i1).2]
    have := h k i1
    omega
theorem recs_len {A B : List Nat} {ps : List Pc} {n : Nat} (bl : Bl A B 0 ps n) {p : Pc} (hp : p ∈ ps) : p.2.1.length ≤ n := nodup_len (bl.ok p hp).nd fun x hx => bl.lt hp x hx
theorem ps_len {A B : List Nat} {ps : List Pc} {n : Nat} (bl : Bl A B 0 ps n) : ps.length ≤ n := by
  have key : ∀ l : List Pc, (∀ p ∈ l, PcOk p) → l.length ≤ (l.flatMap (·.2.1)).length := by
    intro l
    induction l with
    | nil => exact fun _ => Nat.le_refl _
    | cons q l ih =>
      intro h
      rw [List.flatMap_cons, List.length_append, List.length_cons]
      have := ih fun p hp => h p (List.mem_cons_of_mem _ hp)
      have := (h q (List.mem_cons_self ..)).pos
      omega
  have h1 := key ps bl.ok
  rw [bl.perm.length_eq, List.length_range] at h1
  exact h1
theorem nd_lenL {α : Type} : ∀ {l m : List α}, l.Nodup → (∀ x ∈ l, x ∈ m) → l.length ≤ m.length
  | [], _, _, _ => Nat.zero_le _
  | x :: l, m, nd, sub => by
    obtain ⟨a, b, rfl⟩ := List.append_of_mem (sub x (List.mem_cons_self ..))
    have nd := List.nodup_cons.mp nd
    have := nd_lenL (m := a ++ b) nd.2 fun y hy => by
      rcases List.mem_append.mp (sub y (List.mem_cons_of_mem _ hy)) with h | h
      · exact List.mem_append_left _ h
      · rcases List.mem_cons.mp h with h | h
        · exact absurd (by rw [← h]; exact hy) nd.1
        · exact List.mem_append_right _ h
    simp only [List.length_append, List.length_cons] at this ⊢
    omega
end Pv

/-! two records that one row links are taken out: the other row links their partners -/
namespace Pv
open PySem L2 Evl Pm
def con (A : Nat → Nat) (x y j : Nat) : Nat := if j = x ∨ j = y then j else if A j = x then (if A y = y then j else A y) else if A j = y then (if A x = x then j else A x) else A j
theorem con_comm {A : Nat → Nat} {x y j : Nat} (ne : x ≠ y) : con A x y j = con A y x j := by
  unfold con
  grind
theorem con_map {F f g : Nat → Nat} {N k1 k2 m : Nat} (inj : ∀ i j, i < N → j < N → g i = g j → i = j) (h : ∀ i, i < N → F (g i) = g (f i)) (lt : ∀ i, i < N → f i < N) (h1 : k1 < N) (h2 : k2 < N) (hm : m < N) : con F (g k1) (g k2) (g m) = g (con f k1 k2 m) := by
  have e1 := h k1 h1
  have e2 := h k2 h2
  have em := h m hm
  have l1 := lt k1 h1
  have l2 := lt k2 h2
  have lm := lt m hm
  unfold con
  rw [em, e1, e2]
  have i1 : (g m = g k1) ↔ m = k1 := ⟨inj _ _ hm h1, fun z => by rw [z]⟩
  have i2 : (g m = g k2) ↔ m = k2 := ⟨inj _ _ hm h2, fun z => by rw [z]⟩
  have i3 : (g (f m) = g k1) ↔ f m = k1 := ⟨inj _ _ lm h1, fun z => by rw [z]⟩
  have i4 : (g (f m) = g k2) ↔ f m = k2 := ⟨inj _ _ lm h2, fun z => by rw [z]⟩
  have i5 : (g (f k1) = g k1) ↔ f k1 = k1 := ⟨inj _ _ l1 h1, fun z => by rw [z]⟩
  have i6 : (g (f k2) = g k2) ↔ f k2 = k2 := ⟨inj _ _ l2 h2, fun z => by rw [z]⟩
  simp only [i1, i2, i3, i4, i5, i6]
  split
  · rfl
  · split
    · split <;> rfl
    · split
      · split <;> rfl
      · rfl
def wcut (w N : Nat) : Nat := if N = 3 then 0 else if w = 3 ∧ N = 4 then 1 else w
theorem nbw2 {N s r k : Nat} : nb r 2 N s k = if (s + k) % 2 = r then (if k + 1 < N then k + 1 else k) else (if 0 < k then k - 1 else k) := by simp [nb]
theorem nbw3 {N s r k : Nat} : nb r 3 N s k = if (s + k) % 2 = r then (if k + 1 < N then k + 1 else 0) else (if 0 < k then k - 1 else N - 1) := by simp [nb]
theorem nb_cut2 {N s k j r : Nat} (h2 : 4 ≤ N) (hs : s < 2) (hk : k + 1 < N) (par : (s + k) % 2 = 1) (hj : j < N - 2) (hr : r < 2) :
    con (nb r 2 N s) k (k + 1) (if j < k then j else j + 2) = (fun j => if j < k then j else j + 2) (nb r 2 (N - 2) s j) := by
  simp only [con, nbw2]
  rcases (by omega : r = 0 ∨ r = 1) with rfl | rfl
  · by_cases c : j < k
    · simp only [if_pos c]
      grind (splits := 40)
    · simp only [if_neg c]
      grind (splits := 40)
  · by_cases c : j < k
    · simp only [if_pos c]
      grind (splits := 40)
    · simp only [if_neg c]
      grind (splits := 40)
theorem nb_cut3 {N s k j r : Nat} (h2 : 6 ≤ N) (ev : N % 2 = 0) (hs : s < 2) (hk : k + 1 < N) (par : (s + k) % 2 = 1) (hj : j < N - 2) (hr : r < 2) :
    con (nb r 3 N s) k (k + 1) (if j < k then j else j + 2) = (fun j => if j < k then j else j + 2) (nb r 3 (N - 2) s j) := by
  simp only [con, nbw3]
  rcases (by omega : r = 0 ∨ r = 1) with rfl | rfl
  · by_cases c : j < k
    · simp only [if_pos c]
      grind (splits := 40)
    · simp only [if_neg c]
      grind (splits := 40)
  · by_cases c : j < k
    · simp only [if_pos c]
      grind (splits := 40)
    · simp only [if_neg c]
      grind (splits := 40)
theorem nb_wrap {N j r : Nat} (h2 : 6 ≤ N) (ev : N % 2 = 0) (hj : j < N - 2) (hr : r < 2) :
    con (nb r 3 N 0) (N - 1) 0 (j + 1) = (nb r 3 (N - 2) 1 j) + 1 := by
  simp only [con, nbw3]
  rcases (by omega : r = 0 ∨ r = 1) with rfl | rfl
  · grind (splits := 40)
  · grind (splits := 40)
theorem nb_small : ((List.range 2).all fun r => (List.range 2).all fun s => (List.range 3).all fun k => (List.range 2).all fun j => decide ((s + k) % 2 = 0) || (decide (con (nb r 3 4 s) k (k + 1) (if j < k then j else j + 2) = (fun j => if j < k then j else j + 2) (nb r 1 2 s j)) && (decide (1 < k) || (decide (0 < j) || decide (con (nb r 2 3 s) k (k + 1) (if j < k then j else j + 2) = (fun j => if j < k then j else j + 2) (nb r 0 1 s j)))))) = true := by decide +kernel
theorem nb_wrap4 : ((List.range 2).all fun r => (List.range 2).all fun j => decide (con (nb r 3 4 0) 3 0 (j + 1) = (nb r 1 2 1 j) + 1)) = true := by decide +kernel
structure Cut2 (p : Pc) (k1 k2 : Nat) (L' : List Nat) (w' s' : Nat) : Prop where
  lt1 : k1 < p.2.1.length
  lt2 : k2 < p.2.1.length
  ne : k1 ≠ k2
  pm : (L' ++ [gt p.2.1 k1, gt p.2.1 k2]).Perm p.2.1
  ok : L' ≠ [] → PcOk (w', L', s')
  at_ : ∀ r, r < 2 → ∀ j, j < L'.length → ∃ m, m < p.2.1.length ∧ gt L' j = gt p.2.1 m ∧ gt p.2.1 (con (nb r p.1 p.2.1.length p.2.2) k1 k2 m) = gt L' (nb r w' L'.length s' j)
  dist : distI p.1 p.2.1.length = (if L' = [] then 0 else distI w' L'.length) + (if nb 0 p.1 p.2.1.length p.2.2 k1 = k2 then 0 else 1)
theorem gt_hd {L : List Nat} {k : Nat} (h : k < L.length) : L.drop k = gt L k :: L.drop (k + 1) := by
  rw [List.drop_eq_getElem_cons h]
  unfold gt
  rw [List.getD_eq_getElem?_getD, List.getElem?_eq_getElem h]
  rfl
theorem cut_mid {p : Pc} (ok : PcOk p) (w2 : 1 < p.1) {k : Nat} (hk : k + 1 < p.2.1.length) (par : (p.2.2 + k) % 2 = 1) : ∃ L' w' s', Cut2 p k (k + 1) L' w' s' := by
  obtain ⟨w, L, s⟩ := p
  have hw : w < 4 := ok.w
  have hs : s < 2 := ok.s
  have h2 : w = 2 → 2 ≤ L.length := ok.l2
  have h3 : w = 3 → 4 ≤ L.length ∧ L.length % 2 = 0 := ok.l3
  have nd : L.Nodup := ok.nd
  have w2 : 1 < w := w2
  have hk : k + 1 < L.length := hk
  have par : (s + k) % 2 = 1 := par
  have tl : (L.take k).length = k := by rw [List.length_take]; omega
  have ll : (L.take k ++ L.drop (k + 2)).length = L.length - 2 := by rw [List.length_append, tl, List.length_drop]; omega
  have pm : (L.take k ++ L.drop (k + 2) ++ [gt L k, gt L (k + 1)]).Perm L := by
    have e : L = L.take k ++ (gt L k :: gt L (k + 1) :: L.drop (k + 2)) := by
      rw [← gt_hd (show k + 1 < L.length from hk), ← gt_hd (show k < L.length by omega), List.take_append_drop]
    have : (L.take k ++ (L.drop (k + 2) ++ [gt L k, gt L (k + 1)])).Perm (L.take k ++ (gt L k :: gt L (k + 1) :: L.drop (k + 2))) := List.Perm.append_left _ (List.perm_append_comm)
    rw [List.append_assoc]
    rw [← e] at this
    exact this
  have gL : ∀ j, j < L.length - 2 → gt (L.take k ++ L.drop (k + 2)) j = gt L (if j < k then j else j + 2) := fun j hj => by
    rw [gt_app, tl]
    by_cases c : j < k
    · rw [if_pos c, if_pos c, gt_take c]
    · rw [if_neg c, if_neg c, gt_drop, show k + 2 + (j - k) = j + 2 by omega]
  have nd' : (L.take k ++ L.drop (k + 2)).Nodup := (List.nodup_append.1 (pm.nodup_iff.2 nd)).1
  have em : L.take k ++ L.drop (k + 2) = [] ↔ L.length = 2 := by rw [← List.length_eq_zero_iff, ll]; omega
  have n0 : ¬ nb 0 w L.length s k = k + 1 := by
    rcases (by omega : w = 2 ∨ w = 3) with rfl | rfl
    · rw [nbw2]; grind
    · rw [nbw3]; grind
  have fin : ∀ w', (L.length ≠ 2 → PcOk (w', L.take k ++ L.drop (k + 2), s)) → (∀ r j, r < 2 → j < L.length - 2 → con (nb r w L.length s) k (k + 1) (if j < k then j else j + 2) = (fun j => if j < k then j else j + 2) (nb r w' (L.length - 2) s j)) → distI w L.length = (if L.length = 2 then 0 else distI w' (L.length - 2)) + 1 → ∃ L' w' s', Cut2 (w, L, s) k (k + 1) L' w' s' := fun w' ok' hc hd => by
    refine ⟨L.take k ++ L.drop (k + 2), w', s, by show k < L.length; omega, hk, by omega, pm, fun z => ok' fun q => z (em.2 q), fun r hr j hj => ?_, ?_⟩
    · rw [ll] at hj ⊢
      refine ⟨if j < k then j else j + 2, by show _ < L.length; split <;> omega, gL j hj, ?_⟩
      have lt := nb_lt (ok' (by omega)) (r := r) (show j < (L.take k ++ L.drop (k + 2)).length by rw [ll]; exact hj)
      have lt : nb r w' (L.take k ++ L.drop (k + 2)).length s j < (L.take k ++ L.drop (k + 2)).length := lt
      rw [ll] at lt
      rw [gL _ lt]
      show gt L (con (nb r w L.length s) k (k + 1) (if j < k then j else j + 2)) = _
      rw [hc r j hr hj]
    · show distI w L.length = _ + (if nb 0 w L.length s k = k + 1 then 0 else 1)
      rw [if_neg n0, ll, hd]
      by_cases c : L.length = 2
      · rw [if_pos c, if_pos (em.2 c)]
      · rw [if_neg c, if_neg (fun z => c (em.1 z))]
  rcases (by omega : w = 2 ∨ w = 3) with rfl | rfl
  · by_cases c3 : L.length = 3
    · refine fin 0 (fun _ => ⟨by show 0 < 4; omega, hs, nd', (fun _ => by show List.length _ = 1; rw [ll]; omega), (fun z => by cases z), (fun z => by cases z), (fun z => by cases z)⟩) (fun r j hr hj => ?_) (by rw [c3]; rfl)
      have := nb_small
      rw [List.all_eq_true] at this
      have := List.all_eq_true.1 (this r (List.mem_range.2 hr)) s (List.mem_range.2 hs)
      have := List.all_eq_true.1 (List.all_eq_true.1 this k (List.mem_range.2 (by omega))) j (List.mem_range.2 (by omega))
      rw [decide_eq_false (by omega), Bool.false_or, Bool.and_eq_true, decide_eq_false (show ¬ 1 < k by omega), Bool.false_or, decide_eq_false (show ¬ 0 < j by omega), Bool.false_or] at this
      rw [c3]
      exact of_decide_eq_true this.2
    · by_cases c2 : L.length = 2
      · exact fin 2 (fun z => absurd c2 z) (fun r j hr hj => by omega) (by rw [c2]; rfl)
      · have := h2 rfl
        refine fin 2 (fun _ => ⟨by show 2 < 4; omega, hs, nd', (fun z => by cases z), (fun z => by cases z), (fun _ => by show 2 ≤ List.length _; rw [ll]; omega), (fun z => by cases z)⟩) (fun r j hr hj => nb_cut2 (by omega) hs hk par hj hr) ?_
        rw [if_neg c2]
        unfold distI
        rw [if_pos rfl, if_pos rfl]
        omega
  · obtain ⟨h4, ev⟩ := h3 rfl
    by_cases c4 : L.length = 4
    · refine fin 1 (fun _ => ⟨by show 1 < 4; omega, hs, nd', (fun z => by cases z), (fun z => by show List.length _ = 2; rw [ll]; omega), (fun z => by cases z), (fun z => by cases z)⟩) (fun r j hr hj => ?_) (by rw [c4]; rfl)
      have := nb_small
      rw [List.all_eq_true] at this
      have := List.all_eq_true.1 (this r (List.mem_range.2 hr)) s (List.mem_range.2 hs)
      have := List.all_eq_true.1 (List.all_eq_true.1 this k (List.mem_range.2 (by omega))) j (List.mem_range.2 (by omega))
      rw [decide_eq_false (by omega), Bool.false_or, Bool.and_eq_true] at this
      rw [c4]
      exact of_decide_eq_true this.1
    · refine fin 3 (fun _ => ⟨by show 3 < 4; omega, hs, nd', (fun z => by cases z), (fun z => by cases z), (fun z => by cases z), fun _ => by show 4 ≤ List.length _ ∧ List.length _ % 2 = 0; rw [ll]; omega⟩) (fun r j hr hj => nb_cut3 (by omega) ev hs hk par hj hr) ?_
      rw [if_neg (by omega)]
      unfold distI
      rw [if_neg (by decide), if_pos rfl, if_neg (by decide), if_pos rfl]
      omega
theorem cut_wrap {p : Pc} (ok : PcOk p) (w3 : p.1 = 3) (s0 : p.2.2 = 0) : ∃ L' w' s', Cut2 p (p.2.1.length - 1) 0 L' w' s' := by
  obtain ⟨w, L, s⟩ := p
  have w3 : w = 3 := w3
  have s0 : s = 0 := s0
  subst w3
  subst s0
  have nd : L.Nodup := ok.nd
  have h3 : 4 ≤ L.length ∧ L.length % 2 = 0 := ok.l3 rfl
  obtain ⟨h4, ev⟩ := h3
  have ll : ((L.drop 1).take (L.length - 2)).length = L.length - 2 := by rw [List.length_take, List.length_drop]; omega
  have e : L = gt L 0 :: ((L.drop 1).take (L.length - 2) ++ [gt L (L.length - 1)]) := by
    have e1 := gt_hd (L := L) (k := 0) (by omega)
    rw [List.drop_zero] at e1
    have e2 : L.drop 1 = (L.drop 1).take (L.length - 2) ++ (L.drop 1).drop (L.length - 2) := (List.take_append_drop ..).symm
    have e3 : (L.drop 1).drop (L.length - 2) = [gt L (L.length - 1)] := by
      rw [List.drop_drop, show 1 + (L.length - 2) = L.length - 1 by omega, gt_hd (by omega), List.drop_eq_nil_of_le (by omega)]
    rw [e3] at e2
    rw [← e2]
    exact e1
  have pm : ((L.drop 1).take (L.length - 2) ++ [gt L (L.length - 1), gt L 0]).Perm L := by
    have : ((L.drop 1).take (L.length - 2) ++ [gt L (L.length - 1)] ++ [gt L 0]).Perm (gt L 0 :: ((L.drop 1).take (L.length - 2) ++ [gt L (L.length - 1)])) := List.perm_append_comm
    rw [← e, List.append_assoc] at this
    exact this
  have gL : ∀ j, j < L.length - 2 → gt ((L.drop 1).take (L.length - 2)) j = gt L (j + 1) := fun j hj => by
    rw [gt_take hj, gt_drop, Nat.add_comm]
  have nd' : ((L.drop 1).take (L.length - 2)).Nodup := (List.nodup_append.1 (pm.nodup_iff.2 nd)).1
  have em : ¬ (L.drop 1).take (L.length - 2) = [] := by rw [← List.length_eq_zero_iff, ll]; omega
  have n0 : ¬ nb 0 3 L.length 0 (L.length - 1) = 0 := by
    rw [nbw3]; grind
  have fin : ∀ w', PcOk (w', (L.drop 1).take (L.length - 2), 1) → (∀ r j, r < 2 → j < L.length - 2 → con (nb r 3 L.length 0) (L.length - 1) 0 (j + 1) = (nb r w' (L.length - 2) 1 j) + 1) → distI 3 L.length = distI w' (L.length - 2) + 1 → ∃ L' w' s', Cut2 (3, L, 0) (L.length - 1) 0 L' w' s' := fun w' ok' hc hd => by
    refine ⟨(L.drop 1).take (L.length - 2), w', 1, by show L.length - 1 < L.length; omega, by show 0 < L.length; omega, by omega, pm, fun _ => ok', fun r hr j hj => ?_, ?_⟩
    · have lt := nb_lt ok' (r := r) hj
      have lt : nb r w' ((L.drop 1).take (L.length - 2)).length 1 j < ((L.drop 1).take (L.length - 2)).length := lt
      rw [ll] at hj lt ⊢
      refine ⟨j + 1, by show j + 1 < L.length; omega, gL j hj, ?_⟩
      rw [gL _ lt]
      show gt L (con (nb r 3 L.length 0) (L.length - 1) 0 (j + 1)) = _
      rw [hc r j hr hj]
    · show distI 3 L.length = _ + (if nb 0 3 L.length 0 (L.length - 1) = 0 then 0 else 1)
      rw [if_neg n0, ll, hd, if_neg em]
  by_cases c4 : L.length = 4
  · refine fin 1 ⟨by show 1 < 4; omega, by show 1 < 2; omega, nd', (fun z => by cases z), (fun z => by show List.length _ = 2; rw [ll]; omega), (fun z => by cases z), (fun z => by cases z)⟩ (fun r j hr hj => ?_) (by rw [c4]; rfl)
    have := nb_wrap4
    have := List.all_eq_true.1 (List.all_eq_true.1 this r (List.mem_range.2 hr)) j (List.mem_range.2 (by omega))
    rw [c4]
    exact of_decide_eq_true this
  · refine fin 3 ⟨by show 3 < 4; omega, by show 1 < 2; omega, nd', (fun z => by cases z), (fun z => by cases z), (fun z => by cases z), (fun _ => by show 4 ≤ List.length _ ∧ List.length _ % 2 = 0; rw [ll]; omega)⟩ (fun r j hr hj => nb_wrap (by omega) ev hj hr) ?_
    unfold distI
    rw [if_neg (by decide), if_pos rfl, if_neg (by decide), if_pos rfl]
    omega
theorem cut_ex {p : Pc} (ok : PcOk p) {k1 k2 : Nat} (h1 : k1 < p.2.1.length) (e : nb 1 p.1 p.2.1.length p.2.2 k1 = k2) (ne : k1 ≠ k2) : ∃ L' w' s', Cut2 p k1 k2 L' w' s' ∨ Cut2 p k2 k1 L' w' s' := by
  have hw := ok.w
  have hs := ok.s
  have l0 := ok.l0
  have l1 := ok.l1
  have l3 := ok.l3
  rcases (by omega : p.1 = 0 ∨ p.1 = 1 ∨ 1 < p.1) with w0 | w1 | w2
  · exfalso
    unfold nb at e
    rw [if_pos w0] at e
    exact ne e
  · have l2 := l1 w1
    have e' : 1 - k1 = k2 := by
      unfold nb at e
      rw [if_neg (by omega), if_pos w1] at e
      exact e
    refine ⟨[], 0, 0, .inl ⟨h1, by omega, ne, ?_, fun z => absurd rfl z, (fun r hr j hj => by cases hj), ?_⟩⟩
    · obtain ⟨w, L, s⟩ := p
      have l2 : L.length = 2 := l2
      match L, l2 with
      | [a, b], _ =>
        rcases (by omega : k1 = 0 ∧ k2 = 1 ∨ k1 = 1 ∧ k2 = 0) with ⟨rfl, rfl⟩ | ⟨rfl, rfl⟩
        · exact .refl _
        · exact .swap ..
    · rw [w1, if_pos rfl]
      have : nb 0 1 p.2.1.length p.2.2 k1 = k2 := by
        unfold nb
        rw [if_neg (by decide), if_pos rfl]
        exact e'
      rw [if_pos this]
      rfl
  · rw [nb_cr w2] at e
    by_cases par : (p.2.2 + k1) % 2 = 1
    · rw [if_pos par] at e
      by_cases c : k1 + 1 < p.2.1.length
      · rw [if_pos c] at e
        obtain ⟨L', w', s', h⟩ := cut_mid ok w2 c par
        rw [e] at h
        exact ⟨L', w', s', .inl h⟩
      · rw [if_neg c] at e
        by_cases w3 : p.1 = 3
        · rw [if_pos w3] at e
          obtain ⟨q1, q2⟩ := l3 w3
          have : k1 = p.2.1.length - 1 := by omega
          obtain ⟨L', w', s', h⟩ := cut_wrap ok w3 (by omega)
          rw [← this, e] at h
          exact ⟨L', w', s', .inl h⟩
        · rw [if_neg w3] at e
          exact absurd e ne
    · rw [if_neg par] at e
      by_cases c : 0 < k1
      · rw [if_pos c] at e
        obtain ⟨L', w', s', h⟩ := cut_mid ok w2 (k := k2) (by omega) (by omega)
        rw [show k2 + 1 = k1 by omega] at h
        exact ⟨L', w', s', .inr h⟩
      · rw [if_neg c] at e
        by_cases w3 : p.1 = 3
        · rw [if_pos w3] at e
          have : k1 = 0 := by omega
          obtain ⟨L', w', s', h⟩ := cut_wrap ok w3 (by omega)
          rw [e, ← this] at h
          exact ⟨L', w', s', .inr h⟩
        · rw [if_neg w3] at e
          exact absurd e ne
def conL (A : List Nat) (x y : Nat) : List Nat := (List.range A.length).map (con (gt A) x y)
theorem conL_len {A : List Nat} {x y : Nat} : (conL A x y).length = A.length := by unfold conL; rw [List.length_map, List.length_range]
theorem conL_gt {A : List Nat} {x y j : Nat} (h : j < A.length) : gt (conL A x y) j = con (gt A) x y j := by
  unfold conL gt
  rw [List.getD_eq_getElem?_getD, List.getElem?_map, List.getElem?_range h]
  rfl
theorem distS_app {a b : List Pc} : distS (a ++ b) = distS a + distS b := by
  unfold distS
  rw [List.map_append, List.sum_append]
theorem con_far' {A Z : List Nat} {ps : List Pc} {n : Nat} {p : Pc} {k1 k2 : Nat} {L' : List Nat} {w' s' : Nat} (bl : Bl A Z 0 ps n) (hp : p ∈ ps) (c : Cut2 p k1 k2 L' w' s') :
    ∃ ps', Bl (conL A (gt p.2.1 k1) (gt p.2.1 k2)) (conL Z (gt p.2.1 k1) (gt p.2.1 k2)) 0 ps' n ∧ distS ps = distS ps' + (if nb 0 p.1 p.2.1.length p.2.2 k1 = k2 then 0 else 1) := by
  have ok := bl.ok p hp
  have ap := bl.at_ p hp
  have ltp := bl.lt hp
  obtain ⟨l1, l2, rfl⟩ := List.append_of_mem hp
  have nd := bl.nd
  have la := bl.la
  have lb := bl.lb
  rw [List.flatMap_append, List.flatMap_cons] at nd
  have disj : ∀ q, q ∈ l1 ∨ q ∈ l2 → ∀ z ∈ q.2.1, z ∉ p.2.1 := fun q hq z hz hzp => by
    obtain ⟨n1, n2, n3⟩ := List.nodup_append.1 nd
    obtain ⟨m1, m2, m3⟩ := List.nodup_append.1 n2
    rcases hq with h | h
    · exact n3 z (List.mem_flatMap.2 ⟨q, h, hz⟩) z (List.mem_append_left _ hzp) rfl
    · exact m3 z hzp z (List.mem_flatMap.2 ⟨q, h, hz⟩) rfl
  have mx : gt p.2.1 k1 ∈ p.2.1 := gt_mem c.lt1
  have my : gt p.2.1 k2 ∈ p.2.1 := gt_mem c.lt2
  have inP : ∀ (R : List Nat) (r : Nat), R.length = n → PcAt R r p → ∀ j, j < L'.length → gt (conL R (gt p.2.1 k1) (gt p.2.1 k2)) (gt L' j) = gt L' (nb r w' L'.length s' j) ∨ ¬ r < 2 := fun R r hR h j hj => by
    by_cases hr : r < 2
    · left
      obtain ⟨m, hm, e1, e2⟩ := c.at_ r hr j hj
      rw [e1, conL_gt (by rw [hR]; exact ltp _ (gt_mem hm)), ← e2]
      exact con_map (fun i j hi hj e => gt_inj ok.nd hi hj e) (fun i hi => h i hi) (fun i hi => nb_lt ok hi) c.lt1 c.lt2 hm
    · exact .inr hr
  have outP : ∀ (R : List Nat) (r : Nat) (q : Pc), R.length = n → (q ∈ l1 ∨ q ∈ l2) → PcAt R r q → PcOk q → PcAt (conL R (gt p.2.1 k1) (gt p.2.1 k2)) r q := fun R r q hR hq h okq j hj => by
    have d := disj q hq
    have qm : q ∈ l1 ++ p :: l2 := by
      rcases hq with z | z
      · exact List.mem_append_left _ z
      · exact List.mem_append_right _ (List.mem_cons_of_mem _ z)
    have zin := gt_mem hj
    have win := gt_mem (nb_lt okq (r := r) hj)
    rw [conL_gt (by rw [hR]; exact bl.lt qm _ zin), ← h j hj]
    rw [← h j hj] at win
    have a1 : gt q.2.1 j ≠ gt p.2.1 k1 := fun z => d _ zin (by rw [z]; exact mx)
    have a2 : gt q.2.1 j ≠ gt p.2.1 k2 := fun z => d _ zin (by rw [z]; exact my)
    have b1 : gt R (gt q.2.1 j) ≠ gt p.2.1 k1 := fun z => d _ win (by rw [z]; exact mx)
    have b2 : gt R (gt q.2.1 j) ≠ gt p.2.1 k2 := fun z => d _ win (by rw [z]; exact my)
    unfold con
    rw [if_neg (fun z => z.elim a1 a2), if_neg b1, if_neg b2]
  have one : ∀ (R : List Nat) (r x : Nat), R.length = n → (x = gt p.2.1 k1 ∨ x = gt p.2.1 k2) → PcAt (conL R (gt p.2.1 k1) (gt p.2.1 k2)) r (0, [x], 0) := fun R r x hR hx j hj => by
    have j0 : j = 0 := by
      have : j < 1 := hj
      omega
    subst j0
    show gt (conL R _ _) x = x
    have xn : x < n := by
      rcases hx with h | h <;> rw [h]
      · exact ltp _ mx
      · exact ltp _ my
    rw [conL_gt (by rw [hR]; exact xn)]
    unfold con
    rw [if_pos hx]
  have okx : ∀ x, PcOk (0, [x], 0) := fun x => ⟨by show 0 < 4; omega, by show 0 < 2; omega, nod1 x, fun _ => rfl, (fun z => by cases z), (fun z => by cases z), (fun z => by cases z)⟩
  refine ⟨l1 ++ l2 ++ (if L' = [] then [] else [(w', L', s')]) ++ [(0, [gt p.2.1 k1], 0), (0, [gt p.2.1 k2], 0)], ⟨by rw [conL_len, la], by rw [conL_len, lb], by omega, ?_, ?_, ?_⟩, ?_⟩
  · have e : ((if L' = [] then [] else [(w', L', s')] : List Pc).flatMap (·.2.1)) = L' := by
      by_cases h : L' = []
      · rw [if_pos h, h]; rfl
      · rw [if_neg h, List.flatMap_cons, List.flatMap_nil, List.append_nil]
    have pm := bl.perm
    rw [List.flatMap_append, List.flatMap_cons] at pm
    rw [List.flatMap_append, List.flatMap_append, List.flatMap_append, e]
    refine List.Perm.trans ?_ pm
    have e2 : ([(0, [gt p.2.1 k1], 0), (0, [gt p.2.1 k2], 0)] : List Pc).flatMap (·.2.1) = [gt p.2.1 k1, gt p.2.1 k2] := rfl
    rw [e2, List.append_assoc, List.append_assoc]
    refine List.Perm.append_left _ ?_
    exact (List.perm_append_comm).trans (List.Perm.append_right _ c.pm)
  · intro q hq
    rcases List.mem_append.1 hq with hq | hq
    · rcases List.mem_append.1 hq with hq | hq
      · rcases List.mem_append.1 hq with hq | hq
        · exact bl.ok q (List.mem_append_left _ hq)
        · exact bl.ok q (List.mem_append_right _ (List.mem_cons_of_mem _ hq))
      · by_cases h : L' = []
        · rw [if_pos h] at hq; cases hq
        · rw [if_neg h] at hq
          rw [List.mem_singleton.1 hq]
          exact c.ok h
    · rcases List.mem_cons.1 hq with h | h
      · rw [h]; exact okx _
      · rw [List.mem_singleton.1 h]; exact okx _
  · intro q hq
    rcases List.mem_append.1 hq with hq | hq
    · rcases List.mem_append.1 hq with hq | hq
      · have hq := List.mem_append.1 hq
        have qm : q ∈ l1 ++ p :: l2 := by
          rcases hq with z | z
          · exact List.mem_append_left _ z
          · exact List.mem_append_right _ (List.mem_cons_of_mem _ z)
        exact ⟨outP A 0 q la hq (bl.at_ q qm).1 (bl.ok q qm), outP Z 1 q lb hq (bl.at_ q qm).2 (bl.ok q qm)⟩
      · by_cases h : L' = []
        · rw [if_pos h] at hq; cases hq
        · rw [if_neg h] at hq
          rw [List.mem_singleton.1 hq]
          exact ⟨fun j hj => (inP A 0 la ap.1 j hj).resolve_right (by omega), fun j hj => (inP Z 1 lb ap.2 j hj).resolve_right (by omega)⟩
    · rcases List.mem_cons.1 hq with h | h
      · rw [h]; exact ⟨one A 0 _ la (.inl rfl), one Z 1 _ lb (.inl rfl)⟩
      · rw [List.mem_singleton.1 h]; exact ⟨one A 0 _ la (.inr rfl), one Z 1 _ lb (.inr rfl)⟩
  · have e : distS (if L' = [] then [] else [(w', L', s')] : List Pc) = if L' = [] then 0 else distI w' L'.length := by
      by_cases h : L' = []
      · rw [if_pos h, if_pos h]; rfl
      · rw [if_neg h, if_neg h]
        show distI w' L'.length + 0 = _
        rfl
    have e2 : distS ([(0, [gt p.2.1 k1], 0), (0, [gt p.2.1 k2], 0)] : List Pc) = 0 := rfl
    have e3 : distS (p :: l2) = distI p.1 p.2.1.length + distS l2 := rfl
    have := c.dist
    rw [distS_app, distS_app, distS_app, distS_app, e, e2, e3]
    omega
theorem con_far {A Z : List Nat} {ps : List Pc} {n x y : Nat} (bl : Bl A Z 0 ps n) (hx : x < n) (hz : gt Z x = y) (ne : x ≠ y) :
    ∃ ps', Bl (conL A x y) (conL Z x y) 0 ps' n ∧ distS ps = distS ps' + (if gt A x = y then 0 else 1) := by
  obtain ⟨p, hp, m⟩ := bl.own hx
  have ok := bl.ok p hp
  obtain ⟨i1, i2⟩ := idx_gt m
  generalize p.2.1.idxOf x = k1 at i1 i2
  have az := (bl.at_ p hp).2 k1 i1
  have aa := (bl.at_ p hp).1
  rw [i2, hz] at az
  have l2 := nb_lt ok (r := 1) i1
  obtain ⟨L', w', s', h⟩ := cut_ex ok i1 rfl (fun z => ne (by
    have z : k1 = nb 1 p.1 p.2.1.length p.2.2 k1 := z
    rw [← z] at az
    rw [az, i2]))
  have az : y = gt p.2.1 (nb 1 p.1 p.2.1.length p.2.2 k1) := az
  generalize nb 1 p.1 p.2.1.length p.2.2 k1 = k2 at *
  have iff1 : (gt A x = y) ↔ nb 0 p.1 p.2.1.length p.2.2 k1 = k2 := by
    have := aa k1 i1
    rw [i2] at this
    rw [this, az]
    exact ⟨fun z => gt_inj ok.nd (nb_lt ok i1) l2 z, fun z => by rw [z]⟩
  have sa := bl.sta.1
  rcases h with h | h
  · obtain ⟨ps', b', d'⟩ := con_far' bl hp h
    rw [i2, ← az] at b'
    refine ⟨ps', b', ?_⟩
    rw [d']
    simp only [iff1]
  · obtain ⟨ps', b', d'⟩ := con_far' bl hp h
    rw [i2, ← az] at b'
    have sw : ∀ R : List Nat, conL R y x = conL R x y := fun R => List.map_congr_left fun j _ => con_comm ne.symm
    rw [sw, sw] at b'
    refine ⟨ps', b', ?_⟩
    rw [d']
    have iff2 : (gt A y = x) ↔ nb 0 p.1 p.2.1.length p.2.2 k2 = k1 := by
      have := aa k2 l2
      rw [← az] at this
      rw [this, ← i2]
      exact ⟨fun z => gt_inj ok.nd (nb_lt ok l2) i1 z, fun z => by rw [z]⟩
    have iff3 : gt A x = y ↔ gt A y = x := by
      have lx : x < A.length := by rw [bl.la]; exact hx
      have ly : y < A.length := by rw [bl.la]; exact bl.lt hp _ (by rw [az]; exact gt_mem l2)
      exact ⟨fun z => by rw [← z]; exact sa.inv x lx, fun z => by rw [← z]; exact sa.inv y ly⟩
    simp only [← iff2, iff3]
end Pv

/-! one change, seen after two records were taken out -/
namespace Pv
open PySem L2 Evl Pm
def Tie (f g : Nat → Nat) (a b : Nat) : Prop := a ≠ b ∧ f a = a ∧ f b = b ∧ ∀ j, g j = if j = a then b else if j = b then a else f j
def Mov (f g : Nat → Nat) (a b c : Nat) : Prop := a ≠ b ∧ f a = b ∧ f c = c ∧ ∀ j, g j = if j = a then c else if j = c then a else if j = b then b else f j
def Crs (f g : Nat → Nat) (a b c d : Nat) : Prop := a ≠ b ∧ c ≠ d ∧ a ≠ c ∧ a ≠ d ∧ f a = b ∧ f c = d ∧ ∀ j, g j = if j = a then c else if j = c then a else if j = b then d else if j = d then b else f j
def Stp (f g : Nat → Nat) : Prop := (∀ j, g j = f j) ∨ (∃ a b, Tie f g a b) ∨ (∃ a b, Tie g f a b) ∨ (∃ a b c, Mov f g a b c) ∨ ∃ a b c d, Crs f g a b c d
def Inv (f : Nat → Nat) : Prop := ∀ j, f (f j) = j
theorem Tie.comm {f g : Nat → Nat} {a b : Nat} (h : Tie f g a b) : Tie f g b a := by
  obtain ⟨h1, h2, h3, h4⟩ := h
  refine ⟨h1.symm, h3, h2, fun j => ?_⟩
  rw [h4]
  grind
theorem Mov.back {f g : Nat → Nat} (i : Inv f) {a b c : Nat} (h : Mov f g a b c) : Mov g f a c b := by
  obtain ⟨h1, h2, h3, h4⟩ := h
  have := i a
  have := i b
  have ac : a ≠ c := by grind
  refine ⟨ac, by rw [h4]; grind, by rw [h4]; grind, fun j => ?_⟩
  rw [h4]
  have := i j
  grind
theorem Crs.back {f g : Nat → Nat} (i : Inv f) {a b c d : Nat} (h : Crs f g a b c d) : Crs g f a c b d := by
  obtain ⟨h1, h2, h3, h4, h5, h6, h7⟩ := h
  have := i a
  have := i b
  have := i c
  have := i d
  refine ⟨h3, by grind, h1, h4, by rw [h7]; grind, by rw [h7]; grind, fun j => ?_⟩
  rw [h7]
  have := i j
  grind
theorem Stp.back {f g : Nat → Nat} (i : Inv f) (h : Stp f g) : Stp g f := by
  rcases h with h | h | h | ⟨a, b, c, h⟩ | ⟨a, b, c, d, h⟩
  · exact .inl fun j => (h j).symm
  · exact .inr (.inr (.inl h))
  · exact .inr (.inl h)
  · exact .inr (.inr (.inr (.inl ⟨a, c, b, h.back i⟩)))
  · exact .inr (.inr (.inr (.inr ⟨a, c, b, d, h.back i⟩)))
theorem Crs.half {f g : Nat → Nat} (i : Inv f) {a b c d : Nat} (h : Crs f g a b c d) : Crs f g b a d c := by
  obtain ⟨h1, h2, h3, h4, h5, h6, h7⟩ := h
  have := i a
  have := i b
  have := i c
  have := i d
  refine ⟨h1.symm, h2.symm, by grind, by grind, by grind, by grind, fun j => ?_⟩
  rw [h7]
  grind
theorem Crs.turn {f g : Nat → Nat} (i : Inv f) {a b c d : Nat} (h : Crs f g a b c d) : Crs f g c d a b := by
  obtain ⟨h1, h2, h3, h4, h5, h6, h7⟩ := h
  have := i a
  have := i b
  have := i c
  have := i d
  refine ⟨h2, h1, h3.symm, by grind, h6, h5, fun j => ?_⟩
  rw [h7]
  grind
def RR (f g : Nat → Nat) (x y : Nat) : Prop := ((f x = y ↔ g x = y) ∧ Stp (con f x y) (con g x y)) ∨ (¬ (f x = y ↔ g x = y) ∧ ∀ j, con f x y j = con g x y j)
theorem Inv.iff {f : Nat → Nat} (i : Inv f) {x y : Nat} : f x = y ↔ f y = x := ⟨fun h => by rw [← h]; exact i x, fun h => by rw [← h]; exact i y⟩
theorem RR.comm {f g : Nat → Nat} (i : Inv f) (k : Inv g) {x y : Nat} (ne : x ≠ y) (h : RR f g x y) : RR f g y x := by
  unfold RR at h ⊢
  have e1 : con f y x = con f x y := funext fun j => con_comm ne.symm
  have e2 : con g y x = con g x y := funext fun j => con_comm ne.symm
  rw [e1, e2, i.iff (x := y), k.iff (x := y)]
  exact h
theorem con_inv {f : Nat → Nat} (i : Inv f) {x y : Nat} (ne : x ≠ y) : Inv (con f x y) := by
  intro j
  have := i j
  have := i x
  have := i y
  unfold con
  grind
theorem RR.back {f g : Nat → Nat} (i : Inv f) {x y : Nat} (ne : x ≠ y) (h : RR f g x y) : RR g f x y := by
  rcases h with ⟨h1, h2⟩ | ⟨h1, h2⟩
  · exact .inl ⟨h1.symm, h2.back (con_inv i ne)⟩
  · exact .inr ⟨fun z => h1 z.symm, fun j => (h2 j).symm⟩
theorem tie_off {f g : Nat → Nat} {a b x y : Nat} (i : Inv f) (h : Tie f g a b) (ne : x ≠ y) (xa : x ≠ a) (xb : x ≠ b) (ya : y ≠ a) (yb : y ≠ b) : RR f g x y := by
  obtain ⟨h1, h2, h3, h4⟩ := h
  have ix := i x
  have iy := i y
  refine .inl ⟨by rw [h4]; grind, .inr (.inl ⟨a, b, h1, by unfold con; grind, by unfold con; grind, fun j => ?_⟩)⟩
  have ij := i j
  unfold con
  simp only [h4]
  grind
theorem tie_one {f g : Nat → Nat} {b x y : Nat} (i : Inv f) (h : Tie f g x b) (ne : x ≠ y) (yb : y ≠ b) : RR f g x y := by
  obtain ⟨h1, h2, h3, h4⟩ := h
  have iy := i y
  refine .inl ⟨by rw [h4]; grind, ?_⟩
  by_cases c : f y = y
  · refine .inl fun j => ?_
    have ij := i j
    unfold con
    simp only [h4]
    grind
  · refine .inr (.inl ⟨f y, b, by grind, by unfold con; grind, by unfold con; grind, fun j => ?_⟩)
    have ij := i j
    unfold con
    simp only [h4]
    grind
theorem tie_two {f g : Nat → Nat} {x y : Nat} (i : Inv f) (h : Tie f g x y) : RR f g x y := by
  obtain ⟨h1, h2, h3, h4⟩ := h
  refine .inr ⟨by rw [h4]; grind, fun j => ?_⟩
  have ij := i j
  unfold con
  simp only [h4]
  grind
theorem tie_con {f g : Nat → Nat} {a b x y : Nat} (i : Inv f) (k : Inv g) (h : Tie f g a b) (ne : x ≠ y) : RR f g x y := by
  by_cases xa : x = a
  · subst xa
    by_cases yb : y = b
    · subst yb
      exact tie_two i h
    · exact tie_one i h ne yb
  by_cases xb : x = b
  · subst xb
    by_cases ya : y = a
    · subst ya
      exact tie_two i h.comm
    · exact tie_one i h.comm ne ya
  by_cases ya : y = a
  · subst ya
    exact (tie_one i h ne.symm xb).comm i k ne.symm
  by_cases yb : y = b
  · subst yb
    exact (tie_one i h.comm ne.symm xa).comm i k ne.symm
  exact tie_off i h ne xa xb ya yb
theorem mov_off {f g : Nat → Nat} {a b c x y : Nat} (i : Inv f) (h : Mov f g a b c) (ne : x ≠ y) (xa : x ≠ a) (xb : x ≠ b) (xc : x ≠ c) (ya : y ≠ a) (yb : y ≠ b) (yc : y ≠ c) : RR f g x y := by
  obtain ⟨h1, h2, h3, h4⟩ := h
  have ix := i x
  have iy := i y
  have ia := i a
  refine .inl ⟨by rw [h4]; grind, .inr (.inr (.inr (.inl ⟨a, b, c, h1, by unfold con; grind, by unfold con; grind, fun j => ?_⟩)))⟩
  have ij := i j
  unfold con
  simp only [h4]
  grind
/-- the record that stays paired -/
theorem mov_a {f g : Nat → Nat} {b c x y : Nat} (i : Inv f) (h : Mov f g x b c) (ne : x ≠ y) (yb : y ≠ b) (yc : y ≠ c) : RR f g x y := by
  obtain ⟨h1, h2, h3, h4⟩ := h
  have ix := i x
  have iy := i y
  refine .inl ⟨by rw [h4]; grind, ?_⟩
  by_cases q : f y = y
  · refine .inl fun j => ?_
    have ij := i j
    unfold con
    simp only [h4]
    grind
  · refine .inr (.inr (.inr (.inl ⟨f y, b, c, by grind, by unfold con; grind, by unfold con; grind, fun j => ?_⟩)))
    have ij := i j
    unfold con
    simp only [h4]
    grind
/-- the record that is left -/
theorem mov_b {f g : Nat → Nat} {a c x y : Nat} (i : Inv f) (h : Mov f g a x c) (ne : x ≠ y) (ya : y ≠ a) (yc : y ≠ c) : RR f g x y := by
  obtain ⟨h1, h2, h3, h4⟩ := h
  have ix := i x
  have iy := i y
  have ia := i a
  refine .inl ⟨by rw [h4]; grind, ?_⟩
  by_cases q : f y = y
  · refine .inr (.inl ⟨a, c, by grind, by unfold con; grind, by unfold con; grind, fun j => ?_⟩)
    have ij := i j
    unfold con
    simp only [h4]
    grind
  · refine .inr (.inr (.inr (.inl ⟨a, f y, c, by grind, by unfold con; grind, by unfold con; grind, fun j => ?_⟩)))
    have ij := i j
    unfold con
    simp only [h4]
    grind
theorem mov_ab {f g : Nat → Nat} {c x y : Nat} (i : Inv f) (h : Mov f g x y c) : RR f g x y := by
  obtain ⟨h1, h2, h3, h4⟩ := h
  have ix := i x
  refine .inr ⟨by rw [h4]; grind, fun j => ?_⟩
  have ij := i j
  unfold con
  simp only [h4]
  grind
theorem mov_bc {f g : Nat → Nat} {a x y : Nat} (i : Inv f) (h : Mov f g a x y) : RR f g x y := by
  obtain ⟨h1, h2, h3, h4⟩ := h
  have ix := i x
  have ia := i a
  refine .inl ⟨by rw [h4]; grind, .inl fun j => ?_⟩
  have ij := i j
  unfold con
  simp only [h4]
  grind
theorem mov_con {f g : Nat → Nat} {a b c x y : Nat} (i : Inv f) (k : Inv g) (h : Mov f g a b c) (ne : x ≠ y) : RR f g x y := by
  have hb := h.back i
  -- one of the two is a record of the change, the other is none or another
  have one : ∀ x y, x ≠ y → x = a → RR f g x y := fun x y ne e => by
    subst e
    by_cases yb : y = b
    · subst yb; exact mov_ab i h
    by_cases yc : y = c
    · subst yc; exact (mov_ab k hb).back k ne
    exact mov_a i h ne yb yc
  have two : ∀ x y, x ≠ y → x = b → RR f g x y := fun x y ne e => by
    subst e
    by_cases ya : y = a
    · subst ya; exact (mov_ab i h).comm i k ne.symm
    by_cases yc : y = c
    · subst yc; exact mov_bc i h
    exact mov_b i h ne ya yc
  have three : ∀ x y, x ≠ y → x = c → RR f g x y := fun x y ne e => by
    subst e
    by_cases ya : y = a
    · subst ya; exact (one _ _ ne.symm rfl).comm i k ne.symm
    by_cases yb : y = b
    · subst yb; exact (mov_bc i h).comm i k ne.symm
    exact (mov_b k hb ne ya yb).back k ne
  by_cases xa : x = a
  · exact one x y ne xa
  by_cases xb : x = b
  · exact two x y ne xb
  by_cases xc : x = c
  · exact three x y ne xc
  by_cases ya : y = a
  · exact (one y x ne.symm ya).comm i k ne.symm
  by_cases yb : y = b
  · exact (two y x ne.symm yb).comm i k ne.symm
  by_cases yc : y = c
  · exact (three y x ne.symm yc).comm i k ne.symm
  exact mov_off i h ne xa xb xc ya yb yc
theorem crs_off {f g : Nat → Nat} {a b c d x y : Nat} (i : Inv f) (h : Crs f g a b c d) (ne : x ≠ y) (xa : x ≠ a) (xb : x ≠ b) (xc : x ≠ c) (xd : x ≠ d) (ya : y ≠ a) (yb : y ≠ b) (yc : y ≠ c) (yd : y ≠ d) : RR f g x y := by
  obtain ⟨h1, h2, h3, h4, h5, h6, h7⟩ := h
  have ix := i x
  have iy := i y
  have ia := i a
  have ic := i c
  refine .inl ⟨by rw [h7]; grind, .inr (.inr (.inr (.inr ⟨a, b, c, d, h1, h2, h3, h4, by unfold con; grind, by unfold con; grind, fun j => ?_⟩)))⟩
  have ij := i j
  unfold con
  simp only [h7]
  grind
theorem crs_a {f g : Nat → Nat} {b c d x y : Nat} (i : Inv f) (h : Crs f g x b c d) (ne : x ≠ y) (yb : y ≠ b) (yc : y ≠ c) (yd : y ≠ d) : RR f g x y := by
  obtain ⟨h1, h2, h3, h4, h5, h6, h7⟩ := h
  have ix := i x
  have iy := i y
  have ic := i c
  refine .inl ⟨by rw [h7]; grind, ?_⟩
  by_cases q : f y = y
  · refine .inr (.inr (.inr (.inl ⟨d, c, b, h2.symm, by unfold con; grind, by unfold con; grind, fun j => ?_⟩)))
    have ij := i j
    unfold con
    simp only [h7]
    grind
  · refine .inr (.inr (.inr (.inr ⟨f y, b, c, d, by grind, h2, by grind, by grind, by unfold con; grind, by unfold con; grind, fun j => ?_⟩)))
    have ij := i j
    unfold con
    simp only [h7]
    grind
theorem crs_ab {f g : Nat → Nat} {c d x y : Nat} (i : Inv f) (h : Crs f g x y c d) : RR f g x y := by
  obtain ⟨h1, h2, h3, h4, h5, h6, h7⟩ := h
  have ix := i x
  have ic := i c
  refine .inr ⟨by rw [h7]; grind, fun j => ?_⟩
  have ij := i j
  unfold con
  simp only [h7]
  grind
theorem crs_ad {f g : Nat → Nat} {b c x y : Nat} (i : Inv f) (h : Crs f g x b c y) : RR f g x y := by
  obtain ⟨h1, h2, h3, h4, h5, h6, h7⟩ := h
  have ix := i x
  have ic := i c
  refine .inl ⟨by rw [h7]; grind, .inl fun j => ?_⟩
  have ij := i j
  unfold con
  simp only [h7]
  grind
theorem crs_con {f g : Nat → Nat} {a b c d x y : Nat} (i : Inv f) (k : Inv g) (h : Crs f g a b c d) (ne : x ≠ y) : RR f g x y := by
  have one : ∀ x y a b c d, Crs f g a b c d → x ≠ y → x = a → RR f g x y := fun x y a b c d h ne e => by
    subst e
    by_cases yb : y = b
    · subst yb; exact crs_ab i h
    by_cases yc : y = c
    · subst yc; exact (crs_ab k (h.back i)).back k ne
    by_cases yd : y = d
    · subst yd; exact crs_ad i h
    exact crs_a i h ne yb yc yd
  by_cases xa : x = a
  · exact one x y a b c d h ne xa
  by_cases xb : x = b
  · exact one x y b a d c (h.half i) ne xb
  by_cases xc : x = c
  · exact one x y c d a b (h.turn i) ne xc
  by_cases xd : x = d
  · exact one x y d c b a ((h.turn i).half i) ne xd
  by_cases ya : y = a
  · exact (one y x a b c d h ne.symm ya).comm i k ne.symm
  by_cases yb : y = b
  · exact (one y x b a d c (h.half i) ne.symm yb).comm i k ne.symm
  by_cases yc : y = c
  · exact (one y x c d a b (h.turn i) ne.symm yc).comm i k ne.symm
  by_cases yd : y = d
  · exact (one y x d c b a ((h.turn i).half i) ne.symm yd).comm i k ne.symm
  exact crs_off i h ne xa xb xc xd ya yb yc yd
theorem stp_con {f g : Nat → Nat} (i : Inv f) (k : Inv g) {x y : Nat} (ne : x ≠ y) (h : Stp f g) : RR f g x y := by
  rcases h with h | ⟨a, b, h⟩ | ⟨a, b, h⟩ | ⟨a, b, c, h⟩ | ⟨a, b, c, d, h⟩
  · have e : g = f := funext h
    rw [e]
    exact .inl ⟨Iff.rfl, .inl fun _ => rfl⟩
  · exact tie_con i k h ne
  · exact (tie_con k i h ne).back k ne
  · exact mov_con i k h ne
  · exact crs_con i k h ne
end Pv

/-! one change moves the distance by one at most -/
namespace Pv
open PySem L2 Evl Pm
def tot (A : List Nat) (j : Nat) : Nat := if j < A.length then gt A j else j
theorem tot_inv {A : List Nat} (s : Sta A) : Inv (tot A) := by
  intro j
  unfold tot
  by_cases c : j < A.length
  · rw [if_pos c, if_pos (s.lt j c), s.inv j c]
  · rw [if_neg c, if_neg c]
theorem tot_con {A : List Nat} {x y : Nat} (hx : x < A.length) (hy : y < A.length) : tot (conL A x y) = con (tot A) x y := by
  funext j
  have ex : tot A x = gt A x := if_pos hx
  have ey : tot A y = gt A y := if_pos hy
  by_cases c : j < A.length
  · have ej : tot A j = gt A j := if_pos c
    have e : tot (conL A x y) j = gt (conL A x y) j := if_pos (by rw [conL_len]; exact c)
    rw [e, conL_gt c]
    unfold con
    rw [ex, ey, ej]
  · have ej : tot A j = j := if_neg c
    have e : tot (conL A x y) j = j := if_neg (by rw [conL_len]; exact c)
    rw [e]
    unfold con
    rw [ej, if_neg (by omega), if_neg (by omega), if_neg (by omega)]
theorem gt_get {L : List Nat} {j : Nat} (h : j < L.length) : gt L j = L[j] := by
  unfold gt
  rw [List.getD_eq_getElem?_getD, List.getElem?_eq_getElem h]
  rfl
def fixN (A : List Nat) (n : Nat) : Nat := ((List.range n).filter fun x => decide (gt A x = x)).length
theorem base_far {A Z : List Nat} {ps : List Pc} {n : Nat} (bl : Bl A Z 0 ps n) (hz : ∀ x, x < n → gt Z x = x) : 2 * distS ps + fixN A n = n := by
  have one : ∀ p ∈ ps, 2 * distP p + (p.2.1.filter fun x => decide (gt A x = x)).length = p.2.1.length := fun p hp => by
    have ok := bl.ok p hp
    obtain ⟨a, b⟩ := bl.at_ p hp
    have lt := bl.lt hp
    have self : ∀ k, k < p.2.1.length → nb 1 p.1 p.2.1.length p.2.2 k = k := fun k hk => by
      have := b k hk
      rw [hz _ (lt _ (gt_mem hk))] at this
      exact (gt_inj ok.nd hk (nb_lt ok hk) this).symm
    have hw := ok.w
    have hs := ok.s
    have l0 := ok.l0
    have l1 := ok.l1
    have l2 := ok.l2
    have l3 := ok.l3
    obtain ⟨w, L, s⟩ := p
    have hw : w < 4 := hw
    have hs : s < 2 := hs
    have self : ∀ k, k < L.length → nb 1 w L.length s k = k := self
    have a : ∀ k, k < L.length → gt A (gt L k) = gt L (nb 0 w L.length s k) := a
    rcases (by omega : w = 0 ∨ w = 1 ∨ w = 2 ∨ w = 3) with rfl | rfl | rfl | rfl
    · have l0 : L.length = 1 := l0 rfl
      match L, l0 with
      | [x], _ =>
        have := a 0 (by show 0 < 1; decide)
        have e : gt A x = x := this
        show 2 * 0 + ([x].filter _).length = 1
        rw [List.filter_cons, if_pos (decide_eq_true e)]
        rfl
    · have l1 : L.length = 2 := l1 rfl
      have := self 0 (by omega)
      unfold nb at this
      simp at this
    · have l2 : 2 ≤ L.length := l2 rfl
      have s0 := self 0 (by omega)
      have s1 := self 1 (by omega)
      rw [nbw2] at s0 s1
      have : L.length = 2 ∧ s = 0 := by grind
      obtain ⟨e2, rfl⟩ := this
      match L, e2 with
      | [x, y], _ =>
        have a0 : gt A x = y := a 0 (by show 0 < 2; decide)
        have a1 : gt A y = x := a 1 (by show 1 < 2; decide)
        have nd : x ≠ y := by
          have := ok.nd
          have : [x, y].Nodup := this
          simp at this
          exact this
        show 2 * distP ((2, [x, y], 0) : Pc) + ([x, y].filter fun x => decide (gt A x = x)).length = 2
        rw [show distP ((2, [x, y], 0) : Pc) = 1 from by show distI 2 2 = 1; decide]
        rw [List.filter_cons, if_neg (by rw [a0]; simpa using nd.symm), List.filter_cons, if_neg (by rw [a1]; simpa using nd)]
        rfl
    · have l3 : 4 ≤ L.length ∧ L.length % 2 = 0 := l3 rfl
      exfalso
      have s0 := self 0 (by omega)
      have s1 := self 1 (by omega)
      rw [nbw3] at s0 s1
      grind
  have sum : ∀ qs : List Pc, (∀ p ∈ qs, 2 * distP p + (p.2.1.filter fun x => decide (gt A x = x)).length = p.2.1.length) → 2 * distS qs + ((qs.flatMap (·.2.1)).filter fun x => decide (gt A x = x)).length = (qs.flatMap (·.2.1)).length := by
    intro qs
    induction qs with
    | nil => exact fun _ => rfl
    | cons q qs ih =>
      intro h
      have h1 := h q (List.mem_cons_self ..)
      have h2 := ih fun p hp => h p (List.mem_cons_of_mem _ hp)
      rw [List.flatMap_cons, List.filter_append, List.length_append, List.length_append]
      show 2 * (distP q + distS qs) + _ = _
      omega
  have := sum ps one
  rw [(bl.perm.filter _).length_eq, bl.perm.length_eq, List.length_range] at this
  exact this
theorem filt3 {α : Type} {P Q R S : α → Bool} : ∀ {l : List α}, (∀ x ∈ l, P x = true → Q x = true ∨ R x = true ∨ S x = true) → (l.filter P).length ≤ (l.filter Q).length + (l.filter R).length + (l.filter S).length
  | [], _ => by simp
  | x :: l, h => by
    have ih := filt3 (l := l) fun y hy => h y (List.mem_cons_of_mem _ hy)
    have hx := h x (List.mem_cons_self ..)
    simp only [List.filter_cons]
    grind
theorem filt_eq {a : Nat} : ∀ {l : List Nat}, l.Nodup → (l.filter fun x => decide (x = a)).length ≤ 1
  | [], _ => by simp
  | x :: l, nd => by
    have nd := List.nodup_cons.1 nd
    have ih := filt_eq (a := a) nd.2
    rw [List.filter_cons]
    by_cases c : x = a
    · rw [if_pos (decide_eq_true c), List.filter_eq_nil_iff.2]
      · exact Nat.le_refl _
      · intro y hy
        subst c
        simpa using fun z : y = x => nd.1 (by rw [← z]; exact hy)
    · rw [if_neg (by simpa using c)]
      exact ih
theorem filt_lt {α : Type} {P Q : α → Bool} {a : α} : ∀ {l : List α}, (∀ x ∈ l, P x = true → Q x = true) → a ∈ l → P a = false → Q a = true → (l.filter P).length < (l.filter Q).length
  | [], _, h, _, _ => by cases h
  | x :: l, h, m, pa, qa => by
    have le : (l.filter P).length ≤ (l.filter Q).length := by
      have := filt3 (l := l) (P := P) (Q := Q) (R := fun _ => false) (S := fun _ => false) fun y hy z => .inl (h y (List.mem_cons_of_mem _ hy) z)
      have z : l.filter (fun _ => false) = [] := by simp
      rw [z] at this
      exact this
    have hx := h x (List.mem_cons_self ..)
    rw [List.filter_cons, List.filter_cons]
    rcases List.mem_cons.1 m with rfl | m
    · rw [pa, qa]
      simp
      omega
    · have ih := filt_lt (l := l) (fun y hy => h y (List.mem_cons_of_mem _ hy)) m pa qa
      grind
theorem fix_le {A A' : List Nat} {n : Nat} (la : A.length = n) (la' : A'.length = n) (i : Inv (tot A)) (h : Stp (tot A) (tot A')) : fixN A' n ≤ fixN A n + 2 := by
  obtain ⟨a, b, q⟩ : ∃ a b, ∀ x, x < n → gt A' x = x → gt A x = x ∨ x = a ∨ x = b := by
    have e : ∀ x, x < n → tot A x = gt A x ∧ tot A' x = gt A' x := fun x hx => by
      unfold tot
      rw [la, la', if_pos hx, if_pos hx]
      exact ⟨rfl, rfl⟩
    rcases h with h | ⟨a, b, h⟩ | ⟨a, b, h⟩ | ⟨a, b, c, h⟩ | ⟨a, b, c, d, h⟩
    · exact ⟨0, 0, fun x hx z => .inl (by rw [← (e x hx).1, ← h x, (e x hx).2]; exact z)⟩
    · refine ⟨0, 0, fun x hx z => .inl ?_⟩
      obtain ⟨h1, h2, h3, h4⟩ := h
      have := h4 x
      rw [(e x hx).2, (e x hx).1] at this
      grind
    · refine ⟨a, b, fun x hx z => ?_⟩
      obtain ⟨h1, h2, h3, h4⟩ := h
      have := h4 x
      rw [(e x hx).2, (e x hx).1] at this
      grind
    · refine ⟨b, b, fun x hx z => ?_⟩
      obtain ⟨h1, h2, h3, h4⟩ := h
      have := h4 x
      rw [(e x hx).2, (e x hx).1] at this
      grind
    · refine ⟨0, 0, fun x hx z => .inl ?_⟩
      obtain ⟨h1, h2, h3, h4, h5, h6, h7⟩ := h
      have := h7 x
      rw [(e x hx).2, (e x hx).1] at this
      have := i b
      have := i a
      have := i c
      grind
  have := filt3 (l := List.range n) (P := fun x => decide (gt A' x = x)) (Q := fun x => decide (gt A x = x)) (R := fun x => decide (x = a)) (S := fun x => decide (x = b)) fun x hx z => by
    have := q x (List.mem_range.1 hx) (of_decide_eq_true z)
    simpa using this
  have h1 := filt_eq (a := a) (List.nodup_range (n := n))
  have h2 := filt_eq (a := b) (List.nodup_range (n := n))
  unfold fixN
  omega
theorem fix_con {Z : List Nat} {n x y : Nat} (lz : Z.length = n) (s : Sta Z) (hx : x < n) (e : gt Z x = y) (ne : x ≠ y) : fixN Z n < fixN (conL Z x y) n := by
  unfold fixN
  refine filt_lt (a := x) (fun j hj z => ?_) (List.mem_range.2 hx) (by rw [e]; simpa using ne.symm) ?_
  · have hj := List.mem_range.1 hj
    have z : gt Z j = j := of_decide_eq_true z
    refine decide_eq_true ?_
    rw [conL_gt (by rw [lz]; exact hj)]
    unfold con
    grind
  · refine decide_eq_true ?_
    rw [conL_gt (by rw [lz]; exact hx)]
    unfold con
    grind
theorem fix_most {Z : List Nat} {n : Nat} : fixN Z n ≤ n := by
  unfold fixN
  have := List.length_filter_le (fun x => decide (gt Z x = x)) (List.range n)
  rw [List.length_range] at this
  exact this
/-- whatever the pieces, the distance is one -/
theorem far_one : ∀ (m : Nat) {A Z : List Nat} {ps qs : List Pc} {n : Nat}, n - fixN Z n ≤ m → Bl A Z 0 ps n → Bl A Z 0 qs n → distS ps = distS qs
  | m, A, Z, ps, qs, n, hm, b1, b2 => by
    by_cases c : ∀ x, x < n → gt Z x = x
    · have h1 := base_far b1 c
      have h2 := base_far b2 c
      omega
    · obtain ⟨x, hx, nx⟩ : ∃ x, x < n ∧ gt Z x ≠ x := by
        refine Classical.byContradiction fun h => c fun x hx => Classical.byContradiction fun z => h ⟨x, hx, z⟩
      obtain ⟨p1, c1, d1⟩ := con_far b1 hx rfl nx.symm
      obtain ⟨p2, c2, d2⟩ := con_far b2 hx rfl nx.symm
      have lt := fix_con b1.lb b1.sta.2 hx rfl nx.symm
      have mo := fix_most (Z := conL Z x (gt Z x)) (n := n)
      match m, hm with
      | 0, hm => omega
      | m + 1, hm =>
        have := far_one m (by omega) c1 c2
        omega
theorem far_step : ∀ (m : Nat) {A A' Z : List Nat} {ps qs : List Pc} {n : Nat}, n - fixN Z n ≤ m → Bl A Z 0 ps n → Bl A' Z 0 qs n → Stp (tot A) (tot A') → distS ps ≤ distS qs + 1
  | m, A, A', Z, ps, qs, n, hm, b1, b2, st => by
    have i1 := tot_inv b1.sta.1
    have i2 := tot_inv b2.sta.1
    by_cases c : ∀ x, x < n → gt Z x = x
    · have h1 := base_far b1 c
      have h2 := base_far b2 c
      have := fix_le b1.la b2.la i1 st
      omega
    · obtain ⟨x, hx, nx⟩ : ∃ x, x < n ∧ gt Z x ≠ x := by
        refine Classical.byContradiction fun h => c fun x hx => Classical.byContradiction fun z => h ⟨x, hx, z⟩
      obtain ⟨p1, c1, d1⟩ := con_far b1 hx rfl nx.symm
      obtain ⟨p2, c2, d2⟩ := con_far b2 hx rfl nx.symm
      have lt := fix_con b1.lb b1.sta.2 hx rfl nx.symm
      have mo := fix_most (Z := conL Z x (gt Z x)) (n := n)
      have hy : gt Z x < n := by
        have := b1.sta.2.lt x (by rw [b1.lb]; exact hx)
        rw [b1.lb] at this
        exact this
      have e1 : tot A x = gt A x := by unfold tot; rw [b1.la, if_pos hx]
      have e2 : tot A' x = gt A' x := by unfold tot; rw [b2.la, if_pos hx]
      have tc1 := tot_con (A := A) (x := x) (y := gt Z x) (by rw [b1.la]; exact hx) (by rw [b1.la]; exact hy)
      have tc2 := tot_con (A := A') (x := x) (y := gt Z x) (by rw [b2.la]; exact hx) (by rw [b2.la]; exact hy)
      rcases stp_con i1 i2 nx.symm st with ⟨h1, h2⟩ | ⟨h1, h2⟩
      · rw [e1, e2] at h1
        rw [← tc1, ← tc2] at h2
        simp only [h1] at d1
        match m, hm with
        | 0, hm => omega
        | m + 1, hm =>
          have := far_step m (by omega) c1 c2 h2
          omega
      · have eq : conL A x (gt Z x) = conL A' x (gt Z x) := by
          refine List.ext_getElem (by rw [conL_len, conL_len, b1.la, b2.la]) fun j q1 q2 => ?_
          have := h2 j
          rw [← tc1, ← tc2] at this
          rw [show tot (conL A x (gt Z x)) j = _ from if_pos q1, show tot (conL A' x (gt Z x)) j = _ from if_pos q2, gt_get q1, gt_get q2] at this
          exact this
        rw [eq] at c1
        have := far_one _ (Nat.le_refl _) c1 c2
        have w1 : (if gt A x = gt Z x then 0 else 1) ≤ 1 := by split <;> omega
        have w2 : (if gt A' x = gt Z x then 0 else 1) ≤ 1 := by split <;> omega
        omega
end Pv

/-! changes one after another -/
namespace Pv
open PySem L2 Evl Pm
theorem tmF_perm {cs ds : List Chg} (h : cs.Perm ds) (j : Nat) : tmF cs j = tmF ds j := (h.filter _).length_eq
theorem tmF_app {cs ds : List Chg} {j : Nat} : tmF (cs ++ ds) j = tmF cs j + tmF ds j := by
  unfold tmF
  rw [List.filter_append, List.length_append]
theorem tmF_ps {cs : List Chg} {j : Nat} {c : Chg} (hc : c ∈ cs) (h : (j : Int) ∈ c.2) : 0 < tmF cs j := by
  unfold tmF
  exact List.length_pos_of_mem (List.mem_filter.2 ⟨hc, decide_eq_true h⟩)
theorem sh_same {xs ws ln : List Int} (h : ∀ x ∈ ln, ws.getD x.toNat 0 = xs.getD x.toNat 0) : shF ws ln = shF xs ln := List.map_congr_left h
theorem rnd_split {xs zs ws : List Int} {cs ds es : List Chg} (r : RndF xs cs (.rch zs)) (pm : cs.Perm (ds ++ es)) (d : RndF xs ds (.rch ws)) : RndF ws es (.rch zs) := by
  obtain ⟨al, nb, r⟩ := r
  obtain ⟨al2, nb2, d⟩ := d
  have tm : ∀ j, tmF cs j = tmF ds j + tmF es j := fun j => by rw [tmF_perm pm, tmF_app]
  have mem : ∀ e ∈ es, e ∈ cs := fun e he => pm.mem_iff.2 (List.mem_append_right _ he)
  have memd : ∀ e ∈ ds, e ∈ cs := fun e he => pm.mem_iff.2 (List.mem_append_left _ he)
  have far : ∀ e ∈ es, ∀ x ∈ e.2, ws.getD x.toNat 0 = xs.getD x.toNat 0 := fun e he x hx => by
    obtain ⟨vd, _⟩ := okR_vd al (mem e he)
    obtain ⟨q1, q2⟩ := vd.lo x hx
    have hj : x.toNat < xs.length := by omega
    have p1 := tmF_ps (j := x.toNat) he (by rw [Int.toNat_of_nonneg q1]; exact hx)
    have le := tm_le nb hj
    have := tm x.toNat
    exact d.out _ hj (by omega)
  have ot : ∀ e ∈ es, oth ws e.2 = oth xs e.2 ∧ sdI ws e.2 = sdI xs e.2 := fun e he => by
    have := sh_same (far e he)
    unfold oth sdI
    rw [this]
    exact ⟨rfl, rfl⟩
  refine ⟨List.all_eq_true.2 fun e he => ?_, firstOf_none fun j hj => ?_, ⟨by rw [r.len, d.len], fun j hj h0 => ?_, fun j c p h1 hc hp e => ?_⟩⟩
  · have := List.all_eq_true.1 al e (mem e he)
    unfold okR at this ⊢
    rw [d.len, (ot e he).2]
    exact this
  · rw [d.len] at hj
    have := tm_le nb hj
    have := tm j
    exact decide_eq_false (by omega)
  · rw [d.len] at hj
    have t := tm j
    by_cases c0 : tmF ds j = 0
    · rw [r.out j hj (by omega), d.out j hj c0]
    · have le := tm_le nb hj
      obtain ⟨c, hc, m⟩ := tmF_mem (cs := ds) (j := j) (by omega)
      obtain ⟨vd, _⟩ := okR_vd al2 hc
      obtain ⟨y, hy⟩ := mem_oth (xs := xs) vd.fm m
      rw [d.inn j c _ (by omega) hc hy rfl, r.inn j c _ (by omega) (memd c hc) hy rfl]
  · rw [(ot c hc).1] at hp
    have t := tm j
    have hx : p.1 ∈ c.2 := (List.of_mem_zip hp).1
    obtain ⟨vd, _⟩ := okR_vd al (mem c hc)
    have hj : j < xs.length := by
      have := vd.lo _ hx
      omega
    have le := tm_le nb hj
    exact r.inn j c p (by omega) (mem c hc) hp e
theorem rnd_ex {xs : List Int} {cs : List Chg} (al : cs.all (okR xs) = true) (nb : firstOf (fun j => decide (1 < tmF cs j)) xs.length = none) : ∃ zs, RndF xs cs (.rch zs) := by
  let val : Nat → Int := fun j => match cs.find? fun c => decide ((j : Int) ∈ c.2) with
    | none => xs.getD j 0
    | some c => ((c.2.zip (oth xs c.2)).find? fun p => decide (p.1 = (j : Int))).elim 0 (·.2)
  have get : ∀ j, j < xs.length → ((List.range xs.length).map val).getD j 0 = val j := fun j hj => by
    rw [List.getD_eq_getElem?_getD, List.getElem?_map, List.getElem?_range hj]
    rfl
  refine ⟨(List.range xs.length).map val, al, nb, by rw [List.length_map, List.length_range], fun j hj h0 => ?_, fun j c p h1 hc hp e => ?_⟩
  · rw [get j hj]
    have : cs.find? (fun c => decide ((j : Int) ∈ c.2)) = none := by
      rw [List.find?_eq_none]
      intro c hc z
      have := tmF_ps hc (of_decide_eq_true z)
      omega
    show (match cs.find? (fun c => decide ((j : Int) ∈ c.2)) with | none => _ | some c => _) = _
    rw [this]
  · have hx : p.1 ∈ c.2 := (List.of_mem_zip hp).1
    obtain ⟨vd, _⟩ := okR_vd al hc
    have hj : j < xs.length := by
      have := vd.lo _ hx
      omega
    rw [get j hj]
    have m : (j : Int) ∈ c.2 := by rw [← e]; exact hx
    have fc : cs.find? (fun c => decide ((j : Int) ∈ c.2)) = some c := by
      cases q : cs.find? (fun c => decide ((j : Int) ∈ c.2)) with
      | none => exact absurd (decide_eq_true m) (List.find?_eq_none.1 q c hc)
      | some c' =>
        have h1' : (cs.filter fun c => decide ((j : Int) ∈ c.2)).length = 1 := h1
        obtain ⟨a, ha⟩ := List.length_eq_one_iff.1 h1'
        have i1 : c ∈ cs.filter fun c => decide ((j : Int) ∈ c.2) := List.mem_filter.2 ⟨hc, decide_eq_true m⟩
        have i2 : c' ∈ cs.filter fun c => decide ((j : Int) ∈ c.2) := List.mem_filter.2 ⟨List.mem_of_find?_eq_some q, List.find?_some (p := fun c : Chg => decide ((j : Int) ∈ c.2)) q⟩
        rw [ha] at i1 i2
        rw [List.mem_singleton.1 i1, List.mem_singleton.1 i2]
    have fp : (c.2.zip (oth xs c.2)).find? (fun p => decide (p.1 = (j : Int))) = some p := by
      cases q : (c.2.zip (oth xs c.2)).find? (fun p => decide (p.1 = (j : Int))) with
      | none => exact absurd (decide_eq_true e) (List.find?_eq_none.1 q p hp)
      | some p' =>
        have e' : p'.1 = (j : Int) := of_decide_eq_true (List.find?_some (p := fun p : Int × Int => decide (p.1 = (j : Int))) q)
        have m' := List.mem_of_find?_eq_some q
        obtain ⟨a, ha, qa⟩ := List.getElem_of_mem hp
        obtain ⟨b, hb, qb⟩ := List.getElem_of_mem m'
        have ha2 := ha
        have hb2 := hb
        rw [List.length_zip] at ha2 hb2
        rw [List.getElem_zip] at qa qb
        have la : a < c.2.length := by omega
        have lb : b < c.2.length := by omega
        have ea : c.2[a] = (j : Int) := by rw [← e, ← qa]
        have eb : c.2[b] = (j : Int) := by rw [← e', ← qb]
        have : a = b := (List.getElem_inj vd.nd).1 (ea.trans eb.symm)
        subst this
        rw [← qa, ← qb]
    show (match cs.find? (fun c => decide ((j : Int) ∈ c.2)) with | none => _ | some c => _) = _
    rw [fc]
    show ((c.2.zip (oth xs c.2)).find? fun p => decide (p.1 = (j : Int))).elim 0 (·.2) = p.2
    rw [fp]
    rfl
theorem rnd_sub {xs zs : List Int} {cs ds es : List Chg} (r : RndF xs cs (.rch zs)) (pm : cs.Perm (ds ++ es)) : ∃ ws, RndF xs ds (.rch ws) := by
  obtain ⟨al, nb, r⟩ := r
  refine rnd_ex (List.all_eq_true.2 fun e he => List.all_eq_true.1 al e (pm.mem_iff.2 (List.mem_append_left _ he))) (firstOf_none fun j hj => ?_)
  have := tm_le nb hj
  rw [tmF_perm pm, tmF_app] at this
  exact decide_eq_false (by omega)
theorem tot_at {xs : List Int} (h : faultS xs = none) {x : Int} (h0 : 0 ≤ x) (h1 : x < xs.length) : ((tot (natI xs) x.toNat : Nat) : Int) = xs.getD x.toNat 0 := by
  have s := (faultS_no h).1
  have hx : x.toNat < xs.length := by omega
  have := (natI_at s hx).1
  unfold tot
  rw [if_pos (by rw [natI_len]; exact hx)]
  unfold gt
  exact this.symm
theorem one_stp {xs zs : List Int} {c : Chg} (hx : faultS xs = none) (r : RndF xs [c] (.rch zs)) : Stp (tot (natI xs)) (tot (natI zs)) := by
  have hz := rch_st hx r
  obtain ⟨al, nb, r⟩ := r
  obtain ⟨vd, sd⟩ := okR_vd al (List.mem_singleton.2 rfl)
  have lz := r.len
  have tx : ∀ x : Int, 0 ≤ x → x < (xs.length : Int) → ((tot (natI xs) x.toNat : Nat) : Int) = xs.getD x.toNat 0 := fun x h0 h1 => tot_at hx h0 h1
  have tz : ∀ x : Int, 0 ≤ x → x < (xs.length : Int) → ((tot (natI zs) x.toNat : Nat) : Int) = zs.getD x.toNat 0 := fun x h0 h1 => tot_at hz h0 (by rw [lz]; exact h1)
  have hit : ∀ x y, (x, y) ∈ c.2.zip (oth xs c.2) → zs.getD x.toNat 0 = y := fun x y m => by
    have hm := (List.of_mem_zip m).1
    have lo := (vd.lo x hm).1
    have e : ((x.toNat : Nat) : Int) = x := Int.toNat_of_nonneg lo
    refine r.inn x.toNat c (x, y) ?_ (List.mem_singleton.2 rfl) m e.symm
    show ([c].filter fun c => decide (((x.toNat : Nat) : Int) ∈ c.2)).length = 1
    rw [List.filter_cons, if_pos (decide_eq_true (by rw [e]; exact hm))]
    rfl
  have out : ∀ j : Nat, (j : Int) ∉ c.2 → tot (natI zs) j = tot (natI xs) j := fun j hj => by
    by_cases l : j < xs.length
    · have := r.out j l (by
        show ([c].filter fun c => decide ((j : Int) ∈ c.2)).length = 0
        rw [List.filter_cons, if_neg (by simpa using hj)]
        rfl)
      have h1 := tx (j : Int) (by omega) (by omega)
      have h2 := tz (j : Int) (by omega) (by omega)
      rw [Int.toNat_natCast] at h1 h2
      rw [this] at h2
      exact Int.ofNat_inj.1 (h2.trans h1.symm)
    · unfold tot
      rw [natI_len, natI_len, lz, if_neg l, if_neg l]
  have sh := shown_is sd
  obtain ⟨w, ln⟩ := c
  have lo : ∀ x ∈ ln, 0 ≤ x ∧ x < (xs.length : Int) := vd.lo
  have nd : ln.Nodup := vd.nd
  have fm : Fm w ln := vd.fm
  have sh : shF xs ln = nm0 ln ∨ shF xs ln = nm1 ln := sh
  have hit : ∀ x y, (x, y) ∈ ln.zip (oth xs ln) → zs.getD x.toNat 0 = y := hit
  have out : ∀ j : Nat, (j : Int) ∉ ln → tot (natI zs) j = tot (natI xs) j := out
  clear al nb r vd sd hx hz lz
  generalize tot (natI xs) = f at *
  generalize tot (natI zs) = g at *
  have nat : ∀ x ∈ ln, ∃ m : Nat, x = (m : Int) := fun x hx => ⟨x.toNat, (Int.toNat_of_nonneg (lo x hx).1).symm⟩
  cases fm with
  | tie a b =>
    obtain ⟨a, rfl⟩ := nat a (by simp)
    obtain ⟨b, rfl⟩ := nat b (by simp)
    have la := lo a (by simp)
    have lb := lo b (by simp)
    have fa := tx a la.1 la.2
    have fb := tx b lb.1 lb.2
    have ga := tz a la.1 la.2
    have gb := tz b lb.1 lb.2
    simp only [Int.toNat_natCast] at fa fb ga gb
    have ne : a ≠ b := by
      have := nd
      simp at this
      omega
    have o : ∀ j : Nat, j ≠ a → j ≠ b → g j = f j := fun j h1 h2 => out j (by simp; omega)
    rcases sh with sh | sh
    · have e : oth xs [(a : Int), (b : Int)] = [(b : Int), (a : Int)] := by unfold oth; rw [if_pos sh]; rfl
      rw [e] at hit
      have h1 := hit a b (by simp)
      have h2 := hit b a (by simp)
      simp only [shF, nm0, List.map_cons, List.map_nil, Int.toNat_natCast, List.cons.injEq] at sh h1 h2
      refine .inr (.inl ⟨a, b, ne, by omega, by omega, fun j => ?_⟩)
      have := o j
      grind
    · have e0 : ¬ shF xs [(a : Int), (b : Int)] = nm0 [(a : Int), (b : Int)] := by
        rw [sh]
        simp only [nm0, nm1, List.cons.injEq]
        omega
      have e : oth xs [(a : Int), (b : Int)] = [(a : Int), (b : Int)] := by unfold oth; rw [if_neg e0]; rfl
      rw [e] at hit
      have h1 := hit a a (by simp)
      have h2 := hit b b (by simp)
      simp only [shF, nm1, List.map_cons, List.map_nil, Int.toNat_natCast, List.cons.injEq] at sh h1 h2
      refine .inr (.inr (.inl ⟨a, b, ne, by omega, by omega, fun j => ?_⟩))
      have := o j
      grind
  | move a b c =>
    obtain ⟨a, rfl⟩ := nat a (by simp)
    obtain ⟨b, rfl⟩ := nat b (by simp)
    obtain ⟨c, rfl⟩ := nat c (by simp)
    have la := lo a (by simp)
    have lb := lo b (by simp)
    have lc := lo c (by simp)
    have fa := tx a la.1 la.2
    have fb := tx b lb.1 lb.2
    have fc := tx c lc.1 lc.2
    have ga := tz a la.1 la.2
    have gb := tz b lb.1 lb.2
    have gc := tz c lc.1 lc.2
    simp only [Int.toNat_natCast] at fa fb fc ga gb gc
    have ne : a ≠ b ∧ a ≠ c ∧ b ≠ c := by
      have := nd
      simp at this
      omega
    have o : ∀ j : Nat, j ≠ a → j ≠ b → j ≠ c → g j = f j := fun j h1 h2 h3 => out j (by simp; omega)
    rcases sh with sh | sh
    · have e : oth xs [(a : Int), (b : Int), (c : Int)] = [(c : Int), (b : Int), (a : Int)] := by unfold oth; rw [if_pos sh]; rfl
      rw [e] at hit
      have h1 := hit a c (by simp)
      have h2 := hit b b (by simp)
      have h3 := hit c a (by simp)
      simp only [shF, nm0, List.map_cons, List.map_nil, Int.toNat_natCast, List.cons.injEq] at sh h1 h2 h3
      refine .inr (.inr (.inr (.inl ⟨a, b, c, ne.1, by omega, by omega, fun j => ?_⟩)))
      have := o j
      grind
    · have e0 : ¬ shF xs [(a : Int), (b : Int), (c : Int)] = nm0 [(a : Int), (b : Int), (c : Int)] := by
        rw [sh]
        simp only [nm0, nm1, List.cons.injEq]
        omega
      have e : oth xs [(a : Int), (b : Int), (c : Int)] = [(b : Int), (a : Int), (c : Int)] := by unfold oth; rw [if_neg e0]; rfl
      rw [e] at hit
      have h1 := hit a b (by simp)
      have h2 := hit b a (by simp)
      have h3 := hit c c (by simp)
      simp only [shF, nm1, List.map_cons, List.map_nil, Int.toNat_natCast, List.cons.injEq] at sh h1 h2 h3
      refine .inr (.inr (.inr (.inl ⟨a, c, b, ne.2.1, by omega, by omega, fun j => ?_⟩)))
      have := o j
      grind
  | cross a b c d =>
    obtain ⟨a, rfl⟩ := nat a (by simp)
    obtain ⟨b, rfl⟩ := nat b (by simp)
    obtain ⟨c, rfl⟩ := nat c (by simp)
    obtain ⟨d, rfl⟩ := nat d (by simp)
    have la := lo a (by simp)
    have lb := lo b (by simp)
    have lc := lo c (by simp)
    have ld := lo d (by simp)
    have fa := tx a la.1 la.2
    have fb := tx b lb.1 lb.2
    have fc := tx c lc.1 lc.2
    have fd := tx d ld.1 ld.2
    have ga := tz a la.1 la.2
    have gb := tz b lb.1 lb.2
    have gc := tz c lc.1 lc.2
    have gd := tz d ld.1 ld.2
    simp only [Int.toNat_natCast] at fa fb fc fd ga gb gc gd
    have ne : a ≠ b ∧ a ≠ c ∧ a ≠ d ∧ b ≠ c ∧ b ≠ d ∧ c ≠ d := by
      have := nd
      simp at this
      omega
    have o : ∀ j : Nat, j ≠ a → j ≠ b → j ≠ c → j ≠ d → g j = f j := fun j h1 h2 h3 h4 => out j (by simp; omega)
    rcases sh with sh | sh
    · have e : oth xs [(a : Int), (b : Int), (c : Int), (d : Int)] = [(d : Int), (c : Int), (b : Int), (a : Int)] := by unfold oth; rw [if_pos sh]; rfl
      rw [e] at hit
      have h1 := hit a d (by simp)
      have h2 := hit b c (by simp)
      have h3 := hit c b (by simp)
      have h4 := hit d a (by simp)
      simp only [shF, nm0, List.map_cons, List.map_nil, Int.toNat_natCast, List.cons.injEq] at sh h1 h2 h3 h4
      refine .inr (.inr (.inr (.inr ⟨a, b, d, c, ne.1, by omega, by omega, by omega, by omega, by omega, fun j => ?_⟩)))
      have := o j
      grind
    · have e0 : ¬ shF xs [(a : Int), (b : Int), (c : Int), (d : Int)] = nm0 [(a : Int), (b : Int), (c : Int), (d : Int)] := by
        rw [sh]
        simp only [nm0, nm1, List.cons.injEq]
        omega
      have e : oth xs [(a : Int), (b : Int), (c : Int), (d : Int)] = [(b : Int), (a : Int), (d : Int), (c : Int)] := by unfold oth; rw [if_neg e0]; rfl
      rw [e] at hit
      have h1 := hit a b (by simp)
      have h2 := hit b a (by simp)
      have h3 := hit c d (by simp)
      have h4 := hit d c (by simp)
      simp only [shF, nm1, List.map_cons, List.map_nil, Int.toNat_natCast, List.cons.injEq] at sh h1 h2 h3 h4
      refine .inr (.inr (.inr (.inr ⟨a, d, b, c, by omega, by omega, by omega, by omega, by omega, by omega, fun j => ?_⟩)))
      have := o j
      grind
theorem path_far {Z : List Nat} {n : Nat} : ∀ (cs : List Chg) {xs zs : List Int} {ps qs : List Pc}, faultS xs = none → RndF xs cs (.rch zs) → Bl (natI xs) Z 0 ps n → Bl (natI zs) Z 0 qs n → distS ps ≤ distS qs + cs.length ∧ distS qs ≤ distS ps + cs.length
  | [], xs, zs, ps, qs, _, r, b1, b2 => by
    have := r.uniq rnd_nil
    injection this with this
    subst this
    have := far_one _ (Nat.le_refl _) b1 b2
    show _ ≤ _ + 0 ∧ _ ≤ _ + 0
    omega
  | c :: cs, xs, zs, ps, qs, hx, r, b1, b2 => by
    obtain ⟨ws, w⟩ := rnd_sub (ds := [c]) (es := cs) r (.refl _)
    have r2 := rnd_split r (.refl _) w
    have hw := rch_st hx w
    have lw : ws.length = xs.length := w.2.2.len
    obtain ⟨ms, b3, _⟩ := bl_ex (faultS_no hw).2 b1.sta.2 (by rw [b1.lb, natI_len, lw, ← natI_len, b1.la])
    rw [natI_len, lw, ← natI_len, b1.la] at b3
    have h1 := path_far cs hw r2 b3 b2
    have st := one_stp hx w
    have h2 := far_step _ (Nat.le_refl _) b1 b3 st
    have h3 := far_step _ (Nat.le_refl _) b3 b1 (st.back (tot_inv (faultS_no hx).2))
    rw [List.length_cons]
    omega
theorem fol_far {Z : List Nat} {n : Nat} {xs : List Int} {css : List (List Chg)} {rows : List (List Int)} {zs : List Int} (hx : faultS xs = none) (f : Fol xs css rows zs) : ∀ {ps qs : List Pc}, Bl (natI xs) Z 0 ps n → Bl (natI zs) Z 0 qs n → distS ps ≤ distS qs + (css.map List.length).sum := by
  induction f with
  | nil =>
    intro ps qs b1 b2
    have := far_one _ (Nat.le_refl _) b1 b2
    omega
  | @snoc css rows ys zs cs f r ih =>
    intro ps qs b1 b2
    obtain ⟨hy, ly, _⟩ := f.st hx
    obtain ⟨ms, b3, _⟩ := bl_ex (faultS_no hy).2 b1.sta.2 (by rw [b1.lb, natI_len, ly, ← natI_len, b1.la])
    rw [natI_len, ly, ← natI_len, b1.la] at b3
    have h1 := ih b1 b3
    have h2 := (path_far cs hy r b3 b2).1
    rw [List.map_append, List.sum_append]
    show _ ≤ _ + (_ + (cs.length + 0))
    omega
theorem fol_head {xs : List Int} {css : List (List Chg)} {rows : List (List Int)} {zs : List Int} (f : Fol xs css rows zs) : ∀ {cs0 : List Chg} {rest : List (List Chg)}, css = cs0 :: rest → ∃ es rows2, RndF xs cs0 (.rch es) ∧ Fol es rest rows2 zs := by
  induction f with
  | nil => intro cs0 rest e; cases e
  | @snoc css rows ys zs cs f r ih =>
    intro cs0 rest e
    cases css with
    | nil =>
      have e : [cs] = cs0 :: rest := e
      injection e with e1 e2
      subst e1
      subst e2
      obtain ⟨_, e3⟩ := f.uniq Fol.nil
      subst e3
      exact ⟨_, _, r, Fol.nil⟩
    | cons c css =>
      have e : c :: (css ++ [cs]) = cs0 :: rest := e
      injection e with e1 e2
      subst e1
      subst e2
      obtain ⟨es, rows2, h1, h2⟩ := ih rfl
      exact ⟨es, _, h1, Fol.snoc h2 r⟩
/-- some changes of the first round done: the distance has fallen by as many -/
theorem half_far {xs zs ws : List Int} {css : List (List Chg)} {rows : List (List Int)} {cs0 ds es : List Chg} {rest : List (List Chg)} {ps qs : List Pc} {n : Nat} (hx : faultS xs = none) (f : Fol xs css rows zs) (e : css = cs0 :: rest) (pm : cs0.Perm (ds ++ es)) (w : RndF xs ds (.rch ws)) (b1 : Bl (natI xs) (natI zs) 0 ps n) (b2 : Bl (natI ws) (natI zs) 0 qs n) (sum : (css.map List.length).sum = distS ps) : distS qs + ds.length = distS ps := by
  obtain ⟨ys, rows2, h1, h2⟩ := fol_head f e
  have hw := rch_st hx w
  have hy := rch_st hx h1
  have ly : ys.length = xs.length := h1.2.2.len
  have r2 := rnd_split h1 pm w
  have sz := b1.sta.2
  obtain ⟨ms, b3, _⟩ := bl_ex (faultS_no hy).2 sz (by rw [b1.lb, natI_len, ly, ← natI_len, b1.la])
  rw [natI_len, ly, ← natI_len, b1.la] at b3
  obtain ⟨ts, b4, _⟩ := bl_ex sz sz rfl
  rw [b1.lb] at b4
  have z0 : distS ts = 0 := by
    have := (same_iff b4).2 rfl
    have key : ∀ l : List Pc, (∀ p ∈ l, ¬ 1 < p.1) → distS l = 0 := by
      intro l
      induction l with
      | nil => exact fun _ => rfl
      | cons p l ih =>
        intro h
        have h1 := h p (List.mem_cons_self ..)
        have h2 := ih fun q hq => h q (List.mem_cons_of_mem _ hq)
        show distP p + distS l = 0
        have : distP p = 0 := by
          show distI p.1 p.2.1.length = 0
          unfold distI
          rw [if_neg (by omega), if_neg (by omega)]
        omega
    exact key ts this
  have k1 := (path_far ds hx w b1 b2).1
  have k2 := (path_far es hw r2 b2 b3).1
  have k3 := fol_far hy h2 b3 b4
  have k4 := pm.length_eq
  rw [List.length_append] at k4
  rw [e] at sum
  have : cs0.length + (rest.map List.length).sum = distS ps := sum
  omega
end Pv

namespace Pv
open PySem L2 Evl Pm
def spDs (A : Ad) : Sp := fun vs H Q E => ∃ (a b : Addr) (xs zs : List Int), vs = [.ref a, .ref b] ∧ ListI H a xs ∧ ListI H b zs ∧ xs.length ≤ 64 ∧ zs.length ≤ 64 ∧
  (faultF xs zs = none → ∀ ps, Bl (natI xs) (natI zs) 0 ps xs.length → (∀ q ∈ ps, PcOf (natI xs) (natI zs) q) → ∀ H', Ex H H' → Q (.int (distS ps : Nat)) H') ∧ ∀ f, faultF xs zs = some f → RzF A f H E
def spLp : Sp := fun vs H Q _ => ∃ (l r : Addr) (xs zs : List Int), vs = [.ref l, .ref r] ∧ ListI H l xs ∧ ListI H r zs ∧ faultF xs zs = none ∧ xs.length ≤ 64 ∧
  ∀ ps, Bl (natI xs) (natI zs) 0 ps xs.length → (∀ q ∈ ps, PcOf (natI xs) (natI zs) q) → ∀ M t q H', M.length = xs.length → (∀ q ∈ ps, MidAt M q) → Ex H H' → H' t = some (.tup [.str "told", .ref q]) → CssP H' q (roundsP (natI xs) M (natI zs) xs.length) → Q (.ref t) H'
def CgsAt (H : Hp) (us : List Addr) (ds : List Chg) : Prop := us.length = ds.length ∧ ∀ (i : Nat) (t : Addr) (c : Chg), us[i]? = some t → ds[i]? = some c → CgP H t c ∧ okC c
theorem CgsAt.ex {H H' : Hp} {us : List Addr} {ds : List Chg} (e : Ex H H') (h : CgsAt H us ds) : CgsAt H' us ds := ⟨h.1, fun i t c a b => ⟨(h.2 i t c a b).1.ex e, (h.2 i t c a b).2⟩⟩
def spSo : Sp := fun vs H Q _ => ∃ (b c s : Addr) (ts : List Addr) (cs : List Chg), vs = [.ref b, .ref s] ∧ Bx H b c ∧ H s = some (.lst (ts.map V.ref)) ∧ s ≠ b ∧ CgsAt H ts cs ∧ 0 < ts.length ∧ ts.length ≤ 200 ∧
  ∀ p us ds H', Bx H' b c → Mut b H H' → H' p = some (.lst (us.map V.ref)) → p ≠ b → CgsAt H' us ds → ds.Sublist cs → Q (.ref p) H'
theorem distS_J {A B : List Nat} {ps : List Pc} {n : Nat} (b : Bl A B 0 ps n) : ((psJ ps n).map distP).sum = distS ps := by
  have h := (b.psJ_perm).map distP
  have key : ∀ l : List Pc, ((l.filter isCR).map distP).sum = distS l := by
    intro l
    induction l with
    | nil => rfl
    | cons p l ih =>
      rw [List.filter_cons]
      show _ = distP p + distS l
      by_cases c : isCR p = true
      · rw [if_pos c, List.map_cons, List.sum_cons, ih]
      · rw [if_neg c, ih]
        have : ¬ 1 < p.1 := fun z => c (decide_eq_true z)
        have d : distP p = 0 := by
          show distI p.1 p.2.1.length = 0
          unfold distI
          rw [if_neg (by omega), if_neg (by omega)]
        omega
  rw [h.sum_nat, key]
end Pv

namespace Pv
open PySem L2 Evl Pm
def spMt1 : Sp := fun vs H Q _ => ∃ (l r : Addr) (xs zs : List Int), vs = [.ref l, .ref r] ∧ ListI H l xs ∧ ListI H r zs ∧ xs.length ≤ 64 ∧ zs.length ≤ 64 ∧
  (∀ f, faultF xs zs = some f → AnW (wF f.1) f.2 H Q) ∧
  (faultF xs zs = none → ∀ ps, Bl (natI xs) (natI zs) 0 ps xs.length → (∀ q ∈ ps, PcOf (natI xs) (natI zs) q) → ∀ t H', Ex H H' → H' t = some (.tup [.str "told", .int (distS ps : Nat)]) → Q (.ref t) H')
def spTo1 : Sp := fun vs H Q _ => ∃ (l r : Addr) (xs zs : List Int), vs = [.ref l, .ref r] ∧ ListI H l xs ∧ ListI H r zs ∧ faultF xs zs = none ∧ xs.length ≤ 64 ∧
  ∀ ps, Bl (natI xs) (natI zs) 0 ps xs.length → ∀ H', Ex H H' → Q (.int (distS ps : Nat)) H'
/-- links written one after another -/
def relF (R : List Nat) : List (Nat × Nat) → List Nat
  | [] => R
  | l :: ls => relF ((R.set l.1 l.2).set l.2 l.1) ls
def LkAt (H : Hp) (s : Addr) (ls : List (Nat × Nat)) : Prop := ∃ ts : List Addr, H s = some (.lst (ts.map V.ref)) ∧ ts.length = ls.length ∧ ∀ (i : Nat) (t : Addr) (l : Nat × Nat), ts[i]? = some t → ls[i]? = some l → H t = some (.tup [.int (l.1 : Int), .int (l.2 : Int)])
def spRk : Sp := fun vs H Q _ => ∃ (a s : Addr) (R : List Nat) (ls : List (Nat × Nat)), vs = [.ref a, .ref s] ∧ ListN H a R ∧ LkAt H s ls ∧ (∀ l ∈ ls, l.1 < R.length ∧ l.2 < R.length) ∧ ∀ p H', H p = none → Ex H H' → ListN H' p (relF R ls) → Q (.ref p) H'
/-! all changes of a row -/
def lonF (R : List Nat) : List Nat := (List.range R.length).filter fun x => decide (gt R x = x)
def prsF (R : List Nat) : List (Nat × Nat) := ((List.range R.length).filter fun x => decide (x < gt R x)).map fun x => (x, gt R x)
def near1 (L : List Nat) (k : Nat) : List (List (Nat × Nat)) := (L.take k).map fun x => [(gt L k, x)]
def near2x (p : Nat × Nat) (x : Nat) : List (List (Nat × Nat)) := [[(p.1, x), (p.2, p.2)], [(p.2, x), (p.1, p.1)]]
def near2 (L : List Nat) (p : Nat × Nat) : List (List (Nat × Nat)) := [(p.1, p.1), (p.2, p.2)] :: L.flatMap (near2x p)
def near3x (o m : Nat × Nat) : List (List (Nat × Nat)) := [[(o.1, m.1), (o.2, m.2)], [(o.1, m.2), (o.2, m.1)]]
def near3 (P : List (Nat × Nat)) (k : Nat) : List (List (Nat × Nat)) := (P.take k).flatMap (near3x (P.getD k (0, 0)))
def nearF (R : List Nat) : List (List (Nat × Nat)) :=
  (List.range (lonF R).length).flatMap (near1 (lonF R)) ++ ((prsF R).flatMap (near2 (lonF R)) ++ (List.range (prsF R).length).flatMap (near3 (prsF R)))
def RowsAt (H : Hp) (p : Addr) (rows : List (List Nat)) : Prop := ∃ ts : List Addr, H p = some (.lst (ts.map V.ref)) ∧ ts.length = rows.length ∧ ∀ (i : Nat) (t : Addr) (r : List Nat), ts[i]? = some t → rows[i]? = some r → ListN H t r
theorem RowsAt.ex {H H' : Hp} {p : Addr} {rows : List (List Nat)} (e : Ex H H') (h : RowsAt H p rows) : RowsAt H' p rows := by
  obtain ⟨ts, a, b, c⟩ := h
  exact ⟨ts, e _ _ a, b, fun i t r x y => e _ _ (c i t r x y)⟩
def spNr : Sp := fun vs H Q _ => ∃ (a : Addr) (R : List Nat) (n : Nat), vs = [.ref a] ∧ ListN H a R ∧ StN R n ∧ n ≤ 64 ∧ ∀ p H', H p = none → Ex H H' → RowsAt H' p ((nearF R).map (relF R)) → Q (.ref p) H'
theorem flat_le {α β : Type} {f : α → List β} {c : Nat} : ∀ {l : List α}, (∀ x ∈ l, (f x).length ≤ c) → (l.flatMap f).length ≤ l.length * c
  | [], _ => by simp
  | x :: l, h => by
    have := flat_le (l := l) fun y hy => h y (List.mem_cons_of_mem _ hy)
    have hx := h x (List.mem_cons_self ..)
    rw [List.flatMap_cons, List.length_append, List.length_cons, Nat.add_mul]
    omega
end Pv

namespace Pv
open PySem L2 Evl Pm
theorem gt_set2 {R : List Nat} {a b j : Nat} (ha : a < R.length) (hb : b < R.length) : gt ((R.set a b).set b a) j = if j = b then a else if j = a then b else gt R j := by
  rw [gtq_set (by rw [List.length_set]; exact hb), gtq_set ha]
  grind
theorem tot_set2 {R : List Nat} {a b j : Nat} (ha : a < R.length) (hb : b < R.length) : tot ((R.set a b).set b a) j = if j = b then a else if j = a then b else tot R j := by
  unfold tot
  rw [List.length_set, List.length_set]
  by_cases c : j < R.length
  · rw [if_pos c, gt_set2 ha hb, if_pos c]
  · rw [if_neg c, if_neg (by omega), if_neg (by omega), if_neg c]
theorem rel1 {R : List Nat} {a b : Nat} (ha : a < R.length) (hb : b < R.length) : (relF R [(a, b)]).length = R.length ∧ ∀ j, tot (relF R [(a, b)]) j = if j = b then a else if j = a then b else tot R j :=
  ⟨by show ((R.set a b).set b a).length = _; rw [List.length_set, List.length_set], fun j => tot_set2 ha hb⟩
theorem rel2 {R : List Nat} {a b c d : Nat} (ha : a < R.length) (hb : b < R.length) (hc : c < R.length) (hd : d < R.length) : (relF R [(a, b), (c, d)]).length = R.length ∧ ∀ j, tot (relF R [(a, b), (c, d)]) j = if j = d then c else if j = c then d else if j = b then a else if j = a then b else tot R j := by
  have l : ((R.set a b).set b a).length = R.length := by rw [List.length_set, List.length_set]
  refine ⟨by show ((((R.set a b).set b a).set c d).set d c).length = _; rw [List.length_set, List.length_set, l], fun j => ?_⟩
  show tot ((((R.set a b).set b a).set c d).set d c) j = _
  rw [tot_set2 (by rw [l]; exact hc) (by rw [l]; exact hd), tot_set2 ha hb]
theorem stN_inv {R : List Nat} {n : Nat} (s : StN R n) : Inv (tot R) ∧ ∀ j, j < n → tot R j < n := by
  have len := s.len
  constructor
  · intro j
    unfold tot
    by_cases c : j < R.length
    · have := s.lt j (by omega)
      rw [if_pos c, if_pos (by omega), s.bk j (by omega)]
    · rw [if_neg c, if_neg c]
  · intro j hj
    unfold tot
    rw [if_pos (by omega)]
    exact s.lt j hj
theorem stN_tot {R : List Nat} {n : Nat} (len : R.length = n) (i : Inv (tot R)) (lt : ∀ j, j < n → tot R j < n) : StN R n := by
  have e : ∀ j, j < n → tot R j = gt R j := fun j h => by unfold tot; rw [if_pos (by omega)]
  refine ⟨len, fun j h => by rw [← e j h]; exact lt j h, fun j h => ?_⟩
  have := i j
  rw [e j h, e _ (by rw [← e j h]; exact lt j h)] at this
  exact this
/-- what the neighbours of a row are -/
def NbOf (R W : List Nat) (n : Nat) : Prop := StN W n ∧ Stp (tot R) (tot W) ∧ W ≠ R
theorem lone_is {R : List Nat} {x : Nat} (h : x ∈ lonF R) : x < R.length ∧ tot R x = x := by
  obtain ⟨a, b⟩ := List.mem_filter.1 h
  have a := List.mem_range.1 a
  refine ⟨a, ?_⟩
  unfold tot
  rw [if_pos a]
  exact of_decide_eq_true b
theorem pair_is {R : List Nat} {n : Nat} (s : StN R n) {p : Nat × Nat} (h : p ∈ prsF R) : p.1 < R.length ∧ p.2 < R.length ∧ p.1 < p.2 ∧ tot R p.1 = p.2 ∧ tot R p.2 = p.1 := by
  obtain ⟨x, hx, rfl⟩ := List.mem_map.1 h
  obtain ⟨a, b⟩ := List.mem_filter.1 hx
  have a := List.mem_range.1 a
  have b := of_decide_eq_true b
  have e : tot R x = gt R x := by unfold tot; rw [if_pos a]
  have i := (stN_inv s).1 x
  rw [e] at i
  exact ⟨a, by rw [s.len] at a ⊢; exact s.lt x a, b, e, i⟩
theorem nb_tie {R : List Nat} {n a b : Nat} (s : StN R n) (ha : a ∈ lonF R) (hb : b ∈ lonF R) (ne : a ≠ b) : NbOf R (relF R [(a, b)]) n := by
  obtain ⟨a1, a2⟩ := lone_is ha
  obtain ⟨b1, b2⟩ := lone_is hb
  obtain ⟨i, lt⟩ := stN_inv s
  obtain ⟨l, g⟩ := rel1 a1 b1
  have len := s.len
  refine ⟨stN_tot (by rw [l, len]) (fun j => ?_) (fun j hj => ?_), .inr (.inl ⟨a, b, ne, a2, b2, fun j => ?_⟩), fun z => ?_⟩
  · have := i j
    simp only [g]
    grind
  · have := lt j hj
    rw [g]
    grind
  · rw [g]
    grind
  · have := g a
    rw [z] at this
    grind
theorem nb_cutp {R : List Nat} {n : Nat} {p : Nat × Nat} (s : StN R n) (hp : p ∈ prsF R) : NbOf R (relF R [(p.1, p.1), (p.2, p.2)]) n := by
  obtain ⟨a1, b1, lt0, a2, b2⟩ := pair_is s hp
  obtain ⟨i, lt⟩ := stN_inv s
  obtain ⟨l, g⟩ := rel2 a1 a1 b1 b1
  have len := s.len
  generalize p.1 = a at *
  generalize p.2 = b at *
  refine ⟨stN_tot (by rw [l, len]) (fun j => ?_) (fun j hj => ?_), .inr (.inr (.inl ⟨a, b, by omega, by rw [g]; grind, by rw [g]; grind, fun j => ?_⟩)), fun z => ?_⟩
  · have := i j
    simp only [g]
    grind
  · have := lt j hj
    rw [g]
    grind
  · rw [g]
    grind
  · have := g a
    rw [z] at this
    grind
theorem nb_mov {R : List Nat} {n a b c : Nat} (s : StN R n) (a1 : a < R.length) (b1 : b < R.length) (ne : a ≠ b) (a2 : tot R a = b) (b2 : tot R b = a) (hc : c ∈ lonF R) : NbOf R (relF R [(a, c), (b, b)]) n := by
  obtain ⟨c1, c2⟩ := lone_is hc
  obtain ⟨i, lt⟩ := stN_inv s
  obtain ⟨l, g⟩ := rel2 a1 c1 b1 b1
  have len := s.len
  refine ⟨stN_tot (by rw [l, len]) (fun j => ?_) (fun j hj => ?_), .inr (.inr (.inr (.inl ⟨a, b, c, ne, a2, c2, fun j => ?_⟩))), fun z => ?_⟩
  · have := i j
    simp only [g]
    grind
  · have := lt j hj
    rw [g]
    grind
  · rw [g]
    grind
  · have := g a
    rw [z] at this
    grind
theorem nb_crs {R : List Nat} {n a b c d : Nat} (s : StN R n) (a1 : a < R.length) (b1 : b < R.length) (c1 : c < R.length) (d1 : d < R.length) (ab : a ≠ b) (cd : c ≠ d) (ac : a ≠ c) (ad : a ≠ d) (a2 : tot R a = b) (b2 : tot R b = a) (c2 : tot R c = d) (d2 : tot R d = c) : NbOf R (relF R [(a, c), (b, d)]) n := by
  obtain ⟨i, lt⟩ := stN_inv s
  obtain ⟨l, g⟩ := rel2 a1 c1 b1 d1
  have len := s.len
  refine ⟨stN_tot (by rw [l, len]) (fun j => ?_) (fun j hj => ?_), .inr (.inr (.inr (.inr ⟨a, b, c, d, ab, cd, ac, ad, a2, c2, fun j => ?_⟩))), fun z => ?_⟩
  · have := i j
    simp only [g]
    grind
  · have := lt j hj
    rw [g]
    grind
  · rw [g]
    grind
  · have := g a
    rw [z] at this
    grind
theorem prs_fst {R : List Nat} : ((prsF R).map (·.1)) = (List.range R.length).filter fun x => decide (x < gt R x) := by
  unfold prsF
  rw [List.map_map]
  exact List.map_id'' (fun x => rfl) _
theorem prs_nd {R : List Nat} {j k : Nat} (hj : j < (prsF R).length) (hk : k < (prsF R).length) (ne : j ≠ k) : (prsF R)[j].1 ≠ (prsF R)[k].1 := fun z => by
  have nd : ((prsF R).map (·.1)).Nodup := by rw [prs_fst]; exact (List.filter_sublist.nodup List.nodup_range)
  exact ne ((List.getElem_inj (h₀ := by rw [List.length_map]; exact hj) (h₁ := by rw [List.length_map]; exact hk) nd).1 (by rw [List.getElem_map, List.getElem_map]; exact z))
theorem lon_nd {R : List Nat} : (lonF R).Nodup := (List.filter_sublist.nodup List.nodup_range)
theorem two_prs {R : List Nat} {n : Nat} (s : StN R n) {p q : Nat × Nat} (hp : p ∈ prsF R) (hq : q ∈ prsF R) (ne : p.1 ≠ q.1) : p.1 ≠ q.2 ∧ p.2 ≠ q.1 ∧ p.2 ≠ q.2 := by
  obtain ⟨a1, a2, a3, a4, a5⟩ := pair_is s hp
  obtain ⟨b1, b2, b3, b4, b5⟩ := pair_is s hq
  grind
theorem near_nb {R : List Nat} {n : Nat} (s : StN R n) : ∀ lk ∈ nearF R, NbOf R (relF R lk) n := by
  intro lk h
  unfold nearF at h
  rcases List.mem_append.1 h with h | h
  · obtain ⟨k, hk, h⟩ := List.mem_flatMap.1 h
    have hk := List.mem_range.1 hk
    unfold near1 at h
    obtain ⟨x, hx, rfl⟩ := List.mem_map.1 h
    obtain ⟨j, hj, e⟩ := List.getElem_of_mem hx
    rw [List.length_take] at hj
    rw [List.getElem_take] at e
    refine nb_tie s (gt_mem hk) (List.mem_of_mem_take hx) fun z => ?_
    rw [gt_get hk, ← e] at z
    have := (List.getElem_inj lon_nd).1 z
    omega
  rcases List.mem_append.1 h with h | h
  · obtain ⟨p, hp, h⟩ := List.mem_flatMap.1 h
    obtain ⟨a1, a2, a3, a4, a5⟩ := pair_is s hp
    unfold near2 at h
    rcases List.mem_cons.1 h with h | h
    · rw [h]
      exact nb_cutp s hp
    · obtain ⟨x, hx, h⟩ := List.mem_flatMap.1 h
      unfold near2x at h
      rcases List.mem_cons.1 h with h | h
      · rw [h]
        exact nb_mov s a1 a2 (by omega) a4 a5 hx
      · rw [List.mem_singleton.1 h]
        exact nb_mov s a2 a1 (by omega) a5 a4 hx
  · obtain ⟨k, hk, h⟩ := List.mem_flatMap.1 h
    have hk := List.mem_range.1 hk
    unfold near3 at h
    obtain ⟨m, hm, h⟩ := List.mem_flatMap.1 h
    obtain ⟨j, hj, e⟩ := List.getElem_of_mem hm
    rw [List.length_take] at hj
    rw [List.getElem_take] at e
    have wi : (prsF R).getD k (0, 0) = (prsF R)[k] := by rw [List.getD_eq_getElem?_getD, List.getElem?_eq_getElem hk]; rfl
    rw [wi] at h
    have ho : (prsF R)[k] ∈ prsF R := List.getElem_mem hk
    have hm2 := List.mem_of_mem_take hm
    have ne := prs_nd hk (show j < (prsF R).length by omega) (by omega)
    rw [e] at ne
    generalize (prsF R)[k] = o at *
    obtain ⟨a1, a2, a3, a4, a5⟩ := pair_is s ho
    obtain ⟨b1, b2, b3, b4, b5⟩ := pair_is s hm2
    obtain ⟨n1, n2, n3⟩ := two_prs s ho hm2 ne
    unfold near3x at h
    rcases List.mem_cons.1 h with h | h
    · rw [h]
      exact nb_crs s a1 a2 b1 b2 (by omega) (by omega) ne n1 a4 a5 b4 b5
    · rw [List.mem_singleton.1 h]
      exact nb_crs s a1 a2 b2 b1 (by omega) (by omega) n1 ne a4 a5 b5 b4
theorem tot_ext {A B : List Nat} (l : A.length = B.length) (h : ∀ j, j < A.length → tot A j = tot B j) : A = B := by
  refine List.ext_getElem l fun j h1 h2 => ?_
  have := h j h1
  unfold tot at this
  rw [if_pos h1, if_pos h2, gt_get h1, gt_get h2] at this
  exact this
theorem lone_in {R : List Nat} {x : Nat} (h : x < R.length) (e : tot R x = x) : x ∈ lonF R := by
  unfold tot at e
  rw [if_pos h] at e
  exact List.mem_filter.2 ⟨List.mem_range.2 h, decide_eq_true e⟩
theorem pair_in {R : List Nat} {a b : Nat} (h : a < R.length) (e : tot R a = b) (lt : a < b) : (a, b) ∈ prsF R := by
  unfold tot at e
  rw [if_pos h] at e
  exact List.mem_map.2 ⟨a, List.mem_filter.2 ⟨List.mem_range.2 h, decide_eq_true (by rw [e]; exact lt)⟩, by rw [e]⟩
theorem in1 {R : List Nat} {a b : Nat} (ha : a ∈ lonF R) (hb : b ∈ lonF R) (ne : a ≠ b) : [(a, b)] ∈ nearF R ∨ [(b, a)] ∈ nearF R := by
  obtain ⟨i, hi, rfl⟩ := List.getElem_of_mem ha
  obtain ⟨j, hj, rfl⟩ := List.getElem_of_mem hb
  have key : ∀ i j (hi : i < (lonF R).length) (hj : j < (lonF R).length), j < i → [((lonF R)[i], (lonF R)[j])] ∈ nearF R := fun i j hi hj lt => by
    refine List.mem_append_left _ (List.mem_flatMap.2 ⟨i, List.mem_range.2 hi, List.mem_map.2 ⟨(lonF R)[j], ?_, ?_⟩⟩)
    · rw [List.mem_iff_getElem]
      exact ⟨j, by rw [List.length_take]; omega, by rw [List.getElem_take]⟩
    · rw [gt_get hi]
  by_cases c : j < i
  · exact .inl (key i j hi hj c)
  · have : i ≠ j := fun z => by subst z; exact ne rfl
    exact .inr (key j i hj hi (by omega))
theorem in2 {R : List Nat} {p : Nat × Nat} (hp : p ∈ prsF R) : [(p.1, p.1), (p.2, p.2)] ∈ nearF R ∧ ∀ x ∈ lonF R, [(p.1, x), (p.2, p.2)] ∈ nearF R ∧ [(p.2, x), (p.1, p.1)] ∈ nearF R := by
  have put : ∀ lk ∈ near2 (lonF R) p, lk ∈ nearF R := fun lk h => List.mem_append_right _ (List.mem_append_left _ (List.mem_flatMap.2 ⟨p, hp, h⟩))
  refine ⟨put _ (List.mem_cons_self ..), fun x hx => ⟨put _ (List.mem_cons_of_mem _ (List.mem_flatMap.2 ⟨x, hx, List.mem_cons_self ..⟩)), put _ (List.mem_cons_of_mem _ (List.mem_flatMap.2 ⟨x, hx, List.mem_cons_of_mem _ (List.mem_singleton.2 rfl)⟩))⟩⟩
theorem in3 {R : List Nat} {p q : Nat × Nat} (hp : p ∈ prsF R) (hq : q ∈ prsF R) (ne : p ≠ q) : ([(p.1, q.1), (p.2, q.2)] ∈ nearF R ∧ [(p.1, q.2), (p.2, q.1)] ∈ nearF R) ∨ ([(q.1, p.1), (q.2, p.2)] ∈ nearF R ∧ [(q.1, p.2), (q.2, p.1)] ∈ nearF R) := by
  obtain ⟨i, hi, rfl⟩ := List.getElem_of_mem hp
  obtain ⟨j, hj, rfl⟩ := List.getElem_of_mem hq
  have key : ∀ i j (hi : i < (prsF R).length) (hj : j < (prsF R).length), j < i → ∀ lk ∈ near3x (prsF R)[i] (prsF R)[j], lk ∈ nearF R := fun i j hi hj lt lk h => by
    refine List.mem_append_right _ (List.mem_append_right _ (List.mem_flatMap.2 ⟨i, List.mem_range.2 hi, ?_⟩))
    unfold near3
    rw [List.getD_eq_getElem?_getD, List.getElem?_eq_getElem hi]
    refine List.mem_flatMap.2 ⟨(prsF R)[j], ?_, h⟩
    rw [List.mem_iff_getElem]
    exact ⟨j, by rw [List.length_take]; omega, by rw [List.getElem_take]⟩
  by_cases c : j < i
  · have := key i j hi hj c
    exact .inl ⟨this _ (List.mem_cons_self ..), this _ (List.mem_cons_of_mem _ (List.mem_singleton.2 rfl))⟩
  · have : i ≠ j := fun z => by subst z; exact ne rfl
    have := key j i hj hi (by omega)
    exact .inr ⟨this _ (List.mem_cons_self ..), this _ (List.mem_cons_of_mem _ (List.mem_singleton.2 rfl))⟩
end Pv

namespace Pv
open PySem L2 Evl Pm
theorem tot_out {R : List Nat} {a : Nat} (h : tot R a ≠ a) : a < R.length := by
  refine Classical.byContradiction fun z => h ?_
  unfold tot
  rw [if_neg z]
theorem near_all {R W : List Nat} {n : Nat} (s : StN R n) (sw : StN W n) (st : Stp (tot R) (tot W)) (nw : W ≠ R) : ∃ lk ∈ nearF R, relF R lk = W := by
  have len := s.len
  have lw := sw.len
  obtain ⟨i, lt⟩ := stN_inv s
  obtain ⟨iw, _⟩ := stN_inv sw
  rcases st with h | ⟨a, b, h⟩ | ⟨a, b, h⟩ | ⟨a, b, c, h⟩ | ⟨a, b, c, d, h⟩
  · exact absurd (tot_ext (by omega) fun j _ => h j) nw
  · obtain ⟨h1, h2, h3, h4⟩ := h
    have a1 : a < W.length := tot_out (by rw [h4]; grind)
    have b1 : b < W.length := tot_out (by rw [h4]; grind)
    have ha := lone_in (by omega) h2
    have hb := lone_in (by omega) h3
    rcases in1 ha hb h1 with m | m
    · obtain ⟨l, g⟩ := rel1 (R := R) (a := a) (b := b) (by omega) (by omega)
      exact ⟨_, m, tot_ext (by rw [l]; omega) fun j _ => by rw [g, h4] <;> grind⟩
    · obtain ⟨l, g⟩ := rel1 (R := R) (a := b) (b := a) (by omega) (by omega)
      exact ⟨_, m, tot_ext (by rw [l]; omega) fun j _ => by rw [g, h4] <;> grind⟩
  · obtain ⟨h1, h2, h3, h4⟩ := h
    have fa := h4 a
    have fb := h4 b
    have a1 : a < R.length := tot_out (by rw [h4]; grind)
    have b1 : b < R.length := tot_out (by rw [h4]; grind)
    have key : ∀ a b, a < R.length → b < R.length → a < b → tot R a = b → tot W a = a → tot W b = b → (∀ j, j ≠ a → j ≠ b → tot W j = tot R j) → ∃ lk ∈ nearF R, relF R lk = W := fun a b a1 b1 lt e wa wb o => by
      obtain ⟨l, g⟩ := rel2 (R := R) (a := a) (b := a) (c := b) (d := b) a1 a1 b1 b1
      refine ⟨_, (in2 (pair_in a1 e lt)).1, tot_ext (by rw [l]; omega) fun j _ => ?_⟩
      have := o j
      rw [g]
      grind
    by_cases c : a < b
    · exact key a b a1 b1 c (by grind) h2 h3 fun j q1 q2 => by have := h4 j; grind
    · exact key b a b1 a1 (by omega) (by grind) h3 h2 fun j q1 q2 => by have := h4 j; grind
  · obtain ⟨h1, h2, h3, h4⟩ := h
    have fb : tot R b = a := by rw [← h2]; exact i a
    have ac : a ≠ c := by grind
    have a1 : a < R.length := tot_out (by rw [h2]; exact h1.symm)
    have b1 : b < R.length := tot_out (by rw [fb]; exact h1)
    have c1 : c < W.length := tot_out (by rw [h4]; grind)
    have hc := lone_in (by omega) h3
    have cl := c1
    rw [lw, ← len] at cl
    obtain ⟨l, g⟩ := rel2 (R := R) (a := a) (b := c) (c := b) (d := b) a1 cl b1 b1
    have eq : relF R [(a, c), (b, b)] = W := tot_ext (by rw [l]; omega) fun j _ => by rw [g, h4]; grind
    by_cases o : a < b
    · exact ⟨_, ((in2 (pair_in a1 h2 o)).2 c hc).1, eq⟩
    · exact ⟨_, ((in2 (pair_in b1 fb (by omega))).2 c hc).2, eq⟩
  · obtain ⟨h1, h2, h3, h4, h5, h6, h7⟩ := h
    have fb : tot R b = a := by rw [← h5]; exact i a
    have fd : tot R d = c := by rw [← h6]; exact i c
    have bc : b ≠ c := by grind
    have bd : b ≠ d := by grind
    have a1 : a < R.length := tot_out (by rw [h5]; exact h1.symm)
    have b1 : b < R.length := tot_out (by rw [fb]; exact h1)
    have c1 : c < R.length := tot_out (by rw [h6]; exact h2.symm)
    have d1 : d < R.length := tot_out (by rw [fd]; exact h2)
    have key : ∀ x y z u, x < R.length → y < R.length → z < R.length → u < R.length → (∀ j, (if j = u then z else if j = z then u else if j = y then x else if j = x then y else tot R j) = tot W j) → relF R [(x, y), (z, u)] = W := fun x y z u q1 q2 q3 q4 e => by
      obtain ⟨l, g⟩ := rel2 (R := R) q1 q2 q3 q4
      exact tot_ext (by rw [l]; omega) fun j _ => by rw [g, e]
    have t7 : ∀ j, tot W j = if j = a then c else if j = c then a else if j = b then d else if j = d then b else tot R j := h7
    have e1 := key a c b d a1 c1 b1 d1 fun j => by rw [t7] <;> grind
    have e2 := key c a d b c1 a1 d1 b1 fun j => by rw [t7] <;> grind
    have e3 := key b d a c b1 d1 a1 c1 fun j => by rw [t7] <;> grind
    have e4 := key d b c a d1 b1 c1 a1 fun j => by rw [t7] <;> grind
    rcases (by omega : a < b ∨ b < a) with o1 | o1 <;> rcases (by omega : c < d ∨ d < c) with o2 | o2
    · rcases in3 (pair_in a1 h5 o1) (pair_in c1 h6 o2) (fun z => by injection z with z1 z2; exact h3 z1) with m | m
      · exact ⟨_, m.1, e1⟩
      · exact ⟨_, m.1, e2⟩
    · rcases in3 (pair_in a1 h5 o1) (pair_in d1 fd o2) (fun z => by injection z with z1 z2; exact h4 z1) with m | m
      · exact ⟨_, m.2, e1⟩
      · exact ⟨_, m.2, e4⟩
    · rcases in3 (pair_in b1 fb o1) (pair_in c1 h6 o2) (fun z => by injection z with z1 z2; exact bc z1) with m | m
      · exact ⟨_, m.2, e3⟩
      · exact ⟨_, m.2, e2⟩
    · rcases in3 (pair_in b1 fb o1) (pair_in d1 fd o2) (fun z => by injection z with z1 z2; exact bd z1) with m | m
      · exact ⟨_, m.1, e3⟩
      · exact ⟨_, m.1, e4⟩
end Pv

namespace Pv
open PySem L2 Evl Pm
theorem nb_far {R W Z : List Nat} {n : Nat} {ps qs : List Pc} (nb : NbOf R W n) (b1 : Bl R Z 0 ps n) (b2 : Bl W Z 0 qs n) : distS qs ≤ distS ps + 1 ∧ distS ps ≤ distS qs + 1 :=
  ⟨far_step _ (Nat.le_refl _) b2 b1 (nb.2.1.back (tot_inv b1.sta.1)), far_step _ (Nat.le_refl _) b1 b2 nb.2.1⟩
theorem dist0 {A B : List Nat} {n : Nat} {ps : List Pc} (b : Bl A B 0 ps n) : distS ps = 0 ↔ A = B := by
  rw [← same_iff b]
  have key : ∀ l : List Pc, (∀ p ∈ l, PcOk p) → (distS l = 0 ↔ ∀ p ∈ l, ¬ 1 < p.1) := by
    intro l
    induction l with
    | nil => exact fun _ => ⟨(fun _ p h => by cases h), fun _ => rfl⟩
    | cons p l ih =>
      intro h
      have ih := ih fun q hq => h q (List.mem_cons_of_mem _ hq)
      have ok := h p (List.mem_cons_self ..)
      have l2 := ok.l2
      have l3 := ok.l3
      have hw := ok.w
      have d : distP p = 0 ↔ ¬ 1 < p.1 := by
        show distI p.1 p.2.1.length = 0 ↔ _
        unfold distI
        by_cases w2 : p.1 = 2
        · rw [if_pos w2]
          have := l2 w2
          omega
        · rw [if_neg w2]
          by_cases w3 : p.1 = 3
          · rw [if_pos w3]
            have := l3 w3
            omega
          · rw [if_neg w3]
            omega
      show distP p + distS l = 0 ↔ _
      constructor
      · intro z q hq
        rcases List.mem_cons.1 hq with e | e
        · rw [e]; exact d.1 (by omega)
        · exact ih.1 (by omega) q e
      · intro z
        have := d.2 (z p (List.mem_cons_self ..))
        have := ih.2 fun q hq => z q (List.mem_cons_of_mem _ hq)
        omega
  exact key ps b.ok
theorem nb_one {R W : List Nat} {n : Nat} {ms : List Pc} (nb : NbOf R W n) (b : Bl R W 0 ms n) : distS ms = 1 := by
  obtain ⟨ts, b4, _⟩ := bl_ex b.sta.2 b.sta.2 rfl
  rw [b.lb] at b4
  have z := (dist0 b4).2 rfl
  have h1 := (nb_far nb b b4).2
  have h2 : distS ms ≠ 0 := fun e => nb.2.2 ((dist0 b).1 e).symm
  omega
theorem mid_ex {A B : List Nat} {n : Nat} {ps : List Pc} (b : Bl A B 0 ps n) : ∃ M : List Nat, M.length = n ∧ ∀ p ∈ ps, MidAt M p := by
  have ch : ∀ x, ∃ y, ∀ p ∈ ps, ∀ k, k < p.2.1.length → gt p.2.1 k = x → y = gt p.2.1 (midI p.1 p.2.1.length p.2.2 k) := fun x => by
    by_cases h : ∃ p ∈ ps, ∃ k, k < p.2.1.length ∧ gt p.2.1 k = x
    · obtain ⟨p, hp, k, hk, e⟩ := h
      refine ⟨gt p.2.1 (midI p.1 p.2.1.length p.2.2 k), fun q hq j hj e2 => ?_⟩
      have : p = q := b.uq (x := x) hp hq (by rw [← e]; exact gt_mem hk) (by rw [← e2]; exact gt_mem hj)
      subst this
      rw [gt_inj (b.ok p hp).nd hk hj (e.trans e2.symm)]
    · exact ⟨0, fun p hp k hk e => absurd ⟨p, hp, k, hk, e⟩ h⟩
  obtain ⟨f, hf⟩ := Classical.axiomOfChoice ch
  refine ⟨(List.range n).map f, by rw [List.length_map, List.length_range], fun p hp k hk => ?_⟩
  have lt := b.lt hp _ (gt_mem hk)
  rw [← hf _ p hp k hk rfl]
  unfold gt
  rw [List.getD_eq_getElem?_getD, List.getElem?_map]
  have lt' : gt p.2.1 k < n := lt
  unfold gt at lt'
  rw [List.getElem?_range lt']
  rfl
theorem rounds_need {ys zs M : List Nat} {ps : List Pc} {n : Nat} (h64 : n ≤ 64) (bl : Bl ys zs 0 ps n) (of : ∀ p ∈ ps, PcOf ys zs p) (lM : M.length = n) (mid : ∀ p ∈ ps, MidAt M p) : (roundsP ys M zs n).length = needN ps ∧ ((roundsP ys M zs n).map List.length).sum = distS ps ∧ (∀ cs ∈ roundsP ys M zs n, 0 < cs.length ∧ cs.length ≤ 200) ∧ ∃ rows, Fol (toI ys) (roundsP ys M zs n) rows (toI zs) := by
  obtain ⟨b0, b1, sm0, sm1⟩ := sub_bl bl of h64 lM mid
  obtain ⟨t1, t2, t3⟩ := two_count bl of h64
  have l0 := parts_crs b0
  have l1 := parts_crs b1
  have r0 := plan_rnd b0 sm0
  have r1 := plan_rnd b1 sm1
  have lim : ∀ qs : List Pc, ∀ (A B : List Nat), Bl A B 0 qs n → crs qs ≤ 64 := fun qs A B b => by
    have key : ∀ l : List Pc, (∀ p ∈ l, PcOk p) → l.length ≤ (l.flatMap (·.2.1)).length := by
      intro l
      induction l with
      | nil => exact fun _ => Nat.le_refl _
      | cons q l ih =>
        intro h
        rw [List.flatMap_cons, List.length_append, List.length_cons]
        have := ih fun p hp => h p (List.mem_cons_of_mem _ hp)
        have := (h q (List.mem_cons_self ..)).pos
        omega
    have h1 := key qs b.ok
    rw [b.perm.length_eq, List.length_range] at h1
    have := List.length_filter_le isCR qs
    unfold crs
    omega
  have lim0 := lim _ _ _ b0
  have lim1 := lim _ _ _ b1
  have need : needN ps = (if 0 < crs (ps.flatMap (subP 0)) then 1 else 0) + if 0 < crs (ps.flatMap (subP 1)) then 1 else 0 := by
    unfold needN
    have a1 : (ps.all fun p => decide (¬ 1 < p.1)) = true ↔ crs (ps.flatMap (subP 1)) = 0 := by
      rw [t2, List.all_eq_true]
      exact ⟨fun h p hp => of_decide_eq_true (h p hp), fun h p hp => decide_eq_true (h p hp)⟩
    have a0 : (ps.all fun p => decide (distP p ≤ 1)) = true ↔ crs (ps.flatMap (subP 0)) = 0 := by
      rw [t3, List.all_eq_true]
      exact ⟨fun h p hp => of_decide_eq_true (h p hp), fun h p hp => decide_eq_true (h p hp)⟩
    by_cases c1 : crs (ps.flatMap (subP 1)) = 0
    · have c0 : crs (ps.flatMap (subP 0)) = 0 := by
        rw [t3]
        intro p hp
        have := (sub_crs (of p hp) (by
          have : p.2.1.length ≤ n := nodup_len (of p hp).ok.nd fun x hx => bl.lt hp x hx
          omega)).2.2 (t2.1 c1 p hp)
        omega
      rw [if_pos (a1.2 c1), if_neg (by omega), if_neg (by omega)]
    · rw [if_neg (fun z => c1 (a1.1 z)), if_pos (show 0 < crs (ps.flatMap (subP 1)) by omega)]
      by_cases c0 : crs (ps.flatMap (subP 0)) = 0
      · rw [if_pos (a0.2 c0), if_neg (by omega)]
      · rw [if_neg (fun z => c0 (a0.1 z)), if_pos (show 0 < crs (ps.flatMap (subP 0)) by omega)]
  have len0 : ((partsF ys M n).map chgR).length = crs (ps.flatMap (subP 0)) := by rw [List.length_map]; exact l0
  have len1 : ((partsF M zs n).map chgR).length = crs (ps.flatMap (subP 1)) := by rw [List.length_map]; exact l1
  have z0 : crs (ps.flatMap (subP 0)) = 0 → toI M = toI ys := fun z => by
    have : (partsF ys M n).map chgR = [] := List.length_eq_zero_iff.1 (by rw [len0]; exact z)
    rw [this] at r0
    have := r0.uniq rnd_nil
    injection this
  have z1 : crs (ps.flatMap (subP 1)) = 0 → toI zs = toI M := fun z => by
    have : (partsF M zs n).map chgR = [] := List.length_eq_zero_iff.1 (by rw [len1]; exact z)
    rw [this] at r1
    have := r1.uniq rnd_nil
    injection this
  unfold roundsP
  rw [List.filter_cons, List.filter_cons, List.filter_nil, len0, len1]
  generalize (partsF ys M n).map chgR = cs0 at *
  generalize (partsF M zs n).map chgR = cs1 at *
  by_cases c0 : 0 < crs (ps.flatMap (subP 0))
  · rw [if_pos (decide_eq_true c0)]
    rw [if_pos c0] at need
    by_cases c1 : 0 < crs (ps.flatMap (subP 1))
    · rw [if_pos (decide_eq_true c1)]
      rw [if_pos c1] at need
      refine ⟨by rw [need]; rfl, by simp only [List.map_cons, List.map_nil, List.sum_cons, List.sum_nil, len0, len1]; omega, fun cs h => ?_, ?_⟩
      · rcases List.mem_cons.1 h with q | q
        · rw [q, len0]; omega
        · rw [List.mem_singleton.1 q, len1]; omega
      · exact ⟨_, Fol.snoc (css := [cs0]) (Fol.snoc (css := []) Fol.nil r0) r1⟩
    · rw [if_neg (by simpa using c1)]
      rw [if_neg c1] at need
      have e := z1 (by omega)
      refine ⟨by rw [need]; rfl, by simp only [List.map_cons, List.map_nil, List.sum_cons, List.sum_nil, len0]; omega, fun cs h => by rw [List.mem_singleton.1 h, len0]; omega, ?_⟩
      rw [e]
      exact ⟨_, Fol.snoc (css := []) Fol.nil r0⟩
  · rw [if_neg (by simpa using c0)]
    rw [if_neg c0] at need
    have e := z0 (by omega)
    by_cases c1 : 0 < crs (ps.flatMap (subP 1))
    · rw [if_pos (decide_eq_true c1)]
      rw [if_pos c1] at need
      refine ⟨by rw [need]; rfl, by simp only [List.map_cons, List.map_nil, List.sum_cons, List.sum_nil, len1]; omega, fun cs h => by rw [List.mem_singleton.1 h, len1]; omega, ?_⟩
      rw [e] at r1
      exact ⟨_, Fol.snoc (css := []) Fol.nil r1⟩
    · rw [if_neg (by simpa using c1)]
      rw [if_neg c1] at need
      refine ⟨by rw [need]; rfl, by simp only [List.map_nil, List.sum_nil]; omega, (fun cs h => by cases h), ?_⟩
      rw [z1 (by omega), e]
      exact ⟨_, Fol.nil⟩
/-- one change of the first round brings the goal nearer -/
theorem step_ex {R Z : List Nat} {n : Nat} {ps : List Pc} (h64 : n ≤ 64) (s : StN R n) (bl : Bl R Z 0 ps n) (of : ∀ p ∈ ps, PcOf R Z p) (ne : distS ps ≠ 0) : ∃ W, NbOf R W n ∧ ∀ qs, Bl W Z 0 qs n → distS qs + 1 = distS ps := by
  obtain ⟨M, lM, mid⟩ := mid_ex bl
  obtain ⟨r0, r1, r2, rows, F⟩ := rounds_need h64 bl of lM mid
  generalize roundsP R M Z n = css at *
  have hx : faultS (toI R) = none := (sta_fault bl.sta.1).2
  match css, r1, r2, F with
  | [], r1, r2, F => exact absurd r1.symm ne
  | cs0 :: rest, r1, r2, F =>
    obtain ⟨es, rows2, h1, h2⟩ := fol_head F rfl
    have pos := (r2 cs0 (List.mem_cons_self ..)).1
    match cs0, pos, h1, r1, F with
    | c :: cs, pos, h1, r1, F =>
      obtain ⟨ws, w⟩ := rnd_sub (ds := [c]) (es := cs) h1 (.refl _)
      have hw := rch_st hx w
      have lw : ws.length = n := by rw [w.2.2.len, toI_len, s.len]
      obtain ⟨sw, ew⟩ := stN_of hw
      rw [lw] at sw
      have st := one_stp hx w
      rw [toI_nat] at st
      have half : ∀ qs, Bl (natI ws) Z 0 qs n → distS qs + 1 = distS ps := fun qs bq => by
        have := half_far (zs := toI Z) hx F rfl (.refl (c :: cs)) w (by rw [toI_nat, toI_nat]; exact bl) (by rw [toI_nat]; exact bq) r1
        exact this
      refine ⟨natI ws, ⟨sw, st, fun z => ?_⟩, half⟩
      have := half ps (by rw [z]; exact bl)
      omega
end Pv

namespace Pv
open PySem L2 Evl Pm
def spSp : Sp := fun vs H Q _ => ∃ (b c l r : Addr) (R Z : List Nat) (n base : Nat), vs = [.ref b, .ref l, .ref r, .int (base : Int)] ∧ Bx H b c ∧ ListN H l R ∧ l ≠ b ∧ ListN H r Z ∧ r ≠ b ∧ StN R n ∧ StN Z n ∧ n ≤ 64 ∧ (∀ ps, Bl R Z 0 ps n → base = distS ps) ∧ ∀ H', Bx H' b c → Mut b H H' → Q (.bl true) H'
end Pv

namespace Pv
open PySem L2 Evl Pm
theorem fol_far2 {Z : List Nat} {n : Nat} {xs : List Int} {css : List (List Chg)} {rows : List (List Int)} {zs : List Int} (hx : faultS xs = none) (f : Fol xs css rows zs) : ∀ {ps qs : List Pc}, Bl (natI xs) Z 0 ps n → Bl (natI zs) Z 0 qs n → distS qs ≤ distS ps + (css.map List.length).sum := by
  induction f with
  | nil =>
    intro ps qs b1 b2
    have := far_one _ (Nat.le_refl _) b1 b2
    omega
  | @snoc css rows ys zs cs f r ih =>
    intro ps qs b1 b2
    obtain ⟨hy, ly, _⟩ := f.st hx
    obtain ⟨ms, b3, _⟩ := bl_ex (faultS_no hy).2 b1.sta.2 (by rw [b1.lb, natI_len, ly, ← natI_len, b1.la])
    rw [natI_len, ly, ← natI_len, b1.la] at b3
    have h1 := ih b1 b3
    have h2 := (path_far cs hy r b3 b2).2
    rw [List.map_append, List.sum_append]
    show _ ≤ _ + (_ + (cs.length + 0))
    omega
/-- a way of as many changes as the distance -/
theorem way_ex {A B : List Nat} {n : Nat} {ps : List Pc} (h64 : n ≤ 64) (bl : Bl A B 0 ps n) (of : ∀ p ∈ ps, PcOf A B p) : ∃ css rows, Fol (toI A) css rows (toI B) ∧ (css.map List.length).sum = distS ps := by
  obtain ⟨M, lM, mid⟩ := mid_ex bl
  obtain ⟨_, r1, _, rows, F⟩ := rounds_need h64 bl of lM mid
  exact ⟨_, rows, F, r1⟩
theorem dist_tri {A B C : List Nat} {n : Nat} {ps qs rs : List Pc} (h64 : n ≤ 64) (ab : Bl A B 0 ps n) (of : ∀ p ∈ ps, PcOf A B p) (bc : Bl B C 0 qs n) (ac : Bl A C 0 rs n) : distS rs ≤ distS ps + distS qs := by
  obtain ⟨css, rows, F, e⟩ := way_ex h64 ab of
  have := fol_far (Z := C) (n := n) (sta_fault ab.sta.1).2 F (ps := rs) (qs := qs) (by rw [toI_nat]; exact ac) (by rw [toI_nat]; exact bc)
  omega
theorem dist_le {A B : List Nat} {n : Nat} {ps qs : List Pc} (h64 : n ≤ 64) (ab : Bl A B 0 ps n) (of : ∀ p ∈ ps, PcOf A B p) (ba : Bl B A 0 qs n) : distS qs ≤ distS ps := by
  obtain ⟨css, rows, F, e⟩ := way_ex h64 ab of
  obtain ⟨ts, b4, _⟩ := bl_ex ab.sta.1 ab.sta.1 rfl
  rw [ab.la] at b4
  have z := (dist0 b4).2 rfl
  have := fol_far2 (Z := A) (n := n) (sta_fault ab.sta.1).2 F (ps := ts) (qs := qs) (by rw [toI_nat]; exact b4) (by rw [toI_nat]; exact ba)
  omega
theorem dist_sym {A B : List Nat} {n : Nat} {ps qs : List Pc} (h64 : n ≤ 64) (ab : Bl A B 0 ps n) (ba : Bl B A 0 qs n) : distS qs = distS ps := by
  obtain ⟨p2, b1, o1⟩ := bl_ex ab.sta.1 ab.sta.2 (by rw [ab.la, ab.lb])
  obtain ⟨q2, b2, o2⟩ := bl_ex ba.sta.1 ba.sta.2 (by rw [ba.la, ba.lb])
  rw [ab.la] at b1
  rw [ba.la] at b2
  have h1 := far_one _ (Nat.le_refl _) ab b1
  have h2 := far_one _ (Nat.le_refl _) ba b2
  have h3 := dist_le h64 b1 o1 b2
  have h4 := dist_le h64 b2 o2 b1
  omega
end Pv

/-! several except clauses with names, of errors without a context -/
namespace L2N
open PySem PySem.Spec PyProof.Rows L2
inductive HdsNN (X : Cx) : List ExceptHandler → List (Value × Option Nat × (Addr → Value → Option Addr → TS)) → Prop
  | nil : HdsNN X [] []
  | cons {x : Str} {c : Value} {ts : Addr → Value → Option Addr → TS} {b₀ : Stmt} {suite : List Stmt} {np pos' : Pos} {hds : List ExceptHandler} {l : List (Value × Option Nat × (Addr → Value → Option Addr → TS))} (hc : Names X x c)
      (hsu : ∀ (a : Addr) (oe : Obj) (cls : Value) (d : Option Addr) (pn : List (Addr × Obj)), Zn cls d oe → (∃ vs, oe.data = .fields vs) → PSs (X.suite a ((a, oe) :: pn)) (b₀ :: suite) (ts a cls d)) (r : HdsNN X hds l) :
      HdsNN X (.ExceptHandler (some (.Name x np)) none (b₀ :: suite) pos' :: hds) ((c, none, ts) :: l)
  | consN {x n : Str} {i : Nat} {c : Value} {ts : Addr → Value → Option Addr → TS} {b₀ : Stmt} {suite : List Stmt} {np pos' : Pos} {hds : List ExceptHandler} {l : List (Value × Option Nat × (Addr → Value → Option Addr → TS))} (hN : X.N.Nodup) (hi : X.N[i]? = some n) (hln : X.env.kindOf n = some .local) (hc : Names X x c)
      (hsu : ∀ (a : Addr) (oe : Obj) (cls : Value) (d : Option Addr) (pn : List (Addr × Obj)), Zn cls d oe → (∃ vs, oe.data = .fields vs) → PSs (X.suite a ((a, oe) :: pn)) (b₀ :: suite) (ts a cls d)) (r : HdsNN X hds l) :
      HdsNN X (.ExceptHandler (some (.Name x np)) (some n) (b₀ :: suite) pos' :: hds) ((c, some i, ts) :: l)
section
variable {X : Cx} {body : List Stmt} {h₀ : ExceptHandler} {hds : List ExceptHandler} {l : List (Value × Option Nat × (Addr → Value → Option Addr → TS))} {pos : Pos} {tb : WX → TS} {Wout : WX}
theorem ps_try_manyNN (hs : X.stack = X.env :: X.outer) (hf : X.env.frame = some X.env.locals) (tk : Takes X Wout)
    (hb : ∀ (W : WX) (pn : List (Addr × Obj)) (xe : Value → Shared → Prop), Takes (X.tr pn xe) W → PassesOwn (model X.prog X.w) X.A X.env xe → PSs (X.tr pn xe) body (tb W))
    (hh : HdsNN X (h₀ :: hds) l) : PS X (.Try body (h₀ :: hds) [] [] pos) (fun D σ H => tb (wManyN X.K Wout D l) D σ H) := by
  refine ⟨fun pins s σ H D I h => ?_⟩
  have ok := I.ok
  have frA : X.A.frames = some (X.env :: X.outer) := by rw [ok.frames, hs]
  refine wpAny_Try_except ?_
  refine wpAny_mono ((hb (wManyN X.K Wout D l) (X.pn ++ pins) (fun e s₁ => wpAny (model X.prog X.w) X.A (noteFrame e X.env) (fun _ s₂ => wpAny (model X.prog X.w) X.A (setFlight e none) (fun _ s₃ =>
    wpAny (model X.prog X.w) X.A (handleBy e X.env (h₀ :: hds)) (SP X pins D) X.xe s₃) X.xe s₂) X.xe s₁) (fun u s' xx => ?_) PassesOwn.looking).run [] s σ H D (I.toTry _) h) (fun f s1 back => ?_) (fun e s1 he => he)
  · -- the catch
    obtain ⟨a, B, sI, pins', σ', H', cls, d, rfl, J', nb, up, sky, na, os, ag, w⟩ := xx
    have J : Inv X pins σ' H' sI := J'.ofTry ok
    have skyE : Sky B (X.env :: X.outer) a (Zn cls d) X.env.locals s'.heap := by rw [← hs]; exact sky
    show wpAny (model X.prog X.w) X.A (noteFrame (.ref a) X.env) _ _ _
    refine Sky.land Zn.steady frA hf skyE fun h3 fz3 ut3 => ?_
    have Jn3 : Inv X pins σ' H' { s' with heap := h3 } := J.landed nb fz3.1 (up.trans ut3) os ag
    obtain ⟨ox3, xs3, ob3, zc3, dt3⟩ := fz3.there
    have aside : ∀ {h : Heap} {o : Obj} {vs : Array Value}, h.FunFrames B (X.env :: X.outer) → h.get? a = some o → o.data = .fields vs → a ∉ frs (X.env :: X.outer) := fun {h o vs} ff e dd hm => by
      obtain ⟨_, o', e', hnf⟩ := ff.mem hm
      rw [e] at e'; cases e'
      exact hnf _ dd
    have offF := aside fz3.2.2.1 ob3 dt3
    have offL : a ≠ X.env.locals := fun z => offF (List.mem_filterMap.mpr ⟨X.env, List.mem_cons_self, by rw [hf, z]⟩)
    have offS : a ∉ X.fs := fun hm => by
      obtain ⟨e, he, q⟩ := List.mem_filterMap.mp hm
      exact offF (List.mem_filterMap.mpr ⟨e, List.mem_cons_of_mem _ he, q⟩)
    have In3 := Jn3.suite ob3 dt3 na offL offS
    have go : ∀ {hds' : List ExceptHandler} {l' : List (Value × Option Nat × (Addr → Value → Option Addr → TS))}, HdsNN X hds' l' → wManyN X.K Wout D l' cls d σ' H' →
        wpAny (model X.prog X.w) X.A (handleBy (.ref a) X.env hds') (SP X pins D) X.xe { s' with heap := h3 } := by
      intro hds' l' hk
      induction hk with
      | nil =>
        intro w
        refine wpAny_handleBy_nil ?_
        obtain ⟨k1, k2, k3, oe, vs, T, oT, ts', he, hz, hd, h1, hr⟩ := id fz3
        unfold PySem.passOn
        refine wpAny_bind (wpAny_field he hd h1 ?_)
        rw [if_neg (show ¬ ((Value.ref T == Value.none) = true) from by simp)]
        have fin : wpAny (model X.prog X.w) X.A (setFlight (.ref a) X.env.frame) (fun _ s4 => wpAny (model X.prog X.w) X.A (throw (.ref a) : Sem Flow) (SP X pins D) X.xe s4) X.xe { s' with heap := h3 } := by
          rw [hf]
          refine HandSPX.setFlight_upZ fz3 fun h4 hh4 ut4 => wpAny_throw (tk _ _ ?_)
          exact ⟨a, B, sI, pins, σ', H', cls, d, rfl, J, nb, (up.trans ut3).trans ut4, .inr (.inr (by rw [hs]; exact hh4)), na, os, ag, w⟩
        first
          | exact wpAny_bind (wpAny_pure (wpAny_bind fin))
          | exact wpAny_bind fin
      | @cons x c ts b₀ suite np pos' hds2 l2 hc hsu r ih =>
        intro w
        obtain ⟨b, hx1, yes, nay⟩ := w
        refine wpAny_handleBy_cons (codeAny_handlers_test ?_) (by intro q; cases q)
        have lkT : PySem.W.Looks (model X.prog X.w) h3 (typeOf (.ref a)) cls := fun A Q E s k q => wpAny_typeOf_ref (k _ _ ob3) (by rw [zc3.1]; exact q)
        have lkM := PySem.W.exm_one (M := model X.prog X.w) (Jn3.kIn) lkT hx1
        have test : ∀ {Q : Value → Shared → Prop} {E : Value → Shared → Prop}, Q c { s' with heap := h3 } → wpAny (model X.prog X.w) (X.A.mark (some (.ref a))) (eval (.Name x np) X.env) Q E { s' with heap := h3 } := fun {Q E} q => by
          obtain ⟨hg, hdbg, hm | ⟨hm, hv, hnn⟩⟩ := hc
          · exact ld_glob (X := X.suite a ((a, ox3) :: (X.pn ++ pins))) In3 hg hm q hdbg
          · exact ld_blt (X := X.suite a ((a, ox3) :: (X.pn ++ pins))) In3 hg hm hv q hnn hdbg
        refine test (lkM.here ?_)
        cases b with
        | true =>
          refine codeAny_handlers_suite ?_
          refine HandSPX.lands_againZ fz3 fun h4 fz4 ut4 => ?_
          have Jn4 : Inv X pins σ' H' { s' with heap := h4 } := J.landed nb fz4.1 ((up.trans ut3).trans ut4) os ag
          obtain ⟨ox4, xs4, ob4, zc4, dt4⟩ := fz4.there
          have In4 := Jn4.suite ob4 dt4 na offL offS
          refine wpAny_mono ((hsu a ox4 cls d (X.pn ++ pins) zc4 ⟨_, dt4⟩).run [] _ _ H' _ In4 (yes rfl a na)) (fun f t6 back => ?_) (fun _ _ z => False.elim z)
          cases f with
          | next =>
            obtain ⟨σb, Hb, Inb, qb⟩ := back
            exact ⟨_, _, Inb.unsuite ok, qb⟩
          | brk =>
            obtain ⟨σb, Hb, Inb, qb⟩ := back
            exact ⟨_, _, Inb.unsuite ok, qb⟩
          | cont =>
            obtain ⟨σb, Hb, Inb, qb⟩ := back
            exact ⟨_, _, Inb.unsuite ok, qb⟩
          | ret u =>
            obtain ⟨vb, σb, Hb, Inb, rb, qb⟩ := back
            exact ⟨_, _, _, Inb.unsuite ok, rb, qb⟩
        | false =>
          show wpAny _ X.A (handleBy (.ref a) X.env hds2) _ _ _
          exact ih (nay rfl)
      | @consN x n i c ts b₀ suite np pos' hds2 l2 hN hi hln hc hsu r ih =>
        intro w
        obtain ⟨b, hx1, yes, nay⟩ := w
        have hloc : Loc X.env.scope n := .inl hln
        refine wpAny_handleBy_cons (codeAny_handlers_test ?_) (by intro q; cases q)
        have lkT : PySem.W.Looks (model X.prog X.w) h3 (typeOf (.ref a)) cls := fun A Q E s k q => wpAny_typeOf_ref (k _ _ ob3) (by rw [zc3.1]; exact q)
        have lkM := PySem.W.exm_one (M := model X.prog X.w) (Jn3.kIn) lkT hx1
        have test : ∀ {Q : Value → Shared → Prop} {E : Value → Shared → Prop}, Q c { s' with heap := h3 } → wpAny (model X.prog X.w) (X.A.mark (some (.ref a))) (eval (.Name x np) X.env) Q E { s' with heap := h3 } := fun {Q E} q => by
          obtain ⟨hg, hdbg, hm | ⟨hm, hv, hnn⟩⟩ := hc
          · exact ld_glob (X := X.suite a ((a, ox3) :: (X.pn ++ pins))) In3 hg hm q hdbg
          · exact ld_blt (X := X.suite a ((a, ox3) :: (X.pn ++ pins))) In3 hg hm hv q hnn hdbg
        refine test (lkM.here ?_)
        cases b with
        | true =>
          refine codeAny_handlers_suite_as ?_
          refine HandSPX.lands_againZ fz3 fun h4 fz4 ut4 => ?_
          have Jn4 : Inv X pins σ' H' { s' with heap := h4 } := J.landed nb fz4.1 ((up.trans ut3).trans ut4) os ag
          obtain ⟨ox4, xs4, ob4, zc4, dt4⟩ := fz4.there
          have In4 := Jn4.suite ob4 dt4 na offL offS
          refine store_ok (X := X.suite a ((a, ox4) :: (X.pn ++ pins))) (v := .ref a) In4 hN hi hloc rfl (fun t5 In5 => ?_) (.inr hln)
          refine wpAny_mono ((hsu a ox4 cls d (X.pn ++ pins) zc4 ⟨_, dt4⟩).run [] t5 _ H' _ In5 (yes rfl a na)) (fun f t6 back => ?_) (fun _ _ z => False.elim z)
          have gone : ∀ {σb : St} {Hb : Hp} {Q : Shared → Prop}, Inv (X.suite a ((a, ox4) :: (X.pn ++ pins))) [] σb Hb t6 → (∀ s7, Inv X pins (σb.set i none) Hb s7 → Q s7) →
              wpAny (model X.prog X.w) X.A (do bindName X.env n .none; unbindBehindTheSuite X.env n pos') (fun _ s7 => Q s7) X.xe t6 := fun {σb Hb Q} Inb hq => gone_ok (Inb.unsuite ok) hN hi hln hq
          cases f with
          | next =>
            obtain ⟨σb, Hb, Inb, qb⟩ := back
            exact gone Inb fun s7 J7 => ⟨_, _, J7, qb⟩
          | brk =>
            obtain ⟨σb, Hb, Inb, qb⟩ := back
            exact gone Inb fun s7 J7 => ⟨_, _, J7, qb⟩
          | cont =>
            obtain ⟨σb, Hb, Inb, qb⟩ := back
            exact gone Inb fun s7 J7 => ⟨_, _, J7, qb⟩
          | ret u =>
            obtain ⟨vb, σb, Hb, Inb, rb, qb⟩ := back
            exact gone Inb fun s7 J7 => ⟨_, _, _, J7, rb, qb⟩
        | false =>
          show wpAny _ X.A (handleBy (.ref a) X.env hds2) _ _ _
          exact ih (nay rfl)
    exact go hh w
  · cases f with
    | next =>
      obtain ⟨σ', H', J', q⟩ := back
      exact wpAny_execs_nil ⟨σ', H', J'.ofTry ok, q⟩
    | brk =>
      obtain ⟨σ', H', J', q⟩ := back
      exact ⟨σ', H', J'.ofTry ok, q⟩
    | cont =>
      obtain ⟨σ', H', J', q⟩ := back
      exact ⟨σ', H', J'.ofTry ok, q⟩
    | ret u =>
      obtain ⟨v, σ', H', J', r, q⟩ := back
      exact ⟨v, σ', H', J'.ofTry ok, r, q⟩
end
def lstR (K : PySem.W.Frag) : List V → Hp → VK → Prop := fun xs H Q => ∃ p ys, xs = [.ref p] ∧ (SqL K H p ys ∨ SqT K H p ys) ∧ ∀ l, H l = none → Q (.ref l) (upd H l (.lst ys))
theorem call_listK {X : Cx} {K : PySem.W.Frag} (h : X.K = K) : CallR X (.type "list") (lstR K) := by
  subst h
  exact call_list_of
end L2N

namespace StK
open PySem L2
/-- == of two shaped things, told of K -/
theorem op_eqDK {X : Cx} {K : PySem.W.Frag} (h : X.K = K) (hu : X.A.units + 64 < cLine) : OpR X (compareOp .Eq) (rEqD K) := h ▸ op_eqD hu
end StK
namespace StK
open PySem L2
/-- list.count within a comprehension -/
theorem pe_countK {X : Cx} {K : PySem.W.Frag} (h : X.K = K) {o e : Expr} {to te : TE} {apos cpos : Pos} (p : PE X (.Call (.Attribute o "count" apos) [e] [] cpos) (tBM X.K "list" (rCntI X.K) to (tCons te tNil))) : PE X (.Call (.Attribute o "count" apos) [e] [] cpos) (tBM K "list" (rCntI K) to (tCons te tNil)) := by
  subst h
  exact p
end StK

namespace Pv
open PySem L2 Evl Pm
local macro_rules | `(tactic| walk_at "r1") => `(tactic| first
  | refine ⟨_, rfl, ?_⟩
  | refine ⟨rfl, ?_⟩
  | refine ⟨_, _, rfl, rfl, (show (_ : Prop) from by first | decide | omega | assumption | exact Or.inr ⟨by decide, by decide⟩ | exact Or.inl ⟨by omega, by omega⟩ | exact ⟨by decide, by decide, by decide⟩ | exact ⟨by decide, by decide⟩ | exact wide_div (b := 60) (by omega) (by omega) (by decide) (by decide)), ?_⟩
  | refine ⟨_, _, rfl, rfl, ?_⟩
  | refine ⟨_, _, _, _, rfl, rfl, (show (_ : Prop) from by first | exact SqL.of (by assumption) | exact SqL.of upd_same | assumption | exact upd_same), rfl, ?_⟩
  | refine Or.inl ⟨_, rfl, ?_⟩)
local macro_rules | `(tactic| walk_at "ex") => `(tactic| first | exact Ex.refl _ | assumption | (refine ex_new ?_ (by assumption); walk_at "ex"))
local macro_rules | `(tactic| walk_at "r") => `(tactic| repeat (walk_at "r1"))

section
variable {P : Program} {w : World} {K : PySem.W.Frag} {mg : Str → Option Value} {base : Heap} {A : Ad}
theorem ref_at {ts : List Addr} {i : Nat} {x : V} (h : (ts.map V.ref)[i]? = some x) : ∃ t, ts[i]? = some t ∧ x = V.ref t := by
  rw [List.getElem?_map] at h
  cases z : ts[i]? with
  | none => rw [z] at h; cases h
  | some y => rw [z] at h; exact ⟨y, rfl, (Option.some.inj h).symm⟩
theorem atR {ts : List Addr} {i : Nat} {t : Addr} (h : ts[i]? = some t) : atI (ts.map V.ref) (i : Int) = some (V.ref t) := atI_nat (by rw [List.getElem?_map, h]; rfl)
theorem app_at {α β : Type} {R : α → β → Prop} {us : List α} {fs : List β} {t : α} {e : β} (ul : us.length = fs.length) (h : ∀ (k : Nat) (a : α) (b : β), us[k]? = some a → fs[k]? = some b → R a b) (h1 : R t e)   : ∀ (k : Nat) (a : α) (b : β), (us ++ [t])[k]? = some a → (fs ++ [e])[k]? = some b → R a b := by
  intro k a b ha hb
  by_cases c : k < us.length
  · rw [List.getElem?_append_left c] at ha
    rw [List.getElem?_append_left (by omega)] at hb
    exact h k a b ha hb
  · rw [List.getElem?_append_right (by omega)] at ha
    rw [List.getElem?_append_right (by omega), ← ul] at hb
    match hz : k - us.length with
    | 0 =>
      rw [hz] at ha hb
      have ha := Option.some.inj ha
      have hb := Option.some.inj hb
      rw [← ha, ← hb]
      exact h1
    | z + 1 =>
      rw [hz] at ha
      cases ha
theorem ins_at {α β : Type} {R : α → β → Prop} {us : List α} {fs : List β} {t : α} {e : β} {j : Nat} (ul : us.length = fs.length) (hj : j ≤ us.length) (h : ∀ (k : Nat) (a : α) (b : β), us[k]? = some a → fs[k]? = some b → R a b) (h1 : R t e)   : ∀ (k : Nat) (a : α) (b : β), (us.take j ++ [t] ++ us.drop j)[k]? = some a → (fs.take j ++ [e] ++ fs.drop j)[k]? = some b → R a b := by
  intro k a b ha hb
  rw [List.append_assoc, List.getElem?_append, List.length_take, Nat.min_eq_left hj] at ha
  rw [List.append_assoc, List.getElem?_append, List.length_take, Nat.min_eq_left (by omega)] at hb
  by_cases c : k < j
  · rw [if_pos c, List.getElem?_take_of_lt c] at ha hb
    exact h k a b ha hb
  · rw [if_neg c] at ha hb
    match hz : k - j with
    | 0 =>
      rw [hz] at ha hb
      have ha := Option.some.inj ha
      have hb := Option.some.inj hb
      rw [← ha, ← hb]
      exact h1
    | z + 1 =>
      rw [hz] at ha hb
      have ha : (us.drop j)[z]? = some a := ha
      have hb : (fs.drop j)[z]? = some b := hb
      rw [List.getElem?_drop] at ha hb
      exact h _ a b ha hb
theorem w4_eq {i j : Nat} (hi : i < 4) (hj : j < 4) : decide (V.str (w4 i) = V.str (w4 j)) = decide (i = j) := by
  by_cases c : i = j
  · rw [c, decide_eq_true rfl, decide_eq_true rfl]
  · rw [decide_eq_false c, decide_eq_false]
    intro h
    injection h with h
    have all : ∀ i, i < 4 → ∀ j, j < 4 → i ≠ j → w4 i ≠ w4 j := by decide +kernel
    exact all i hi j hj c h
theorem w4_pair {i : Nat} (hi : i < 4) : decide (V.str (w4 i) = V.str (Str.ofString "pair")) = decide (i = 1) := w4_eq (j := 1) hi (by decide)
theorem w4_chain {i : Nat} (hi : i < 4) : decide (V.str (w4 i) = V.str (Str.ofString "chain")) = decide (i = 2) := w4_eq (j := 2) hi (by decide)
theorem w4_ring {i : Nat} (hi : i < 4) : decide (V.str (w4 i) = V.str (Str.ofString "ring")) = decide (i = 3) := w4_eq (j := 3) hi (by decide)
end

section
variable {P : Program} {w : World} {K : PySem.W.Frag} {mg : Str → Option Value} {base : Heap} {A : Ad}
theorem markV_int {xs : List Int} {i : Nat} {y : V} (h : (xs.map V.int)[i]? = some y) : ∃ z, xs[i]? = some z ∧ y = V.int z := by
  rw [List.getElem?_map] at h
  cases e : xs[i]? with
  | none => rw [e] at h; cases h
  | some z =>
    rw [e] at h
    exact ⟨z, rfl, (Option.some.inj h).symm⟩
end

section
variable {P : Program} {w : World} {K : PySem.W.Frag} {mg : Str → Option Value} {base : Heap} {A : Ad}
theorem oke_law_alone (T : Txt K mg A)   : Oke P w K mg base 1 A.law_alone P_law_alone (seAl A) := by
  obtain ⟨fd, F⟩ := T.d_law_alone

  refine ⟨fd, HotE.okE F sc_law_alone (fun a c d vs H Q E h => ?_) (fun cdv A' outer s H vs Q E p c d hot zc hr h => ?_), F.binds fun _ _ _ _ _ _ us hl => match us, hl with | [_], _ => rfl⟩
  · obtain ⟨rfl, _⟩ := h
    rfl
  · obtain ⟨rfl, kn, k⟩ := h
    refine ⟨_, (pss_cons (ps_set (i := 1) sc_law_alone.nd rfl (Or.inl rfl) (pe_op op_add (pe_callTy call_int1 (by rfl) T.n_int (by decide +kernel) (pa_cons (pe_callB (HotE.call_isP (K := K) rfl ⟨p.2, ⟨hot.1, hot.2⟩, List.mem_cons_self, zc⟩) (by rfl) T.n_isinstance (by decide +kernel) (pa_cons (pv 0) (pa_cons (pe_glob (v := .ref A.InvalidImage) rfl T.e_InvalidImage.g rfl) pa_nil))) pa_nil)) (pe_callTy call_int1 (by rfl) T.n_int (by decide +kernel) (pa_cons (pe_callB (HotE.call_isP (K := K) rfl ⟨p.2, ⟨hot.1, hot.2⟩, List.mem_cons_self, zc⟩) (by rfl) T.n_isinstance (by decide +kernel) (pa_cons (pv 0) (pa_cons (pe_glob (v := .ref A.NotState) rfl T.e_NotState.g rfl) pa_nil))) pa_nil))))
      (pss_cons (ps_set (i := 1) sc_law_alone.nd rfl (Or.inl rfl) (pe_op op_add (pe_op op_add (pv 1) (pe_callTy call_int1 (by rfl) T.n_int (by decide +kernel) (pa_cons (pe_callB (HotE.call_isP (K := K) rfl ⟨p.2, ⟨hot.1, hot.2⟩, List.mem_cons_self, zc⟩) (by rfl) T.n_isinstance (by decide +kernel) (pa_cons (pv 0) (pa_cons (pe_glob (v := .ref A.UnequalSizes) rfl T.e_UnequalSizes.g rfl) pa_nil))) pa_nil))) (pe_callTy call_int1 (by rfl) T.n_int (by decide +kernel) (pa_cons (pe_callB (HotE.call_isP (K := K) rfl ⟨p.2, ⟨hot.1, hot.2⟩, List.mem_cons_self, zc⟩) (by rfl) T.n_isinstance (by decide +kernel) (pa_cons (pv 0) (pa_cons (pe_glob (v := .ref A.InvalidChange) rfl T.e_InvalidChange.g rfl) pa_nil))) pa_nil))))
      (pss_cons (ps_set (i := 1) sc_law_alone.nd rfl (Or.inl rfl) (pe_op op_add (pv 1) (pe_callTy call_int1 (by rfl) T.n_int (by decide +kernel) (pa_cons (pe_callB (HotE.call_isP (K := K) rfl ⟨p.2, ⟨hot.1, hot.2⟩, List.mem_cons_self, zc⟩) (by rfl) T.n_isinstance (by decide +kernel) (pa_cons (pv 0) (pa_cons (pe_glob (v := .ref A.Busy) rfl T.e_Busy.g rfl) pa_nil))) pa_nil))))
      (pss_one (ps_ret (pe_and (pe_cmpR op_eq (pv 1) pe_int (nomark _)) (pe_and (pe_callB (HotE.call_isP (K := K) rfl ⟨p.2, ⟨hot.1, hot.2⟩, List.mem_cons_self, zc⟩) (by rfl) T.n_isinstance (by decide +kernel) (pa_cons (pv 0) (pa_cons (pe_glob (v := .ref A.MendError) rfl T.e_MendError.g rfl) pa_nil))) (pe_one (pe_callB (HotE.call_isP (K := K) rfl ⟨p.2, ⟨hot.1, hot.2⟩, List.mem_cons_self, zc⟩) (by rfl) T.n_isinstance (by decide +kernel) (pa_cons (pv 0) (pa_cons (pe_bltn (v := .ty "ValueError") (u := .type "ValueError") (by rfl) T.n_ValueError (by decide +kernel) rfl) pa_nil))))))))))), ?_⟩
    obtain ⟨hc, hd⟩ := kn
    rcases hc with rfl | rfl | rfl | rfl | rfl
    · refine ⟨_, rfl, A.InvalidImage, _, _, true, rfl, rfl, hd, T.e_InvalidImage.exc T.cn T.ct, ClsV.own _, kit_self, .inr ⟨_, rfl, _, rfl, A.InvalidImage, _, _, false, rfl, rfl, hd, T.e_InvalidImage.exc T.cn T.ct, ClsV.own _, T.e_InvalidImage.kit_ne T.e_NotState (ne_ix T.nd 1 2 rfl rfl (by decide)) (ne_ix T.nd 0 2 rfl rfl (by decide)), .inr ⟨_, rfl, _, _, rfl, rfl, ?_⟩⟩⟩
      refine ⟨_, rfl, _, rfl, A.InvalidImage, _, _, false, rfl, rfl, hd, T.e_InvalidImage.exc T.cn T.ct, ClsV.own _, T.e_InvalidImage.kit_ne T.e_UnequalSizes (ne_ix T.nd 1 4 rfl rfl (by decide)) (ne_ix T.nd 0 4 rfl rfl (by decide)), .inr ⟨_, rfl, _, _, rfl, rfl, _, rfl, A.InvalidImage, _, _, false, rfl, rfl, hd, T.e_InvalidImage.exc T.cn T.ct, ClsV.own _, T.e_InvalidImage.kit_ne T.e_InvalidChange (ne_ix T.nd 1 5 rfl rfl (by decide)) (ne_ix T.nd 0 5 rfl rfl (by decide)), .inr ⟨_, rfl, _, _, rfl, rfl, ?_⟩⟩⟩
      refine ⟨_, rfl, _, rfl, A.InvalidImage, _, _, false, rfl, rfl, hd, T.e_InvalidImage.exc T.cn T.ct, ClsV.own _, T.e_InvalidImage.kit_ne T.e_Busy (ne_ix T.nd 1 3 rfl rfl (by decide)) (ne_ix T.nd 0 3 rfl rfl (by decide)), .inr ⟨_, rfl, _, _, rfl, rfl, ?_⟩⟩
      refine ⟨_, rfl, rfl, _, rfl, ifT (decide_eq_true rfl) ?_⟩
      refine ⟨_, rfl, A.InvalidImage, _, _, true, rfl, rfl, hd, T.e_InvalidImage.exc T.cn T.ct, ClsV.own _, T.e_InvalidImage.kit_base T.e_MendError (ne_ix T.nd 1 0 rfl rfl (by decide)), _, rfl, iteT ?_⟩
      exact ⟨_, rfl, A.InvalidImage, _, _, true, rfl, rfl, hd, T.e_InvalidImage.exc T.cn T.ct, ClsV.ty "ValueError", T.e_InvalidImage.kit_ve, k⟩
    · refine ⟨_, rfl, A.NotState, _, _, false, rfl, rfl, hd, T.e_NotState.exc T.cn T.ct, ClsV.own _, T.e_NotState.kit_ne T.e_InvalidImage (ne_ix T.nd 2 1 rfl rfl (by decide)) (ne_ix T.nd 0 1 rfl rfl (by decide)), .inr ⟨_, rfl, _, rfl, A.NotState, _, _, true, rfl, rfl, hd, T.e_NotState.exc T.cn T.ct, ClsV.own _, kit_self, .inr ⟨_, rfl, _, _, rfl, rfl, ?_⟩⟩⟩
      refine ⟨_, rfl, _, rfl, A.NotState, _, _, false, rfl, rfl, hd, T.e_NotState.exc T.cn T.ct, ClsV.own _, T.e_NotState.kit_ne T.e_UnequalSizes (ne_ix T.nd 2 4 rfl rfl (by decide)) (ne_ix T.nd 0 4 rfl rfl (by decide)), .inr ⟨_, rfl, _, _, rfl, rfl, _, rfl, A.NotState, _, _, false, rfl, rfl, hd, T.e_NotState.exc T.cn T.ct, ClsV.own _, T.e_NotState.kit_ne T.e_InvalidChange (ne_ix T.nd 2 5 rfl rfl (by decide)) (ne_ix T.nd 0 5 rfl rfl (by decide)), .inr ⟨_, rfl, _, _, rfl, rfl, ?_⟩⟩⟩
      refine ⟨_, rfl, _, rfl, A.NotState, _, _, false, rfl, rfl, hd, T.e_NotState.exc T.cn T.ct, ClsV.own _, T.e_NotState.kit_ne T.e_Busy (ne_ix T.nd 2 3 rfl rfl (by decide)) (ne_ix T.nd 0 3 rfl rfl (by decide)), .inr ⟨_, rfl, _, _, rfl, rfl, ?_⟩⟩
      refine ⟨_, rfl, rfl, _, rfl, ifT (decide_eq_true rfl) ?_⟩
      refine ⟨_, rfl, A.NotState, _, _, true, rfl, rfl, hd, T.e_NotState.exc T.cn T.ct, ClsV.own _, T.e_NotState.kit_base T.e_MendError (ne_ix T.nd 2 0 rfl rfl (by decide)), _, rfl, iteT ?_⟩
      exact ⟨_, rfl, A.NotState, _, _, true, rfl, rfl, hd, T.e_NotState.exc T.cn T.ct, ClsV.ty "ValueError", T.e_NotState.kit_ve, k⟩
    · refine ⟨_, rfl, A.InvalidChange, _, _, false, rfl, rfl, hd, T.e_InvalidChange.exc T.cn T.ct, ClsV.own _, T.e_InvalidChange.kit_ne T.e_InvalidImage (ne_ix T.nd 5 1 rfl rfl (by decide)) (ne_ix T.nd 0 1 rfl rfl (by decide)), .inr ⟨_, rfl, _, rfl, A.InvalidChange, _, _, false, rfl, rfl, hd, T.e_InvalidChange.exc T.cn T.ct, ClsV.own _, T.e_InvalidChange.kit_ne T.e_NotState (ne_ix T.nd 5 2 rfl rfl (by decide)) (ne_ix T.nd 0 2 rfl rfl (by decide)), .inr ⟨_, rfl, _, _, rfl, rfl, ?_⟩⟩⟩
      refine ⟨_, rfl, _, rfl, A.InvalidChange, _, _, false, rfl, rfl, hd, T.e_InvalidChange.exc T.cn T.ct, ClsV.own _, T.e_InvalidChange.kit_ne T.e_UnequalSizes (ne_ix T.nd 5 4 rfl rfl (by decide)) (ne_ix T.nd 0 4 rfl rfl (by decide)), .inr ⟨_, rfl, _, _, rfl, rfl, _, rfl, A.InvalidChange, _, _, true, rfl, rfl, hd, T.e_InvalidChange.exc T.cn T.ct, ClsV.own _, kit_self, .inr ⟨_, rfl, _, _, rfl, rfl, ?_⟩⟩⟩
      refine ⟨_, rfl, _, rfl, A.InvalidChange, _, _, false, rfl, rfl, hd, T.e_InvalidChange.exc T.cn T.ct, ClsV.own _, T.e_InvalidChange.kit_ne T.e_Busy (ne_ix T.nd 5 3 rfl rfl (by decide)) (ne_ix T.nd 0 3 rfl rfl (by decide)), .inr ⟨_, rfl, _, _, rfl, rfl, ?_⟩⟩
      refine ⟨_, rfl, rfl, _, rfl, ifT (decide_eq_true rfl) ?_⟩
      refine ⟨_, rfl, A.InvalidChange, _, _, true, rfl, rfl, hd, T.e_InvalidChange.exc T.cn T.ct, ClsV.own _, T.e_InvalidChange.kit_base T.e_MendError (ne_ix T.nd 5 0 rfl rfl (by decide)), _, rfl, iteT ?_⟩
      exact ⟨_, rfl, A.InvalidChange, _, _, true, rfl, rfl, hd, T.e_InvalidChange.exc T.cn T.ct, ClsV.ty "ValueError", T.e_InvalidChange.kit_ve, k⟩
    · refine ⟨_, rfl, A.Busy, _, _, false, rfl, rfl, hd, T.e_Busy.exc T.cn T.ct, ClsV.own _, T.e_Busy.kit_ne T.e_InvalidImage (ne_ix T.nd 3 1 rfl rfl (by decide)) (ne_ix T.nd 0 1 rfl rfl (by decide)), .inr ⟨_, rfl, _, rfl, A.Busy, _, _, false, rfl, rfl, hd, T.e_Busy.exc T.cn T.ct, ClsV.own _, T.e_Busy.kit_ne T.e_NotState (ne_ix T.nd 3 2 rfl rfl (by decide)) (ne_ix T.nd 0 2 rfl rfl (by decide)), .inr ⟨_, rfl, _, _, rfl, rfl, ?_⟩⟩⟩
      refine ⟨_, rfl, _, rfl, A.Busy, _, _, false, rfl, rfl, hd, T.e_Busy.exc T.cn T.ct, ClsV.own _, T.e_Busy.kit_ne T.e_UnequalSizes (ne_ix T.nd 3 4 rfl rfl (by decide)) (ne_ix T.nd 0 4 rfl rfl (by decide)), .inr ⟨_, rfl, _, _, rfl, rfl, _, rfl, A.Busy, _, _, false, rfl, rfl, hd, T.e_Busy.exc T.cn T.ct, ClsV.own _, T.e_Busy.kit_ne T.e_InvalidChange (ne_ix T.nd 3 5 rfl rfl (by decide)) (ne_ix T.nd 0 5 rfl rfl (by decide)), .inr ⟨_, rfl, _, _, rfl, rfl, ?_⟩⟩⟩
      refine ⟨_, rfl, _, rfl, A.Busy, _, _, true, rfl, rfl, hd, T.e_Busy.exc T.cn T.ct, ClsV.own _, kit_self, .inr ⟨_, rfl, _, _, rfl, rfl, ?_⟩⟩
      refine ⟨_, rfl, rfl, _, rfl, ifT (decide_eq_true rfl) ?_⟩
      refine ⟨_, rfl, A.Busy, _, _, true, rfl, rfl, hd, T.e_Busy.exc T.cn T.ct, ClsV.own _, T.e_Busy.kit_base T.e_MendError (ne_ix T.nd 3 0 rfl rfl (by decide)), _, rfl, iteT ?_⟩
      exact ⟨_, rfl, A.Busy, _, _, true, rfl, rfl, hd, T.e_Busy.exc T.cn T.ct, ClsV.ty "ValueError", T.e_Busy.kit_ve, k⟩
    · refine ⟨_, rfl, A.UnequalSizes, _, _, false, rfl, rfl, hd, T.e_UnequalSizes.exc T.cn T.ct, ClsV.own _, T.e_UnequalSizes.kit_ne T.e_InvalidImage (ne_ix T.nd 4 1 rfl rfl (by decide)) (ne_ix T.nd 0 1 rfl rfl (by decide)), .inr ⟨_, rfl, _, rfl, A.UnequalSizes, _, _, false, rfl, rfl, hd, T.e_UnequalSizes.exc T.cn T.ct, ClsV.own _, T.e_UnequalSizes.kit_ne T.e_NotState (ne_ix T.nd 4 2 rfl rfl (by decide)) (ne_ix T.nd 0 2 rfl rfl (by decide)), .inr ⟨_, rfl, _, _, rfl, rfl, ?_⟩⟩⟩
      refine ⟨_, rfl, _, rfl, A.UnequalSizes, _, _, true, rfl, rfl, hd, T.e_UnequalSizes.exc T.cn T.ct, ClsV.own _, kit_self, .inr ⟨_, rfl, _, _, rfl, rfl, _, rfl, A.UnequalSizes, _, _, false, rfl, rfl, hd, T.e_UnequalSizes.exc T.cn T.ct, ClsV.own _, T.e_UnequalSizes.kit_ne T.e_InvalidChange (ne_ix T.nd 4 5 rfl rfl (by decide)) (ne_ix T.nd 0 5 rfl rfl (by decide)), .inr ⟨_, rfl, _, _, rfl, rfl, ?_⟩⟩⟩
      refine ⟨_, rfl, _, rfl, A.UnequalSizes, _, _, false, rfl, rfl, hd, T.e_UnequalSizes.exc T.cn T.ct, ClsV.own _, T.e_UnequalSizes.kit_ne T.e_Busy (ne_ix T.nd 4 3 rfl rfl (by decide)) (ne_ix T.nd 0 3 rfl rfl (by decide)), .inr ⟨_, rfl, _, _, rfl, rfl, ?_⟩⟩
      refine ⟨_, rfl, rfl, _, rfl, ifT (decide_eq_true rfl) ?_⟩
      refine ⟨_, rfl, A.UnequalSizes, _, _, true, rfl, rfl, hd, T.e_UnequalSizes.exc T.cn T.ct, ClsV.own _, T.e_UnequalSizes.kit_base T.e_MendError (ne_ix T.nd 4 0 rfl rfl (by decide)), _, rfl, iteT ?_⟩
      exact ⟨_, rfl, A.UnequalSizes, _, _, true, rfl, rfl, hd, T.e_UnequalSizes.exc T.cn T.ct, ClsV.ty "ValueError", T.e_UnequalSizes.kit_ve, k⟩

end

section
variable {P : Program} {w : World} {K : PySem.W.Frag} {mg : Str → Option Value} {base : Heap} {A : Ad}
theorem ok_law_bag (T : Txt K mg A)   : Okd P w K mg base CX0 1 A.law_bag P_law_bag (spBg K) := by
  obtain ⟨fd, F⟩ := T.d_law_bag

  refine ⟨fd, F.ok sc_law_bag (fun vs H Q E h => ?_) (fun cdv A' outer s H vs Q E hr h => ?_), F.binds fun _ _ _ _ _ _ us hl => match us, hl with | [_], _ => rfl⟩
  · obtain ⟨a, ns, rfl, _⟩ := h
    rfl
  · obtain ⟨a, ns, rfl, hs, hl, k⟩ := h
    refine ⟨_, (pss_cons (ps_setLc (i := 1) (own := [("cell", 3)]) (tt := tYes) (by rfl) sc_law_bag.nd rfl rfl (sw_true rfl rfl rfl (by decide +kernel)) (pi_list (pe_slice sl_list (pv 0) po_none (po_some pe_int))) (blkOk_by (own := [("cell", 3)]) (N := N_law_bag) (sc := defScope s_law_bag) (by decide +kernel)) (fun _ _ _ _ _ => (pg_name (i := 3) sc_law_bag.nd rfl (Or.inl rfl))) (fun _ _ _ _ _ => pts_nil) (fun _ _ _ _ _ => (pe_callTy call_int1 (by rfl) T.n_int (by decide +kernel) (pa_cons (pv 3) pa_nil))))
      (pss_cons (ps_set (i := 2) sc_law_bag.nd rfl (Or.inl rfl) pe_int)
      (pss_cons (ps_for PassesOwn.never rfl (pi_list (pv 1)) (pg_name (i := 3) sc_law_bag.nd rfl (Or.inl rfl)) (pss_one (ps_set (i := 2) sc_law_bag.nd rfl (Or.inl rfl) (pe_op op_mod (pe_callTy call_int1 (by rfl) T.n_int (by decide +kernel) (pa_cons (pe_op op_add (pe_op op_add (pe_op op_mul (pv 2) pe_int) (pe_op op_mul (pv 3) pe_int)) pe_int) pa_nil)) pe_int))))
      (pss_one (ps_ret (pe_lst (pa_cons (pv 1) (pa_cons pe_int (pa_cons pe_int (pa_cons (pv 2) (pa_cons pe_int pa_nil))))))))))), ?_⟩
    have cutA : cutV (ns.map V.int) none (some (63 : Int)) = ns.map V.int := by
      unfold cutV
      rw [show HT.sIx (ns.map V.int).length 0 none = 0 from rfl, show HT.sIx (ns.map V.int).length (ns.map V.int).length (some (63 : Int)) = min 63 (ns.map V.int).length from HT.sIx_nat _ _ 63, List.drop_zero, Nat.sub_zero]
      exact List.take_of_length_le (by rw [List.length_map]; omega)
    refine ⟨_, rfl, _, rfl, a, _, rfl, hs, fun l1 hl1 => ?_⟩
    rw [cutA]
    have e1 := Ex.new (o := .lst (ns.map V.int)) hl1
    have h1 : upd H l1 (.lst (ns.map V.int)) l1 = some (.lst (ns.map V.int)) := upd_same
    generalize upd H l1 (.lst (ns.map V.int)) = H1 at e1 h1 ⊢
    refine ⟨l1, rfl, ⟨_, SqL.of h1⟩, fun C hC => ?_⟩
    refine lc_list (K := K) (a := l1) (xs := ns.map V.int) (fun j G => Ex H1 G ∧ G C = some (.lst ((ns.take j).map V.int))) ⟨Ex.new hC, upd_same⟩ (fun j G _ q => SqL.of (q.1 _ _ h1)) ?_ ?_
    · rintro j x G hx ⟨e, hd⟩
      obtain ⟨z, hz, rfl⟩ := markV_int hx
      refine ⟨rfl, _, rfl, Or.inl ⟨z, rfl, ?_⟩⟩
      refine ⟨_, hd, small1000 (by rw [List.length_map, List.length_take]; omega), fun x o ho => ?_, ?_⟩
      · rw [upd_ne (ne_of_none ho hC)]
        exact e _ _ ho
      · rw [upd_same, List.take_add_one, hz, List.map_append]
        rfl
    rintro G ⟨e, hd⟩
    rw [List.length_map, List.take_length] at hd
    have e2 := e1.trans e
    have fC := back_none e1 hC
    refine ⟨_, rfl, C, rfl, ⟨_, SqL.of hd⟩, for_list (K := K) (a := C) (xs := ns.map V.int) (fun i σ G' => ∃ (v3 : Option V) (sd : Int), σ = [some (.ref a), some (.ref C), some (.int sd), v3] ∧ G' = G) ⟨none, 5305, rfl, rfl⟩ (fun i σ G' _ ⟨_, _, _, e⟩ => by rw [e]; exact SqL.of hd) ?_ ?_⟩
    · rintro i x σ G' hx ⟨v3, sd, rfl, rfl⟩
      obtain ⟨z, hz, rfl⟩ := markV_int hx
      walk_at "r"
      exact ⟨_, _, rfl, rfl⟩
    rintro σ G' ⟨v3, sd, rfl, rfl⟩
    refine ⟨_, rfl, _, rfl, (by show 5 ≤ sizeLine; decide), fun b hb => ?_⟩
    have e3 := Ex.new (o := .lst [V.ref C, V.int 0, V.int 0, V.int sd, V.int 0]) hb
    exact k b C _ (back_none e2 hb) fC (e2.trans e3) ⟨ns, 0, 0, sd, 0, upd_same, e3 _ _ hd, by decide, by decide⟩

end

section
variable {P : Program} {w : World} {K : PySem.W.Frag} {mg : Str → Option Value} {base : Heap} {A : Ad}
def ad (u v : Addr) (j : Nat) : Addr := if j = 0 then u else v
theorem ad_mem {u v : Addr} (j : Nat) : ad u v j = u ∨ ad u v j = v := by
  unfold ad
  split
  · exact .inl rfl
  · exact .inr rfl
theorem ad_ne {u v : Addr} (h : u ≠ v) {i j : Nat} (hi : i < 2) (hj : j < 2) (n : i ≠ j) : ad u v i ≠ ad u v j := by
  unfold ad
  split <;> split
  · omega
  · exact h
  · exact h.symm
  · omega
theorem at_two {u v : Addr} {j : Nat} (hj : j < 2) : atI [V.ref u, V.ref v] ((j : Nat) : Int) = some (V.ref (ad u v j)) := by
  match j, hj with
  | 0, _ => exact atI_nat (j := 0) rfl
  | 1, _ => exact atI_nat (j := 1) rfl
def RAt (G : Hp) (u v : Addr) (R : Nat → List Nat) (n : Nat) : Prop := ∀ j, j < 2 → ListN G (ad u v j) (R j) ∧ StN (R j) n
def UnF (R : Nat → List Nat) (O : List Nat) (n place L f k : Nat) : Prop := ∀ j x, j < 2 → place + x < n → (∀ k', k' < k → (k' + f) % 2 = j → x ≠ k' ∧ x ≠ (k' + 1) % L) → gt (R j) (gt O (place + x)) = gt O (place + x)
theorem bl_free {R : Nat → List Nat} {O : List Nat} {n place L f k : Nat} (U : UnF R O n place L f k) (hL : place + L ≤ n) (hk : k < L) (ev : k + 1 = L → L % 2 = 0) :
    gt (R ((k + f) % 2)) (gt O (place + k)) = gt O (place + k) ∧ gt (R ((k + f) % 2)) (gt O (place + (k + 1) % L)) = gt O (place + (k + 1) % L) ∧ k ≠ (k + 1) % L ∧ (k + 1) % L < L := by
  have m2 : (k + f) % 2 < 2 := by omega
  have p1 : ∀ k', k' < k → (k' + f) % 2 = (k + f) % 2 → (k' + 1) % L = k' + 1 ∧ k' + 2 ≤ k := fun k' h e => ⟨Nat.mod_eq_of_lt (by omega), by omega⟩
  refine ⟨U _ k m2 (by omega) fun k' h e => ?_, ?_⟩
  · obtain ⟨a, b⟩ := p1 k' h e
    rw [a]
    omega
  by_cases c : k + 1 < L
  · rw [Nat.mod_eq_of_lt c]
    refine ⟨U _ (k + 1) m2 (by omega) fun k' h e => ?_, by omega, c⟩
    obtain ⟨a, b⟩ := p1 k' h e
    rw [a]
    omega
  · have e0 : k + 1 = L := by omega
    have e2 := ev e0
    have z : (k + 1) % L = 0 := by rw [e0, Nat.mod_self]
    rw [z]
    refine ⟨U _ 0 m2 (by omega) fun k' h e => ?_, by omega, by omega⟩
    obtain ⟨a, b⟩ := p1 k' h e
    rw [a]
    omega
def setR (R : Nat → List Nat) (j0 a b : Nat) : Nat → List Nat := fun i => if i = j0 then ((R i).set a b).set b a else R i
theorem bl_set {R : Nat → List Nat} {O : List Nat} {n place L f k : Nat} (nO : O.Nodup) (lO : O.length = n) (bO : ∀ q, q < n → gt O q < n) (st : ∀ j, j < 2 → StN (R j) n) (U : UnF R O n place L f k) (hL : place + L ≤ n) (hk : k < L) (hm : (k + 1) % L < L) :
    UnF (setR R ((k + f) % 2) (gt O (place + k)) (gt O (place + (k + 1) % L))) O n place L f (k + 1) := by
  intro j x hj hx h
  unfold setR
  by_cases c : j = (k + f) % 2
  · obtain ⟨n1, n2⟩ := h k (by omega) c.symm
    have := U j x hj hx fun k' h' e => h k' (by omega) e
    rw [if_pos c, set2_gt (st j hj) (bO _ (by omega)) (bO _ (by omega)), if_neg, if_neg]
    · exact this
    · intro z
      have := nd_gt nO (by omega) (by omega) z
      omega
    · intro z
      have := nd_gt nO (by omega) (by omega) z
      omega
  · rw [if_neg c]
    exact U j x hj hx fun k' h' e => h k' (by omega) e
theorem reach_at {d : Nat} (h : d < 8) : ∃ r : Nat, 0 < r ∧ r ≤ 64 ∧ atI [V.int 2, V.int 3, V.int 4, V.int 4, V.int 6, V.int 9, V.int 20, V.int 64] ((d : Nat) : Int) = some (V.int (r : Int)) := by
  match d, h with
  | 0, _ => exact ⟨2, by decide, by decide, atI_nat (j := 0) rfl⟩
  | 1, _ => exact ⟨3, by decide, by decide, atI_nat (j := 1) rfl⟩
  | 2, _ => exact ⟨4, by decide, by decide, atI_nat (j := 2) rfl⟩
  | 3, _ => exact ⟨4, by decide, by decide, atI_nat (j := 3) rfl⟩
  | 4, _ => exact ⟨6, by decide, by decide, atI_nat (j := 4) rfl⟩
  | 5, _ => exact ⟨9, by decide, by decide, atI_nat (j := 5) rfl⟩
  | 6, _ => exact ⟨20, by decide, by decide, atI_nat (j := 6) rfl⟩
  | 7, _ => exact ⟨64, by decide, by decide, atI_nat (j := 7) rfl⟩
theorem ok_law_built (T : Txt K mg A)  (g_law_draw : Okd P w K mg base CX0 1 A.law_draw P_law_draw spDw) (g_law_shuffled : Okd P w K mg base CX0 2 A.law_shuffled P_law_shuffled spSf2) : Okd P w K mg base CX0 3 A.law_built P_law_built spTw := by
  obtain ⟨fd, F⟩ := T.d_law_built
  obtain ⟨fd_law_draw, G_law_draw, b_law_draw⟩ := g_law_draw
  obtain ⟨fd_law_shuffled, G_law_shuffled, b_law_shuffled⟩ := g_law_shuffled
  refine ⟨fd, F.ok sc_law_built (fun vs H Q E h => ?_) (fun cdv A' outer s H vs Q E hr h => ?_), F.binds fun _ _ _ _ _ _ us hl => match us, hl with | [_, _], _ => rfl⟩
  · obtain ⟨b, c, n, rfl, _⟩ := h
    rfl
  · obtain ⟨b, c, n, rfl, n64, B, k⟩ := h
    refine ⟨_, (pss_cons (ps_set (i := 2) sc_law_built.nd rfl (Or.inl rfl) (pe_ix ix_tup (pe_tup (pa_cons pe_int (pa_cons pe_int (pa_cons pe_int (pa_cons pe_int (pa_cons pe_int (pa_cons pe_int (pa_cons pe_int (pa_cons pe_int pa_nil))))))))) (pe_call G_law_draw (hr.mono (by decide)) (by rfl) T.g_law_draw T.k_law_draw b_law_draw .nil pass0 (pa_cons (pv 0) (pa_cons pe_int pa_nil))) (fun _ _ => rfl)))
      (pss_cons (ps_set (i := 3) sc_law_built.nd rfl (Or.inl rfl) (pe_call G_law_shuffled (hr.mono (by decide)) (by rfl) T.g_law_shuffled T.k_law_shuffled b_law_shuffled .nil pass0 (pa_cons (pv 0) (pa_cons (pe_listRg (by rfl) (by rfl) T.n_list (prg_1 (by rfl) T.n_range (pv 1))) pa_nil))))
      (pss_cons (ps_set (i := 4) sc_law_built.nd rfl (Or.inl rfl) (pe_lst (pa_cons (pe_listRg (by rfl) (by rfl) T.n_list (prg_1 (by rfl) T.n_range (pv 1))) (pa_cons (pe_listRg (by rfl) (by rfl) T.n_list (prg_1 (by rfl) T.n_range (pv 1))) pa_nil))))
      (pss_cons (ps_set (i := 5) sc_law_built.nd rfl (Or.inl rfl) pe_int)
      (pss_cons (ps_for PassesOwn.never rfl (pi_range1 (by rfl) T.n_range (pa_cons (pv 1) pa_nil)) (pg_name (i := 6) sc_law_built.nd rfl (Or.inl rfl)) (pss_cons (ps_if (pt_cmpR op_ge (pv 5) (pv 1) (nomark _)) (pss_one ps_break) pss_nil)
      (pss_cons (ps_set (i := 7) sc_law_built.nd rfl (Or.inl rfl) (pe_op op_add pe_int (pe_call G_law_draw (hr.mono (by decide)) (by rfl) T.g_law_draw T.k_law_draw b_law_draw .nil pass0 (pa_cons (pv 0) (pa_cons (pe_callB (call_min2 (by rfl)) (by rfl) T.n_min (by decide +kernel) (pa_cons (pv 2) (pa_cons (pe_op op_sub (pv 1) (pv 5)) pa_nil))) pa_nil)))))
      (pss_cut (ps_set (i := 8) sc_law_built.nd rfl (Or.inl rfl) (pe_and (pe_cmpR op_eq (pe_call G_law_draw (hr.mono (by decide)) (by rfl) T.g_law_draw T.k_law_draw b_law_draw .nil pass0 (pa_cons (pv 0) (pa_cons pe_int pa_nil))) pe_int (nomark _)) (pe_one (pe_cmpR op_eq (pe_op op_mod (pe_callTy call_int1 (by rfl) T.n_int (by decide +kernel) (pa_cons (pv 7) pa_nil)) pe_int) pe_int (nomark _)))))
      (pss_cons (ps_set (i := 9) sc_law_built.nd rfl (Or.inl rfl) (pe_call G_law_draw (hr.mono (by decide)) (by rfl) T.g_law_draw T.k_law_draw b_law_draw .nil pass0 (pa_cons (pv 0) (pa_cons pe_int pa_nil))))
      (pss_cons (ps_for PassesOwn.never rfl (pi_range1 (by rfl) T.n_range (pa_cons (pe_op op_add (pe_op op_sub (pv 7) pe_int) (pe_callTy call_int1 (by rfl) T.n_int (by decide +kernel) (pa_cons (pv 8) pa_nil))) pa_nil)) (pg_name (i := 10) sc_law_built.nd rfl (Or.inl rfl)) (pss_cons (ps_set (i := 11) sc_law_built.nd rfl (Or.inl rfl) (pe_ix ix_list (pv 3) (pe_op op_add (pv 5) (pv 10)) (fun _ _ => rfl)))
      (pss_cons (ps_set (i := 12) sc_law_built.nd rfl (Or.inl rfl) (pe_ix ix_list (pv 3) (pe_op op_add (pv 5) (pe_op op_mod (pe_callTy call_int1 (by rfl) T.n_int (by decide +kernel) (pa_cons (pe_op op_add (pv 10) pe_int) pa_nil)) (pv 7))) (fun _ _ => rfl)))
      (pss_cons (ps_set (i := 13) sc_law_built.nd rfl (Or.inl rfl) (pe_ix ix_list (pv 4) (pe_op op_mod (pe_callTy call_int1 (by rfl) T.n_int (by decide +kernel) (pa_cons (pe_op op_add (pv 10) (pv 9)) pa_nil)) pe_int) (fun _ _ => rfl)))
      (pss_cons (ps_asg (pv 12) (pg_sub (pv 13) (pv 11) set_list))
      (pss_one (ps_asg (pv 11) (pg_sub (pv 13) (pv 12) set_list))))))))
      (pss_one (ps_set (i := 5) sc_law_built.nd rfl (Or.inl rfl) (pe_op op_add (pv 5) (pv 7))))))))))
      (pss_one (ps_ret (pv 4)))))))), ?_⟩
    refine ⟨(by show 8 ≤ sizeLine; decide), fun tp htp => ?_⟩
    have x0 := Ex.new (o := .tup [V.int 2, V.int 3, V.int 4, V.int 4, V.int 6, V.int 9, V.int 20, V.int 64]) htp
    have ftp : upd H tp (.tup [V.int 2, V.int 3, V.int 4, V.int 4, V.int 6, V.int 9, V.int 20, V.int 64]) tp = some (.tup [V.int 2, V.int 3, V.int 4, V.int 4, V.int 6, V.int 9, V.int 20, V.int 64]) := upd_same
    obtain ⟨ntb, ntc⟩ := B.ne htp
    have B0 := B.ex x0
    generalize upd H tp (.tup [V.int 2, V.int 3, V.int 4, V.int 4, V.int 6, V.int 9, V.int 20, V.int 64]) = H0 at x0 ftp B0 ⊢
    refine ⟨_, rfl, b, c, 8, rfl, by decide, by decide, B0, fun d1 H1 hd1 B1 M1 => ?_⟩
    obtain ⟨rc, rc0, rc64, rca⟩ := reach_at (show d1 < 8 by omega)
    refine ⟨tp, _, _, _, rfl, rfl, SqT.of (M1 _ _ ntb ftp), rca, ?_⟩
    have M01 := (Mut.of_ex (b := b) x0).trans M1
    clear ftp rca x0 hd1
    have er : rgV 0 (n : Int) = nI (List.range n) := by
      rw [rgV_map, List.map_map]
      rfl
    refine ⟨_, rfl, _, rfl, _, rfl, RgOk.of_le (by decide) (by omega) (by omega) (by omega), fun l hl => ?_⟩
    have eL := Ex.new (o := .lst (rgV 0 (n : Int))) hl
    have hL : upd H1 l (.lst (rgV 0 (n : Int))) l = some (.lst (nI (List.range n))) := by rw [upd_same, er]
    obtain ⟨nlb, nlc⟩ := B1.ne hl
    have B2 := B1.ex eL
    have M2 := M01.ext eL
    generalize upd H1 l (.lst (rgV 0 (n : Int))) = H2 at eL hL B2 M2 ⊢
    refine ⟨b, c, l, nI (List.range n), rfl, hL, by rw [nI_len, List.length_range]; omega, nlb, B2, fun o ys H3 ho B3 M3 hys pm => ?_⟩
    obtain ⟨O, rfl, pO⟩ := nats_of pm
    have M13 := M2.trans M3
    have lO : O.length = n := by rw [pO.length_eq, List.length_range]
    have nO : O.Nodup := pO.nodup_iff.mpr List.nodup_range
    have bO : ∀ q, q < n → gt O q < n := fun q h => by
      have : gt O q ∈ O := by
        unfold gt
        rw [List.getD_eq_getElem?_getD, List.getElem?_eq_getElem (by omega)]
        exact List.getElem_mem _
      exact List.mem_range.mp (pO.mem_iff.mp this)
    obtain ⟨nob, noc⟩ := B2.ne ho
    refine ⟨_, rfl, _, rfl, RgOk.of_le (by decide) (by omega) (by omega) (by omega), fun u hu => ⟨_, rfl, _, rfl, RgOk.of_le (by decide) (by omega) (by omega) (by omega), fun v hv => ⟨(by show 2 ≤ sizeLine; decide), fun p hp => ?_⟩⟩⟩
    have eU := Ex.new (o := .lst (rgV 0 (n : Int))) hu
    have eV := Ex.new (o := .lst (rgV 0 (n : Int))) hv
    have eP := Ex.new (o := .lst [V.ref u, V.ref v]) hp
    have gU : ListN (upd H3 u (.lst (rgV 0 (n : Int)))) u (List.range n) := by
      show upd H3 u _ u = _
      rw [upd_same, er]
    have gV : ListN (upd (upd H3 u (.lst (rgV 0 (n : Int)))) v (.lst (rgV 0 (n : Int)))) v (List.range n) := by
      show upd _ v _ v = _
      rw [upd_same, er]
    have nuv : u ≠ v := ne_of_none gU hv
    have nvp : v ≠ p := ne_of_none gV hp
    have nup : u ≠ p := ne_of_none (eV _ _ gU) hp
    have nou : o ≠ u := ne_of_none hys hu
    have nov : o ≠ v := ne_of_none (eU _ _ hys) hv
    obtain ⟨nub, nuc⟩ := B3.ne hu
    obtain ⟨nvb, nvc⟩ := (B3.ex eU).ne hv
    obtain ⟨npb, npc⟩ := (B3.ex (eU.trans eV)).ne hp
    have fu : H u = none := M13.free nub hu
    have fv : H v = none := (M13.ext eU).free nvb hv
    have fp : H p = none := (M13.ext (eU.trans eV)).free npb hp
    have e4 := (eU.trans eV).trans eP
    have gP : upd (upd (upd H3 u (.lst (rgV 0 (n : Int)))) v (.lst (rgV 0 (n : Int)))) p (.lst [V.ref u, V.ref v]) p = some (.lst [V.ref u, V.ref v]) := upd_same
    have gV4 := eP _ _ gV
    have gU4 := eP _ _ (eV _ _ gU)
    generalize upd (upd (upd H3 u (.lst (rgV 0 (n : Int)))) v (.lst (rgV 0 (n : Int)))) p (.lst [V.ref u, V.ref v]) = H4 at e4 gP gV4 gU4 ⊢
    have B4 := B3.ex e4
    have M4 := M13.ext e4
    have ho4 := e4 _ _ hys
    have at_ : ∀ q, q < n → atI (nI O) ((q : Nat) : Int) = some (V.int ((gt O q : Nat) : Int)) := fun q h => by
      refine atI_nat ?_
      unfold nI gt
      rw [List.getElem?_map, List.getElem?_eq_getElem (by omega), List.getD_eq_getElem?_getD, List.getElem?_eq_getElem (by omega)]
      rfl
    have nbad : ∀ j, ad u v j ≠ b ∧ ad u v j ≠ c ∧ ad u v j ≠ p ∧ ad u v j ≠ o ∧ H (ad u v j) = none := fun j => by
      rcases ad_mem (u := u) (v := v) j with h | h <;> rw [h]
      · exact ⟨nub, nuc, nup, nou.symm, fu⟩
      · exact ⟨nvb, nvc, nvp, nov.symm, fv⟩
    clear eU eV eP gU gV hu hv hp hys pm M1 M2 M3 B0 B1 B2 B3 M01 M13 eL hL hl ho pO htp
    refine ⟨_, rfl, _, rfl, by omega, by omega, ?_⟩
    rw [Int.toNat_natCast]
    refine for_range (lo := 0) (n := n) (fun i σ G => ∃ (v6 v7 v8 v9 v10 v11 v12 v13 : Option V) (place : Nat) (R : Nat → List Nat), σ = [some (.ref b), some (.int (n : Int)), some (.int (rc : Int)), some (.ref o), some (.ref p), some (.int ((place : Nat) : Int)), v6, v7, v8, v9, v10, v11, v12, v13] ∧ Bx G b c ∧ Mut b H G ∧ G o = some (.lst (nI O)) ∧ G p = some (.lst [V.ref u, V.ref v]) ∧ RAt G u v R n ∧ place ≤ n ∧ ∀ j q, j < 2 → place ≤ q → q < n → gt (R j) (gt O q) = gt O q) ⟨none, none, none, none, none, none, none, none, 0, fun _ => List.range n, rfl, B4, M4, ho4, gP, fun j hj => ⟨by rcases ad_mem (u := u) (v := v) j with h | h <;> rw [h] <;> assumption, stN_range⟩, Nat.zero_le _, fun j q _ _ h => gtq_range (bO q h)⟩ ?_ ?_
    · rintro i σ G hi ⟨v6, v7, v8, v9, v10, v11, v12, v13, place, R, rfl, BG, MG, hoG, gp, ra, pl, un⟩
      have fin : ∀ {H' : Hp}, Bx H' b c → Mut b H H' → H' p = some (.lst [V.ref u, V.ref v]) → RAt H' u v R n → Q (.ref p) H' := fun {H'} x1 x2 x3 x4 => k p u v _ _ H' fp x1 x2 x3 (x4 0 (by decide)).1 (x4 1 (by decide)).1 (x4 0 (by decide)).2 (x4 1 (by decide)).2
      refine ⟨_, rfl, _, rfl, _, _, rfl, rfl, _, rfl, ite_b (fun c1 => ?_) (fun c1 => ?_)⟩
      · exact ⟨_, rfl, fin BG MG gp ra⟩
      have c1 : ¬ ((n : Int) ≤ (place : Int)) := of_decide_eq_false c1
      have pn : place < n := by omega
      have mn : ∃ m : Nat, 0 < m ∧ m ≤ rc ∧ place + m ≤ n ∧ (if (n : Int) - (place : Int) < (rc : Int) then (n : Int) - (place : Int) else (rc : Int)) = (m : Int) := by
        by_cases q : (n : Int) - (place : Int) < (rc : Int)
        · exact ⟨n - place, by omega, by omega, by omega, by rw [if_pos q]; omega⟩
        · exact ⟨rc, rc0, Nat.le_refl _, by omega, by rw [if_neg q]⟩
      obtain ⟨m, m0, mr, mp, me⟩ := mn
      refine ⟨_, rfl, _, rfl, _, rfl, _, rfl, _, _, rfl, rfl, _, _, rfl, ?_⟩
      rw [me]
      refine ⟨b, c, (m : Int), rfl, by omega, by omega, BG, fun d G1 hd BG1 MG1 => ⟨_, _, rfl, rfl, ?_⟩⟩
      have dm : d < m := by omega
      have M1 := MG.trans MG1
      have ho1 := MG1 _ _ nob hoG
      have gp1 := MG1 _ _ npb gp
      have ra1 : RAt G1 u v R n := fun j hj => ⟨MG1 _ _ (nbad j).1 (ra j hj).1, (ra j hj).2⟩
      refine ⟨fun σ G2 => ∃ (L : Nat) (cl : Bool), σ = [some (.ref b), some (.int (n : Int)), some (.int (rc : Int)), some (.ref o), some (.ref p), some (.int ((place : Nat) : Int)), some (.int (0 + (i : Int))), some (.int (L : Int)), some (.bl cl), v9, v10, v11, v12, v13] ∧ Bx G2 b c ∧ Mut b G1 G2 ∧ 0 < L ∧ place + L ≤ n ∧ (cl = true → L % 2 = 0), ?_, ?_⟩
      · refine ⟨_, rfl, b, c, 2, rfl, by decide, by decide, BG1, fun d2 G2 hd2 BG2 MG2 => ⟨rfl, _, rfl, ite_b (fun c2 => ?_) (fun c2 => ?_)⟩⟩
        · refine ⟨_, rfl, .inl ⟨_, rfl, _, _, rfl, rfl, (by show (0 : Int) < 2; decide), rfl, 1 + d, _, rfl, BG2, MG2, by omega, by omega, fun z => ?_⟩⟩
          have z := of_decide_eq_true z
          have z : (1 + (d : Int)) % 2 = 0 := by injection z
          omega
        · exact ⟨1 + d, _, rfl, BG2, MG2, by omega, by omega, fun z => by cases z⟩
      rintro σ G2 ⟨L, cl, rfl, BG2, MG2, L0, Ln, even⟩
      clear me mr m0 mp dm hd
      refine ⟨_, rfl, b, c, 2, rfl, by decide, by decide, BG2, fun f G3 hf BG3 MG3 => ?_⟩
      have f2 : f < 2 := by omega
      have M13 := MG2.trans MG3
      have M3 := M1.trans M13
      have ho3 := M13 _ _ nob ho1
      have gp3 := M13 _ _ npb gp1
      have ra3 : RAt G3 u v R n := fun j hj => ⟨M13 _ _ (nbad j).1 (ra1 j hj).1, (ra1 j hj).2⟩
      clear hoG gp ra ho1 gp1 ra1 BG BG1 BG2 MG MG1 M1 MG2 MG3 M13
      obtain ⟨s, sl, sv⟩ : ∃ s : Nat, (s < L ∨ (s = L ∧ L % 2 = 0)) ∧ ((L : Int) - 1 + (if cl = true then 1 else 0)) = (s : Int) := by
        cases hc : cl with
        | true => exact ⟨L, .inr ⟨rfl, even hc⟩, by rw [if_pos rfl]; omega⟩
        | false => exact ⟨L - 1, .inl (by omega), by rw [if_neg (by decide)]; omega⟩
      have key : ∀ k, k < s → k < L ∧ (k + 1 = L → L % 2 = 0) := fun k h => by omega
      have at2 : ∀ (q : Nat) (x : Int), x = ((q : Nat) : Int) → q < n → atI (nI O) x = some (V.int ((gt O q : Nat) : Int)) := fun q x e h => by
        rw [e]
        exact at_ q h
      refine ⟨_, rfl, _, _, rfl, rfl, _, rfl, .inr ⟨_, rfl, _, _, rfl, rfl, (s : Int), congrArg (fun q => [V.int q]) sv, by omega, by omega, ?_⟩⟩
      rw [Int.toNat_natCast]
      refine for_range (lo := 0) (n := s) (fun k σ G => ∃ (v10 v11 v12 v13 : Option V) (R : Nat → List Nat), σ = [some (.ref b), some (.int (n : Int)), some (.int (rc : Int)), some (.ref o), some (.ref p), some (.int ((place : Nat) : Int)), some (.int (0 + (i : Int))), some (.int (L : Int)), some (.bl cl), some (.int (f : Int)), v10, v11, v12, v13] ∧ Bx G b c ∧ Mut b H G ∧ G o = some (.lst (nI O)) ∧ G p = some (.lst [V.ref u, V.ref v]) ∧ RAt G u v R n ∧ UnF R O n place L f k) ⟨v10, v11, v12, v13, R, rfl, BG3, M3, ho3, gp3, ra3, fun j x hj hx _ => un j (place + x) hj (by omega) hx⟩ ?_ ?_
      · clear BG3 M3 ho3 gp3 ra3 G3 G2 G1 G un R fin
        rintro k σ G hk ⟨v10, v11, v12, v13, R, rfl, BG, MG, hoG, gp, ra, U⟩
        obtain ⟨kL, ev⟩ := key k hk
        obtain ⟨f1, f2', ne, mL⟩ := bl_free U Ln kL ev
        have Un := bl_set nO lO bO (fun j hj => (ra j hj).2) U Ln kL mL
        have em : (0 + (k : Int) + 1) % (L : Int) = (((k + 1) % L : Nat) : Int) := by
          rw [show 0 + (k : Int) + 1 = ((k + 1 : Nat) : Int) by omega]
          rfl
        have ej : (0 + (k : Int) + (f : Int)) % 2 = (((k + f) % 2 : Nat) : Int) := by omega
        have j2 : (k + f) % 2 < 2 := by omega
        have l1 : place + k < n := by omega
        have l2 : place + (k + 1) % L < n := by omega
        refine ⟨_, rfl, _, rfl, _, rfl, _, _, rfl, rfl, o, _, _, _, rfl, rfl, SqL.of hoG, at2 (place + k) _ (by omega) l1, ?_⟩
        refine ⟨_, rfl, _, rfl, _, rfl, _, _, rfl, rfl, .inl ⟨_, rfl, _, rfl, _, _, rfl, rfl, (by show (0 : Int) < (L : Int); omega), _, _, rfl, rfl, o, _, _, _, rfl, rfl, SqL.of hoG, at2 (place + (k + 1) % L) _ (by rw [em]; omega) l2, ?_⟩⟩
        refine ⟨_, rfl, _, rfl, _, rfl, _, _, rfl, rfl, .inl ⟨_, rfl, _, _, rfl, rfl, (by show (0 : Int) < 2; decide), p, _, _, _, rfl, rfl, SqL.of gp, (by rw [ej]; exact at_two j2), ?_⟩⟩
        have ne' : gt O (place + k) ≠ gt O (place + (k + 1) % L) := fun z => by
          have := nd_gt nO (by omega) (by omega) z
          omega
        have b1 := bO _ l1
        have b2 := bO _ l2
        generalize gt O (place + k) = one at *
        generalize gt O (place + (k + 1) % L) = mate at *
        generalize (k + f) % 2 = j0 at *
        obtain ⟨rj, sj⟩ := ra j0 j2
        obtain ⟨q1, q2, q3, q4, q5⟩ := nbad j0
        have an : ∀ j, j < 2 → j ≠ j0 → ad u v j ≠ ad u v j0 := fun j hj n => ad_ne nuv hj j2 n
        generalize hr0 : ad u v j0 = r at *
        refine ⟨_, rfl, _, rfl, _, rfl, r, _, _, one, rfl, rfl, rj, Evl.ixN_nat (by rw [nI_len, sj.len]; exact b1), ?_⟩
        rw [show (nI (R j0)).set one (V.int ((mate : Nat) : Int)) = nI ((R j0).set one mate) from (List.map_set ..).symm]
        refine ⟨_, rfl, _, rfl, _, rfl, r, _, _, mate, rfl, rfl, upd_same, Evl.ixN_nat (by rw [nI_len, List.length_set, sj.len]; exact b2), ?_⟩
        rw [show (nI ((R j0).set one mate)).set mate (V.int ((one : Nat) : Int)) = nI (((R j0).set one mate).set mate one) from (List.map_set ..).symm]
        have kp : ∀ x u, x ≠ r → G x = some u → upd (upd G r (.lst (nI ((R j0).set one mate)))) r (.lst (nI (((R j0).set one mate).set mate one))) x = some u := fun x u nx h => by rw [upd_ne nx, upd_ne nx]; exact h
        have gr : ListN (upd (upd G r (.lst (nI ((R j0).set one mate)))) r (.lst (nI (((R j0).set one mate).set mate one)))) r (((R j0).set one mate).set mate one) := upd_same
        generalize upd (upd G r (.lst (nI ((R j0).set one mate)))) r (.lst (nI (((R j0).set one mate).set mate one))) = G2 at kp gr ⊢
        refine ⟨_, _, _, _, setR R j0 one mate, rfl, BG.keep (fun u h => kp _ _ q1.symm h) (fun u h => kp _ _ q2.symm h), fun x o nx h => kp _ _ (ne_of_none h q5) (MG _ _ nx h), kp _ _ q4.symm hoG, kp _ _ q3.symm gp, fun j hj => ?_, Un⟩
        by_cases cj : j = j0
        · rw [cj, hr0]
          unfold setR
          rw [if_pos rfl]
          exact ⟨gr, set2_st sj b1 b2 ne' f1 f2'⟩
        · unfold setR
          rw [if_neg cj]
          exact ⟨kp _ _ (an j hj cj) (ra j hj).1, (ra j hj).2⟩
      · rintro σ G ⟨v10, v11, v12, v13, R, rfl, BG, MG, hoG, gp, ra, U⟩
        refine ⟨_, rfl, _, rfl, _, _, rfl, rfl, _, _, _, _, _, _, _, _, place + L, R, rfl, BG, MG, hoG, gp, ra, Ln, fun j q hj h1 h2 => ?_⟩
        have := U j (q - place) hj (by omega) fun k' h e => by
          have := (key k' h).1
          have := Nat.mod_lt (k' + 1) L0
          omega
        rw [show place + (q - place) = q by omega] at this
        exact this
    · rintro σ G ⟨v6, v7, v8, v9, v10, v11, v12, v13, place, R, rfl, BG, MG, hoG, gp, ra, pl, un⟩
      exact ⟨_, rfl, k p u v _ _ G fp BG MG gp (ra 0 (by decide)).1 (ra 1 (by decide)).1 (ra 0 (by decide)).2 (ra 1 (by decide)).2⟩

end

section
variable {P : Program} {w : World} {K : PySem.W.Frag} {mg : Str → Option Value} {base : Heap} {A : Ad}
theorem ok_law_bent_row (T : Txt K mg A)  (g_law_draw : Okd P w K mg base CX0 1 A.law_draw P_law_draw spDw) : Okd P w K mg base CX0 2 A.law_bent_row P_law_bent_row spBr := by
  obtain ⟨fd, F⟩ := T.d_law_bent_row
  obtain ⟨fd_law_draw, G_law_draw, b_law_draw⟩ := g_law_draw
  refine ⟨fd, F.ok sc_law_bent_row (fun vs H Q E h => ?_) (fun cdv A' outer s H vs Q E hr h => ?_), F.binds fun _ _ _ _ _ _ us hl => match us, hl with | [_, _], _ => rfl⟩
  · obtain ⟨b, c, l, xs, rfl, _⟩ := h
    rfl
  · obtain ⟨b, c, l, xs, rfl, hl, x64, nlb, B, k⟩ := h
    refine ⟨_, (pss_cons (ps_set (i := 2) sc_law_bent_row.nd rfl (Or.inl rfl) (pe_call G_law_draw (hr.mono (by decide)) (by rfl) T.g_law_draw T.k_law_draw b_law_draw .nil pass0 (pa_cons (pv 0) (pa_cons pe_int pa_nil))))
      (pss_cons (ps_set (i := 3) sc_law_bent_row.nd rfl (Or.inl rfl) (pe_callTy call_list_of (by rfl) T.n_list (by decide +kernel) (pa_cons (pv 1) pa_nil)))
      (pss_cons (ps_set (i := 4) sc_law_bent_row.nd rfl (Or.inl rfl) (pe_callB call_len_seq (by rfl) T.n_len PySem.boot_len (pa_cons (pv 1) pa_nil)))
      (pss_cons (ps_if (PW.pt (pw_or (pt_cmpR op_eq (pv 4) pe_int (nomark _)) (pw_or (pt_cmpR op_eq (pv 2) pe_int (nomark _)) (pw_or1 (pt_cmpR op_gt (pv 2) pe_int (nomark _)))))) (pss_one (ps_ret (pv 3))) pss_nil)
      (pss_cons (ps_set (i := 5) sc_law_bent_row.nd rfl (Or.inl rfl) (pe_call G_law_draw (hr.mono (by decide)) (by rfl) T.g_law_draw T.k_law_draw b_law_draw .nil pass0 (pa_cons (pv 0) (pa_cons (pv 4) pa_nil))))
      (pss_cut (ps_if (pt_cmpR op_eq (pv 2) pe_int (nomark _)) (pss_one (ps_asg (pe_ix ix_tup (pe_tup (pa_cons (pe_un un_neg pe_int) (pa_cons (pv 4) (pa_cons (pe_op op_add (pv 4) pe_int) (pa_cons (pe_op op_sub pe_int (pv 4)) (pa_cons pe_int pa_nil)))))) (pe_call G_law_draw (hr.mono (by decide)) (by rfl) T.g_law_draw T.k_law_draw b_law_draw .nil pass0 (pa_cons (pv 0) (pa_cons pe_int pa_nil))) (fun _ _ => rfl)) (pg_sub (pv 3) (pv 5) set_list))) (pss_one (ps_asg (pe_op op_mod (pe_callTy call_int1 (by rfl) T.n_int (by decide +kernel) (pa_cons (pe_op op_add (pe_op op_add (pe_ix ix_list (pv 3) (pv 5) (fun _ _ => rfl)) pe_int) (pe_call G_law_draw (hr.mono (by decide)) (by rfl) T.g_law_draw T.k_law_draw b_law_draw .nil pass0 (pa_cons (pv 0) (pa_cons (pv 4) pa_nil)))) pa_nil)) (pv 4)) (pg_sub (pv 3) (pv 5) set_list))))
      (pss_cut (ps_if (pt_cmpR op_eq (pv 2) pe_int (nomark _)) (pss_cons (ps_set (i := 6) sc_law_bent_row.nd rfl (Or.inl rfl) (pe_call G_law_draw (hr.mono (by decide)) (by rfl) T.g_law_draw T.k_law_draw b_law_draw .nil pass0 (pa_cons (pv 0) (pa_cons (pv 4) pa_nil))))
      (pss_one (ps_asg (pe_ix ix_tup (pe_tup (pa_cons (pv 4) (pa_cons (pe_un un_neg pe_int) pa_nil))) (pe_call G_law_draw (hr.mono (by decide)) (by rfl) T.g_law_draw T.k_law_draw b_law_draw .nil pass0 (pa_cons (pv 0) (pa_cons pe_int pa_nil))) (fun _ _ => rfl)) (pg_sub (pv 3) (pv 6) set_list)))) pss_nil)
      (pss_one (ps_ret (pv 3)))))))))), ?_⟩
    refine ⟨_, rfl, b, c, 6, rfl, by decide, by decide, B, fun d1 H1 hd1 B1 M1 => ?_⟩
    have hl1 : ListI H1 l xs := M1 _ _ nlb hl
    refine ⟨_, rfl, l, _, rfl, .inl (SqL.of hl1), fun r hr => ?_⟩
    have eR := Ex.new (o := .lst (xs.map V.int)) hr
    have hr2 : ListI (upd H1 r (.lst (xs.map V.int))) r xs := upd_same
    obtain ⟨nrb, nrc⟩ := B1.ne hr
    have fr : H r = none := M1.free nrb hr
    have B2 := B1.ex eR
    have M2 := M1.ext eR
    have hl2 : ListI (upd H1 r (.lst (xs.map V.int))) l xs := eR _ _ hl1
    generalize upd H1 r (.lst (xs.map V.int)) = H2 at eR hr2 B2 M2 hl2 ⊢
    refine ⟨_, rfl, l, _, rfl, .inl (SqL.of hl2), ?_⟩
    rw [List.length_map]
    have ret : Q (.ref r) H2 := k r xs H2 fr B2 M2 hr2 rfl
    refine ⟨_, rfl, rfl, _, rfl, ite_b (fun _ => iteT ⟨_, rfl, ret⟩) (fun z0 => ?_)⟩
    refine ⟨_, rfl, rfl, _, rfl, ite_b (fun _ => iteT ⟨_, rfl, ret⟩) (fun _ => ?_)⟩
    refine ⟨_, rfl, _, _, rfl, rfl, _, rfl, ite_b (fun _ => ⟨_, rfl, ret⟩) (fun _ => ?_)⟩
    have pos : 0 < xs.length := by
      have z0 := of_decide_eq_false z0
      rcases Nat.eq_zero_or_pos xs.length with h | h
      · exact absurd (by rw [h]; rfl) z0
      · exact h
    refine ⟨_, rfl, _, rfl, b, c, (xs.length : Int), rfl, by omega, by omega, B2, fun d2 H3 hd2 B3 M3 => ?_⟩
    have hr3 : ListI H3 r xs := M3 _ _ nrb hr2
    have M3' := M2.trans M3
    have d2l : d2 < xs.length := by omega
    have put : ∀ (G : Hp) (ys : List Int) (q : Nat) (v : Int), Bx G b c → Mut b H G → ListI G r ys → ys.length = xs.length → Bx (upd G r (.lst ((ys.map V.int).set q (V.int v)))) b c ∧ Mut b H (upd G r (.lst ((ys.map V.int).set q (V.int v)))) ∧ ListI (upd G r (.lst ((ys.map V.int).set q (V.int v)))) r (ys.set q v) ∧ (ys.set q v).length = xs.length := fun G ys q v BG MG hG ly =>
      ⟨BG.keep (fun o h => by rw [upd_ne nrb.symm]; exact h) (fun o h => by rw [upd_ne nrc.symm]; exact h), fun x o nx h => by rw [upd_ne (ne_of_none h fr)]; exact MG _ _ nx h, by show upd G r _ r = _; rw [upd_same, List.map_set], by rw [List.length_set]; exact ly⟩
    refine ⟨fun σ G => ∃ (v6 : Option V) (ys : List Int), σ = [some (.ref b), some (.ref l), some (.int (d1 : Int)), some (.ref r), some (.int (xs.length : Int)), some (.int (d2 : Int)), v6] ∧ Bx G b c ∧ Mut b H G ∧ ListI G r ys ∧ ys.length = xs.length, ?_, ?_⟩
    · refine ⟨_, rfl, rfl, _, rfl, ite_b (fun _ => ?_) (fun _ => ?_)⟩
      · refine ⟨_, rfl, _, rfl, _, rfl, _, _, rfl, rfl, _, rfl, _, _, rfl, rfl, (by show 5 ≤ sizeLine; decide), fun t ht => ?_⟩
        have eT := Ex.new (o := .tup [V.int (-1), V.int (xs.length : Int), V.int ((xs.length : Int) + 3), V.int (0 - (xs.length : Int)), V.int 1000000007]) ht
        have hT : upd H3 t (.tup [V.int (-1), V.int (xs.length : Int), V.int ((xs.length : Int) + 3), V.int (0 - (xs.length : Int)), V.int 1000000007]) t = some (.tup [V.int (-1), V.int (xs.length : Int), V.int ((xs.length : Int) + 3), V.int (0 - (xs.length : Int)), V.int 1000000007]) := upd_same
        have BT := B3.ex eT
        have MT := M3'.ext eT
        have ntb := (B3.ne ht).1
        have hrT : ListI (upd H3 t (.tup [V.int (-1), V.int (xs.length : Int), V.int ((xs.length : Int) + 3), V.int (0 - (xs.length : Int)), V.int 1000000007])) r xs := eT _ _ hr3
        generalize upd H3 t (.tup [V.int (-1), V.int (xs.length : Int), V.int ((xs.length : Int) + 3), V.int (0 - (xs.length : Int)), V.int 1000000007]) = HT at eT hT BT MT hrT ⊢
        refine ⟨_, rfl, b, c, 5, rfl, by decide, by decide, BT, fun d G hd BG MG => ?_⟩
        have mi : ∀ d, d < 5 → ∃ z : Int, [V.int (-1), V.int (xs.length : Int), V.int ((xs.length : Int) + 3), V.int (0 - (xs.length : Int)), V.int 1000000007][d]? = some (V.int z) := fun d hd => by
            match d, hd with
            | 0, _ => exact ⟨_, rfl⟩
            | 1, _ => exact ⟨_, rfl⟩
            | 2, _ => exact ⟨_, rfl⟩
            | 3, _ => exact ⟨_, rfl⟩
            | 4, _ => exact ⟨_, rfl⟩
        obtain ⟨z, hz⟩ := mi d (by omega)
        obtain ⟨p1, p2, p3, p4⟩ := put G xs d2 z BG (MT.trans MG) (MG _ _ nrb hrT) rfl
        refine ⟨t, _, _, _, rfl, rfl, SqT.of (MG _ _ ntb hT), atI_nat hz, _, rfl, _, rfl, r, _, _, d2, rfl, rfl, MG _ _ nrb hrT, Evl.ixN_nat (by rw [List.length_map]; exact d2l), ?_⟩
        exact ⟨_, _, rfl, p1, p2, p3, p4⟩
      · refine ⟨_, rfl, _, rfl, r, _, _, _, rfl, rfl, SqL.of hr3, atI_nat (by rw [List.getElem?_map, List.getElem?_eq_getElem d2l]; rfl), _, _, rfl, rfl, _, rfl, _, rfl, b, c, (xs.length : Int), rfl, by omega, by omega, B3, fun d G hd BG MG => ⟨_, _, rfl, rfl, Or.inl ⟨_, rfl, _, rfl, _, _, rfl, rfl, (by show (0 : Int) < (xs.length : Int); omega), ?_⟩⟩⟩
        refine ⟨_, rfl, _, rfl, r, _, _, d2, rfl, rfl, MG _ _ nrb hr3, Evl.ixN_nat (by rw [List.length_map]; exact d2l), ?_⟩
        obtain ⟨p1, p2, p3, p4⟩ := put G xs d2 ((xs[d2] + 1 + (d : Int)) % (xs.length : Int)) BG (M3'.trans MG) (MG _ _ nrb hr3) rfl
        exact ⟨_, _, rfl, p1, p2, p3, p4⟩
    rintro σ G ⟨v6, ys, rfl, BG, MG, hG, ly⟩
    refine ⟨fun σ G => ∃ (v6 : Option V) (ys : List Int), σ = [some (.ref b), some (.ref l), some (.int (d1 : Int)), some (.ref r), some (.int (xs.length : Int)), some (.int (d2 : Int)), v6] ∧ Bx G b c ∧ Mut b H G ∧ ListI G r ys ∧ ys.length = xs.length, ?_, ?_⟩
    · refine ⟨_, rfl, rfl, _, rfl, ite_b (fun _ => ?_) (fun _ => ⟨v6, ys, rfl, BG, MG, hG, ly⟩)⟩
      refine ⟨_, rfl, _, rfl, b, c, (xs.length : Int), rfl, by omega, by omega, BG, fun d3 G3 hd3 BG3 MG3 => ?_⟩
      have hr5 : ListI G3 r ys := MG3 _ _ nrb hG
      refine ⟨_, rfl, _, rfl, (by show 2 ≤ sizeLine; decide), fun t ht => ?_⟩
      have eT := Ex.new (o := .tup [V.int (xs.length : Int), V.int (-1)]) ht
      have hT : upd G3 t (.tup [V.int (xs.length : Int), V.int (-1)]) t = some (.tup [V.int (xs.length : Int), V.int (-1)]) := upd_same
      have BT := BG3.ex eT
      have MT := (MG.trans MG3).ext eT
      have ntb := (BG3.ne ht).1
      have hrT : ListI (upd G3 t (.tup [V.int (xs.length : Int), V.int (-1)])) r ys := eT _ _ hr5
      generalize upd G3 t (.tup [V.int (xs.length : Int), V.int (-1)]) = HT at eT hT BT MT hrT ⊢
      refine ⟨_, rfl, b, c, 2, rfl, by decide, by decide, BT, fun d G hd BG MG => ?_⟩
      have mi : ∀ d, d < 2 → ∃ z : Int, [V.int (xs.length : Int), V.int (-1)][d]? = some (V.int z) := fun d hd => by
            match d, hd with
            | 0, _ => exact ⟨_, rfl⟩
            | 1, _ => exact ⟨_, rfl⟩
      obtain ⟨z, hz⟩ := mi d (by omega)
      obtain ⟨p1, p2, p3, p4⟩ := put G ys d3 z BG (MT.trans MG) (MG _ _ nrb hrT) ly
      refine ⟨t, _, _, _, rfl, rfl, SqT.of (MG _ _ ntb hT), atI_nat hz, _, rfl, _, rfl, r, _, _, d3, rfl, rfl, MG _ _ nrb hrT, Evl.ixN_nat (by rw [List.length_map, ly]; omega), ?_⟩
      exact ⟨_, _, rfl, p1, p2, p3, p4⟩
    rintro σ G2 ⟨v6, zs, rfl, B4, M4, h4, lz⟩
    exact ⟨_, rfl, k r zs G2 fr B4 M4 h4 lz⟩

end

section
variable {P : Program} {w : World} {K : PySem.W.Frag} {mg : Str → Option Value} {base : Heap} {A : Ad}
theorem ok_law_bent_two (T : Txt K mg A)  (g_law_draw : Okd P w K mg base CX0 1 A.law_draw P_law_draw spDw) (g_law_bent_row : Okd P w K mg base CX0 2 A.law_bent_row P_law_bent_row spBr) : Okd P w K mg base CX0 3 A.law_bent_two P_law_bent_two spBt2 := by
  obtain ⟨fd, F⟩ := T.d_law_bent_two
  obtain ⟨fd_law_draw, G_law_draw, b_law_draw⟩ := g_law_draw
  obtain ⟨fd_law_bent_row, G_law_bent_row, b_law_bent_row⟩ := g_law_bent_row
  refine ⟨fd, F.ok sc_law_bent_two (fun vs H Q E h => ?_) (fun cdv A' outer s H vs Q E hr h => ?_), F.binds fun _ _ _ _ _ _ us hl => match us, hl with | [_, _, _], _ => rfl⟩
  · obtain ⟨b, c, l, r, xs, zs, rfl, _⟩ := h
    rfl
  · obtain ⟨b, c, l, r, xs, zs, rfl, B, hl, hr0, x64, z64, k⟩ := h
    refine ⟨_, (pss_cons (ps_set (i := 3) sc_law_bent_two.nd rfl (Or.inl rfl) (pe_call G_law_draw (hr.mono (by decide)) (by rfl) T.g_law_draw T.k_law_draw b_law_draw .nil pass0 (pa_cons (pv 0) (pa_cons pe_int pa_nil))))
      (pss_cons (ps_set (i := 4) sc_law_bent_two.nd rfl (Or.inl rfl) (pe_call G_law_bent_row (hr.mono (by decide)) (by rfl) T.g_law_bent_row T.k_law_bent_row b_law_bent_row .nil pass0 (pa_cons (pv 0) (pa_cons (pv 1) pa_nil))))
      (pss_cons (ps_set (i := 5) sc_law_bent_two.nd rfl (Or.inl rfl) (pe_call G_law_bent_row (hr.mono (by decide)) (by rfl) T.g_law_bent_row T.k_law_bent_row b_law_bent_row .nil pass0 (pa_cons (pv 0) (pa_cons (pv 2) pa_nil))))
      (pss_cut (ps_if (pt_cmpR op_eq (pv 3) pe_int (nomark _)) (pss_cons (ps_set (i := 6) sc_law_bent_two.nd rfl (Or.inl rfl) (pe_op op_mod (pe_callTy call_int1 (by rfl) T.n_int (by decide +kernel) (pa_cons (pe_op op_add (pe_op op_add (pe_callB call_len_seq (by rfl) T.n_len PySem.boot_len (pa_cons (pv 1) pa_nil)) pe_int) (pe_call G_law_draw (hr.mono (by decide)) (by rfl) T.g_law_draw T.k_law_draw b_law_draw .nil pass0 (pa_cons (pv 0) (pa_cons pe_int pa_nil)))) pa_nil)) pe_int))
      (pss_one (ps_set (i := 5) sc_law_bent_two.nd rfl (Or.inl rfl) (pe_call G_law_bent_row (hr.mono (by decide)) (by rfl) T.g_law_bent_row T.k_law_bent_row b_law_bent_row .nil pass0 (pa_cons (pv 0) (pa_cons (pe_listRg (by rfl) (by rfl) T.n_list (prg_1 (by rfl) T.n_range (pv 6))) pa_nil)))))) pss_nil)
      (pss_one (ps_ret (pe_lst (pa_cons (pv 4) (pa_cons (pv 5) pa_nil))))))))), ?_⟩
    refine ⟨_, rfl, b, c, 3, rfl, by decide, by decide, B, fun d0 H1 hd0 B1 M1 => ?_⟩
    have nlb := B.neI hl
    have nrb := B.neI hr0
    refine ⟨_, rfl, _, rfl, b, c, l, xs, rfl, M1 _ _ nlb hl, x64, nlb, B1, fun u us H2 hu B2 M2 hus ul => ?_⟩
    have M12 := M1.trans M2
    have nub := (B1.ne hu).1
    refine ⟨_, rfl, _, rfl, b, c, r, zs, rfl, M12 _ _ nrb hr0, z64, nrb, B2, fun v ws H3 hv B3 M3 hws wl => ?_⟩
    have M13 := M12.trans M3
    have nvb := (B2.ne hv).1
    have hus3 : ListI H3 u us := M3 _ _ nub hus
    have key : ∀ (v : Addr) (ws : List Int) (H4 : Hp), Bx H4 b c → Mut b H H4 → ListI H4 u us → ListI H4 v ws → ws.length ≤ 64 → ∀ p, H4 p = none → Q (.ref p) (upd H4 p (.lst [.ref u, .ref v])) := fun v ws H4 B4 M4 h1 h2 l2 p hp => by
      have e := Ex.new (o := .lst [V.ref u, V.ref v]) hp
      exact k p u v us ws _ (bx_back B4 M4 hp) (B4.ex e) (M4.ext e) upd_same (e _ _ h1) (e _ _ h2) (by omega) l2
    have few : (2 : Nat) ≤ sizeLine := by decide
    refine ⟨fun σ G => ∃ (v : Addr) (ws : List Int) (v6 : Option V), σ = [some (.ref b), some (.ref l), some (.ref r), some (.int (d0 : Int)), some (.ref u), some (.ref v), v6] ∧ Bx G b c ∧ Mut b H G ∧ ListI G u us ∧ ListI G v ws ∧ ws.length ≤ 64, ?_, ?_⟩
    · refine ⟨_, rfl, rfl, _, rfl, ite_b (fun _ => ?_) (fun _ => ⟨v, ws, _, rfl, B3, M13, hus3, hws, by omega⟩)⟩
      refine ⟨_, rfl, l, _, rfl, .inl (SqL.of (M13 _ _ nlb hl)), _, _, rfl, rfl, _, rfl, b, c, 5, rfl, by decide, by decide, B3, fun d5 H4 hd5 B4 M4 => ⟨_, _, rfl, rfl, .inl ⟨_, rfl, _, _, rfl, rfl, (by show (0 : Int) < 65; decide), ?_⟩⟩⟩
      obtain ⟨s, hs, s65⟩ : ∃ s : Nat, (((xs.map V.int).length : Int) + 1 + (d5 : Int)) % 65 = (s : Int) ∧ s < 65 := ⟨((xs.map V.int).length + 1 + d5) % 65, by omega, by omega⟩
      show gName 6 (V.int ((((xs.map V.int).length : Int) + 1 + (d5 : Int)) % 65)) _ _ _
      rw [hs]
      have er : rgV 0 (s : Int) = ((List.range s).map fun x : Nat => (x : Int)).map V.int := by
        rw [rgV_map, List.map_map]
      refine ⟨_, rfl, _, rfl, _, rfl, RgOk.of_le (by decide) (by omega) (by omega) (by omega), fun q hq => ?_⟩
      have eq := Ex.new (o := .lst (rgV 0 (s : Int))) hq
      have fq : ListI (upd H4 q (.lst (rgV 0 (s : Int)))) q ((List.range s).map fun x : Nat => (x : Int)) := by
        show upd H4 q _ q = _
        rw [upd_same, er]
      have B5 := B4.ex eq
      have M5 := (M13.trans M4).ext eq
      have hus5 := eq _ _ (M4 _ _ nub hus3)
      generalize upd H4 q (.lst (rgV 0 (s : Int))) = H5 at eq fq B5 M5 hus5 ⊢
      have sl : ((List.range s).map fun x : Nat => (x : Int)).length = s := by rw [List.length_map, List.length_range]
      exact ⟨b, c, q, _, rfl, fq, by omega, B5.neI fq, B5, fun v ws H6 hv B6 M6 hws wl => ⟨v, ws, _, rfl, B6, M5.trans M6, M6 _ _ nub hus5, hws, by omega⟩⟩
    rintro σ G ⟨v, ws, v6, rfl, B4, M4, h1, h2, l2⟩
    exact ⟨_, rfl, _, rfl, few, fun p hp => key v ws G B4 M4 h1 h2 l2 p hp⟩

end

section
variable {P : Program} {w : World} {K : PySem.W.Frag} {mg : Str → Option Value} {base : Heap} {A : Ad}
theorem ok_Busy (T : Txt K mg A)   : Okd P w K mg base CX0 1 A.i_Busy P_Busy (spInit A.Busy "record") := by
  obtain ⟨fd, F⟩ := T.f_Busy.fn

  refine ⟨fd, F.ok sc_Busy (fun vs H Q E h => ?_) (fun cdv A' outer s H vs Q E hr h => ?_), F.binds fun _ _ _ _ _ _ us hl => match us, hl with | [_, _], _ => rfl⟩
  · obtain ⟨a, v, rfl, _⟩ := h
    rfl
  · obtain ⟨a, v, rfl, ha, k⟩ := h
    refine ⟨_, (pss_one (ps_ost (pv 0) (pv 1))), ?_⟩
    exact ⟨_, rfl, _, rfl, a, A.Busy, rfl, T.e_Busy.oex, T.f_Busy.nf, Or.inl ⟨ha, fun dx hdx ne => k dx hdx ne⟩⟩

end

section
variable {P : Program} {w : World} {K : PySem.W.Frag} {mg : Str → Option Value} {base : Heap} {A : Ad}
theorem strip_getD_of {xs : List Int} {k : Nat} {z : Int} (h : xs[k]? = some z) : xs.getD k 0 = z := by
  rw [List.getD_eq_getElem?_getD, h]
  rfl
theorem deq (x y : Nat) : decide (V.int (x : Int) = V.int (y : Int)) = decide (x = y) := by
  by_cases c : x = y
  · rw [c, decide_eq_true rfl, decide_eq_true rfl]
  · rw [decide_eq_false c, decide_eq_false]
    intro h
    injection h with h
    exact c (Int.ofNat.inj h)
theorem dne (x y : Nat) : (!decide (V.int (x : Int) = V.int (y : Int))) = decide (x ≠ y) := by
  rw [deq]
  by_cases c : x = y
  · rw [decide_eq_true c, decide_eq_false (fun h => h c)]
    rfl
  · rw [decide_eq_false c, decide_eq_true c]
    rfl
theorem atLast {l : List Nat} (h : 0 < l.length) : atI (nI l) (-1) = some (V.int ((gt l (l.length - 1) : Nat) : Int)) := by
  have e : l = l.take (l.length - 1) ++ [gt l (l.length - 1)] := by
    have t := take_succ' (l := l) (q := l.length - 1) (by omega)
    rw [show l.length - 1 + 1 = l.length by omega, List.take_length] at t
    exact t
  have g := atI_last (nI (l.take (l.length - 1))) (V.int ((gt l (l.length - 1) : Nat) : Int))
  rw [← nI_app, ← e] at g
  exact g
theorem rgN (n : Nat) : rgV 0 (n : Int) = nI (List.range n) := by
  rw [rgV_map, List.map_map]
  rfl
theorem cutDrop {l : List Nat} {k : Nat} (h : k ≤ l.length) : cutV (nI l) (some (k : Int)) none = nI (l.drop k) := by
  unfold cutV
  rw [HT.sIx_nat, HT.sIx_none, nI_len, Nat.min_eq_left h]
  unfold nI
  rw [← List.map_drop, ← List.map_take, List.take_of_length_le (by rw [List.length_drop]; exact Nat.le_refl _)]
theorem cutTake {l : List Nat} {k : Nat} (h : k ≤ l.length) : cutV (nI l) none (some (k : Int)) = nI (l.take k) := by
  unfold cutV
  rw [HT.sIx_nat, HT.sIx_none, nI_len, Nat.min_eq_left h, Nat.sub_zero]
  unfold nI
  rw [List.drop_zero, List.map_take]
theorem cat_nI {l m : List Nat} : nI l ++ nI m = nI (l ++ m) := (List.map_append ..).symm
theorem rev_nI {l : List Nat} : (nI l).reverse = nI l.reverse := (List.map_reverse ..).symm
theorem tail_nI {l : List Nat} : (nI l).tail = nI l.tail := (List.map_tail ..).symm
theorem nat_in {x : Nat} {xs : List Nat} : inV (V.int (x : Int)) (nI xs) = decide (x ∈ xs) := by
  rw [inV_nI, Bool.eq_iff_iff, decide_eq_true_eq]
  exact List.contains_iff_mem
theorem ok_InvalidImage (T : Txt K mg A)   : Okd P w K mg base CX0 1 A.i_InvalidImage P_InvalidImage (spInit A.InvalidImage "record") := by
  obtain ⟨fd, F⟩ := T.f_InvalidImage.fn

  refine ⟨fd, F.ok sc_InvalidImage (fun vs H Q E h => ?_) (fun cdv A' outer s H vs Q E hr h => ?_), F.binds fun _ _ _ _ _ _ us hl => match us, hl with | [_, _], _ => rfl⟩
  · obtain ⟨a, v, rfl, _⟩ := h
    rfl
  · obtain ⟨a, v, rfl, ha, k⟩ := h
    refine ⟨_, (pss_one (ps_ost (pv 0) (pv 1))), ?_⟩
    exact ⟨_, rfl, _, rfl, a, A.InvalidImage, rfl, T.e_InvalidImage.oex, T.f_InvalidImage.nf, Or.inl ⟨ha, fun dx hdx ne => k dx hdx ne⟩⟩


theorem ok_NotState (T : Txt K mg A)   : Okd P w K mg base CX0 1 A.i_NotState P_NotState (spInit A.NotState "record") := by
  obtain ⟨fd, F⟩ := T.f_NotState.fn

  refine ⟨fd, F.ok sc_NotState (fun vs H Q E h => ?_) (fun cdv A' outer s H vs Q E hr h => ?_), F.binds fun _ _ _ _ _ _ us hl => match us, hl with | [_, _], _ => rfl⟩
  · obtain ⟨a, v, rfl, _⟩ := h
    rfl
  · obtain ⟨a, v, rfl, ha, k⟩ := h
    refine ⟨_, (pss_one (ps_ost (pv 0) (pv 1))), ?_⟩
    exact ⟨_, rfl, _, rfl, a, A.NotState, rfl, T.e_NotState.oex, T.f_NotState.nf, Or.inl ⟨ha, fun dx hdx ne => k dx hdx ne⟩⟩

end

section
variable {P : Program} {w : World} {K : PySem.W.Frag} {mg : Str → Option Value} {base : Heap} {A : Ad}
theorem ok_check_image (T : Txt K mg A)  (g_InvalidImage : Okd P w K mg base CX0 1 A.i_InvalidImage P_InvalidImage (spInit A.InvalidImage "record")) : Okd P w K mg base (L2N.CX P w) 3 A.check_image P_check_image (spCI A) := by
  obtain ⟨fd, F⟩ := T.d_check_image
  obtain ⟨fd_InvalidImage, G_InvalidImage, b_InvalidImage⟩ := g_InvalidImage
  refine ⟨fd, F.okN sc_check_image (fun vs H Q E h => ?_) (fun cdv A' outer s H vs Q E hr h => ?_), F.binds fun _ _ _ _ _ _ us hl => match us, hl with | [_], _ => rfl⟩
  · obtain ⟨a, xs, rfl, _⟩ := h
    rfl
  · obtain ⟨a, xs, rfl, hx, hl, kq, kr⟩ := h
    refine ⟨_, (pss_cons (ps_set (i := 1) sc_check_image.nd rfl (Or.inl rfl) (pe_callB call_len_seq (by rfl) T.n_len PySem.boot_len (pa_cons (pv 0) pa_nil)))
      (pss_one (ps_for (passes_of rfl) rfl (pi_enum (by rfl) T.n_enumerate (pa_cons (pv 0) pa_nil)) (pg_tup (by rfl) (pgs_cons (pg_name (i := 2) sc_check_image.nd rfl (Or.inl rfl)) (pgs_cons (pg_name (i := 3) sc_check_image.nd rfl (Or.inl rfl)) pgs_nil))) (pss_one (ps_if (PW.pt (pw_or (pt_cmpR op_lt (pv 3) pe_int (nomark _)) (pw_or1 (pt_cmpR op_ge (pv 3) (pv 1) (nomark _))))) (pss_one (L2N.ps_raise rfl (L2N.takes_of rfl rfl rfl rfl) (L2N.pmk_oexN T.e_InvalidImage.oex T.f_InvalidImage.i T.f_InvalidImage.t G_InvalidImage (hr.mono (by decide)) b_InvalidImage pass0 rfl T.e_InvalidImage.g (pa_cons (pv 2) pa_nil)))) pss_nil))))), ?_⟩
    refine ⟨_, rfl, _, _, rfl, Or.inl (SqL.of hx), ?_⟩
    refine ⟨_, rfl, _, _, rfl, SqL.of hx, for_it walk_enum (fun i σ H' => ∃ v1 v2 : Option V, σ = [some (.ref a), some (.int ((xs.map V.int).length : Int)), v1, v2] ∧ Ex H H' ∧ ∀ j, j < i → badN xs j = false)
      ⟨none, none, rfl, Ex.refl H, fun j hj => absurd hj (Nat.not_lt_zero _)⟩ (fun i σ H' _ ⟨_, _, _, e, _⟩ => SqL.of (e _ _ hx)) ?_ ?_⟩
    · rintro i x σ H' H2 hi ⟨v1, v2, rfl, e, nb⟩ ⟨T0, y1, y2, rfl, hT, rfl, e1, e2⟩
      rw [List.length_map] at hi
      obtain ⟨z, hz, rfl⟩ := markV_int e2
      cases e1
      have hbad : badN xs i = (decide (z < 0) || decide ((xs.length : Int) ≤ z)) := by
        unfold badN
        rw [strip_getD_of hz]
      have raise : badN xs i = true → ∀ d H3, Ex (upd H' T0 (.tup [.int (i : Nat), .int z])) H3 → H3 d = some (.xd [("record", .int (i : Int))]) → E (.ref A.InvalidImage) (some d) H3 := fun hb d H3 ex hd =>
        kr i (firstOf_some hi hb nb) d H3 ((ex_new e hT).trans ex) hd
      refine ⟨T0, _, rfl, SqT.of upd_same, rfl, _, _, rfl, _, _, rfl, rfl, ?_⟩
      walk_at "r"
      refine ite_b (fun c => ?_) (fun c => ?_)
      · exact ⟨_, rfl, (by show 1 ≤ 1000; decide), mkO_go (raise (by rw [hbad, c]; rfl))⟩
      walk_at "r"
      rw [List.length_map]
      refine ite_b (fun c2 => ?_) (fun c2 => ?_)
      · exact ⟨_, rfl, (by show 1 ≤ 1000; decide), mkO_go (raise (by rw [hbad, c2, Bool.or_true]))⟩
      refine ⟨_, _, rfl, ex_new e hT, fun j hj => ?_⟩
      by_cases hji : j = i
      · rw [hji, hbad, c, c2]
        rfl
      · exact nb j (by omega)
    · rintro σ H' ⟨v1, v2, rfl, e, nb⟩
      rw [List.length_map] at nb
      exact kq (firstOf_none nb) H' e

end

section
variable {P : Program} {w : World} {K : PySem.W.Frag} {mg : Str → Option Value} {base : Heap} {A : Ad}
theorem ok_check_state (T : Txt K mg A)  (g_check_image : Okd P w K mg base (L2N.CX P w) 3 A.check_image P_check_image (spCI A)) (g_NotState : Okd P w K mg base CX0 1 A.i_NotState P_NotState (spInit A.NotState "record")) : Okd P w K mg base (L2N.CX P w) 4 A.check_state P_check_state (spCS A) := by
  obtain ⟨fd, F⟩ := T.d_check_state
  obtain ⟨fd_check_image, G_check_image, b_check_image⟩ := g_check_image
  obtain ⟨fd_NotState, G_NotState, b_NotState⟩ := g_NotState
  refine ⟨fd, F.okN sc_check_state (fun vs H Q E h => ?_) (fun cdv A' outer s H vs Q E hr h => ?_), F.binds fun _ _ _ _ _ _ us hl => match us, hl with | [_], _ => rfl⟩
  · obtain ⟨a, xs, rfl, _⟩ := h
    rfl
  · obtain ⟨a, xs, rfl, hx, hl, kq, kr⟩ := h
    refine ⟨_, (pss_cons (ps_expr (pe_callS G_check_image (hr.mono (by decide)) rfl T.g_check_image T.k_check_image b_check_image (fun σ => L2N.passAt (L2N.takes_of rfl rfl rfl rfl) σ) (pa_cons (pv 0) pa_nil)))
      (pss_one (ps_for (passes_of rfl) rfl (pi_enum (by rfl) T.n_enumerate (pa_cons (pv 0) pa_nil)) (pg_tup (by rfl) (pgs_cons (pg_name (i := 1) sc_check_state.nd rfl (Or.inl rfl)) (pgs_cons (pg_name (i := 2) sc_check_state.nd rfl (Or.inl rfl)) pgs_nil))) (pss_one (ps_if (pt_cmpR op_ne (pe_ix ix_list (pv 0) (pv 2) (fun _ _ => rfl)) (pv 1) (nomark _)) (pss_one (L2N.ps_raise rfl (L2N.takes_of rfl rfl rfl rfl) (L2N.pmk_oexN T.e_NotState.oex T.f_NotState.i T.f_NotState.t G_NotState (hr.mono (by decide)) b_NotState pass0 rfl T.e_NotState.g (pa_cons (pv 1) pa_nil)))) pss_nil))))), ?_⟩
    refine ⟨_, rfl, a, xs, rfl, hx, hl, fun h0 H1 e1 => ?_, fun k hk => ?_⟩
    rotate_left
    · have : faultS xs = some (1, k) := by unfold faultS; rw [hk]
      exact fun d H' e' hd => (kr _ this).1 rfl d H' e' hd
    have hx1 := hx.ex e1
    have nx := hx1.nat h0
    have ln : (nI (natI xs)).length = xs.length := by rw [nI_len, natI_len]
    have lm : (xs.map V.int).length = xs.length := List.length_map ..
    refine ⟨_, rfl, _, _, rfl, SqL.of hx1, for_it walk_enum (fun i σ H' => ∃ v1 v2 : Option V, σ = [some (.ref a), v1, v2] ∧ Ex H1 H' ∧ ∀ j, j < i → gt (natI xs) (gt (natI xs) j) = j)
      ⟨none, none, rfl, Ex.refl H1, fun j hj => absurd hj (Nat.not_lt_zero _)⟩ (fun i σ H' _ ⟨_, _, _, e, _⟩ => SqL.of (e _ _ hx1)) ?_ ?_⟩
    · rintro i x σ H' H2 hi ⟨v1, v2, rfl, e, nb⟩ ⟨T0, y1, y2, rfl, hT, rfl, e1', e2⟩
      rw [lm] at hi
      cases e1'
      have hnat := natI_at h0 hi
      have hz : y2 = V.int ((gt (natI xs) i : Nat) : Int) := by
        obtain ⟨z, hz, rfl⟩ := markV_int e2
        rw [← strip_getD_of hz, hnat.1]
        rfl
      subst hz
      have hg : gt (natI xs) i < xs.length := hnat.2
      have nx2 : ListN (upd H' T0 (.tup [.int (i : Nat), .int ((gt (natI xs) i : Nat) : Int)])) a (natI xs) := (nx.ex e).ex (Ex.new hT)
      refine ⟨T0, _, rfl, SqT.of upd_same, rfl, _, _, rfl, _, _, rfl, rfl, ?_⟩
      refine ⟨_, rfl, _, rfl, a, _, _, _, rfl, rfl, nx2.sz, atN (by rw [natI_len]; exact hg), _, rfl, rfl, _, rfl, ?_⟩
      have dd : (!decide (V.int (((natI xs).getD (gt (natI xs) i) 0 : Nat) : Int) = V.int (i : Int))) = decide (gt (natI xs) (gt (natI xs) i) ≠ i) := by
        by_cases c : gt (natI xs) (gt (natI xs) i) = i
        · have c2 : (natI xs).getD (gt (natI xs) i) 0 = i := c
          rw [c2, decide_eq_true rfl, decide_eq_false (fun h => h c)]
          rfl
        · rw [decide_eq_true c, decide_eq_false]
          · rfl
          · intro h
            injection h with h
            exact c (Int.ofNat.inj h)
      rw [dd]
      refine ite_b (fun c => ?_) (fun c => ?_)
      · have c := of_decide_eq_true c
        have un : unset (natI xs) = some i := firstOf_some (by rw [natI_len]; exact hi) (decide_eq_true c) fun j hj => decide_eq_false fun h => h (nb j hj)
        have fs : faultS xs = some (2, i) := by
          unfold faultS
          rw [h0]
          show (unset (natI xs)).map _ = _
          rw [un]
          rfl
        exact ⟨_, rfl, (by show 1 ≤ 1000; decide), mkO_go fun d H3 ex hd => (kr _ fs).2.1 rfl d H3 ((e1.trans (ex_new e hT)).trans ex) hd⟩
      · have c := Decidable.not_not.mp (of_decide_eq_false c)
        refine ⟨_, _, rfl, ex_new e hT, fun j hj => ?_⟩
        by_cases z : j = i
        · rw [z]
          exact c
        · exact nb j (by omega)
    · rintro σ H' ⟨v1, v2, rfl, e, nb⟩
      rw [lm] at nb
      refine kq ?_ H' (e1.trans e)
      unfold faultS
      rw [h0]
      show (unset (natI xs)).map _ = none
      have un : unset (natI xs) = none := firstOf_none fun j hj => by
        rw [natI_len] at hj
        exact decide_eq_false fun h => h (nb j hj)
      rw [un]
      rfl

end

section
variable {P : Program} {w : World} {K : PySem.W.Frag} {mg : Str → Option Value} {base : Heap} {A : Ad}
theorem ok_check_pair (T : Txt K mg A)  (g_check_state : Okd P w K mg base (L2N.CX P w) 4 A.check_state P_check_state (spCS A)) : Okd P w K mg base (L2N.CX P w) 5 A.check_pair P_check_pair (spCP A) := by
  obtain ⟨fd, F⟩ := T.d_check_pair
  obtain ⟨fd_check_state, G_check_state, b_check_state⟩ := g_check_state
  refine ⟨fd, F.okN sc_check_pair (fun vs H Q E h => ?_) (fun cdv A' outer s H vs Q E hr h => ?_), F.binds fun _ _ _ _ _ _ us hl => match us, hl with | [_, _], _ => rfl⟩
  · obtain ⟨a, b, xs, zs, rfl, _⟩ := h
    rfl
  · obtain ⟨a, b, xs, zs, rfl, hx, hz, hl, hl2, kq, kr⟩ := h
    refine ⟨_, (pss_cons (ps_expr (pe_callS G_check_state (hr.mono (by decide)) rfl T.g_check_state T.k_check_state b_check_state (fun σ => L2N.passAt (L2N.takes_of rfl rfl rfl rfl) σ) (pa_cons (pv 0) pa_nil)))
      (pss_cons (ps_expr (pe_callS G_check_state (hr.mono (by decide)) rfl T.g_check_state T.k_check_state b_check_state (fun σ => L2N.passAt (L2N.takes_of rfl rfl rfl rfl) σ) (pa_cons (pv 1) pa_nil)))
      (pss_one (ps_if (pt_cmpR op_ne (pe_callB call_len_seq (by rfl) T.n_len PySem.boot_len (pa_cons (pv 0) pa_nil)) (pe_callB call_len_seq (by rfl) T.n_len PySem.boot_len (pa_cons (pv 1) pa_nil)) (nomark _)) (pss_one (L2N.ps_raise rfl (L2N.takes_of rfl rfl rfl rfl) (L2N.pmk_own0N PySem.F.excBase_ValueError T.q_UnequalSizes T.e_UnequalSizes.g T.e_UnequalSizes.k (raises_own T.e_UnequalSizes.sub T.e_UnequalSizes.ty) rfl))) pss_nil)))), ?_⟩
    refine ⟨_, rfl, a, xs, rfl, hx, hl, fun f1 H1 e1 => ?_, fun f hf => kr f (by unfold faultF; rw [hf])⟩
    refine ⟨_, rfl, b, zs, rfl, hz.ex e1, hl2, fun f2 H2 e2 => ?_, fun f hf => (kr f (by unfold faultF; rw [f1]; simp only [hf])).mono e1⟩
    have e12 := e1.trans e2
    refine ⟨_, rfl, _, _, rfl, Or.inl (SqL.of (hx.ex e12)), _, rfl, _, _, rfl, Or.inl (SqL.of (hz.ex e12)), ?_⟩
    have l1 : (xs.map V.int).length = xs.length := List.length_map ..
    have l2 : (zs.map V.int).length = zs.length := List.length_map ..
    rw [l1, l2]
    have ff : faultF xs zs = if xs.length ≠ zs.length then some (3, 0) else none := by
      unfold faultF
      rw [f1]
      simp only [f2]
    refine ⟨rfl, _, rfl, ?_⟩
    by_cases c : xs.length = zs.length
    · rw [c, decide_eq_true rfl]
      refine iteF ?_
      exact kq (by rw [ff, if_neg (fun h => h c)]) _ e12
    · rw [decide_eq_false (fun h => by injection h with h; exact c (Int.ofNat.inj h))]
      refine iteT ?_
      exact (kr (3, 0) (by rw [ff, if_pos c])).2.2 rfl _ e12

end

section
variable {P : Program} {w : World} {K : PySem.W.Frag} {mg : Str → Option Value} {base : Heap} {A : Ad}
theorem ok_distance (T : Txt K mg A)  (g_parts : Okd P w K mg base (L2N.CX P w) 6 A.parts P_parts (spPts A)) (g_part_distance : Okd P w K mg base CX0 1 A.part_distance P_part_distance spPd) : Okd P w K mg base (L2N.CX P w) 7 A.distance P_distance (spDs A) := by
  obtain ⟨fd, F⟩ := T.d_distance
  obtain ⟨fd_parts, G_parts, b_parts⟩ := g_parts
  obtain ⟨fd_part_distance, G_part_distance, b_part_distance⟩ := g_part_distance
  refine ⟨fd, F.okN sc_distance (fun vs H Q E h => ?_) (fun cdv A' outer s H vs Q E hr h => ?_), F.binds fun _ _ _ _ _ _ us hl => match us, hl with | [_, _], _ => rfl⟩
  · obtain ⟨a, b, xs, zs, rfl, _⟩ := h
    rfl
  · obtain ⟨a, b, xs, zs, rfl, ha, hb, hl, hl2, kq, kf⟩ := h
    refine ⟨_, (pss_one (ps_ret (pe_callB (cr_sum (by rfl)) (by rfl) T.n_sum (by decide +kernel) (pa_cons (pe_lc (own := [("part", 2)]) (tt := tYes) (by rfl) sc_distance.nd (pi_list (pe_callS G_parts (hr.mono (by decide)) rfl T.g_parts T.k_parts b_parts (fun σ => L2N.passAt (L2N.takes_of rfl rfl rfl rfl) σ) (pa_cons (pv 0) (pa_cons (pv 1) pa_nil)))) (blkOk_by (own := [("part", 2)]) (N := N_distance) (sc := defScope s_distance) (by decide +kernel)) (fun _ _ _ _ _ => (pg_name (i := 2) sc_distance.nd rfl (Or.inl rfl))) (fun _ _ _ _ _ => pts_nil) (fun _ _ _ _ _ => (pe_call G_part_distance (hr.mono (by decide)) (by rfl) T.g_part_distance T.k_part_distance b_part_distance .nil pass0 (pa_cons (pv 2) pa_nil)))) pa_nil)))), ?_⟩
    refine ⟨_, rfl, _, rfl, a, b, xs, zs, rfl, ha, hb, by omega, by omega, fun nf p H2 hp e2 hP => ?_, fun f hf => kf f hf⟩
    obtain ⟨fs1, fs2, hlen⟩ := faultF_no nf
    obtain ⟨s1, st1⟩ := faultS_no fs1
    obtain ⟨s2, st2⟩ := faultS_no fs2
    obtain ⟨ps, bl, of⟩ := bl_ex st1 st2 (by rw [natI_len, natI_len]; exact hlen.symm)
    rw [natI_len] at bl
    have kk0 := kq nf ps bl of
    clear kq kf
    obtain ⟨ts, ht, tl, tk⟩ := hP.at
    rw [bl.parts _ (Nat.le_refl _)] at tl tk
    rw [List.length_map] at tl
    rw [← distS_J bl] at kk0
    have pj : ∀ q, q ∈ psJ ps xs.length ↔ q ∈ ps ∧ isCR q = true := fun q => by rw [bl.psJ_perm.mem_iff, List.mem_filter]
    have lnq : ∀ q ∈ psJ ps xs.length, q.2.1.length ≤ 64 := fun q hq => by
      have hp := ((pj q).1 hq).1
      have := nodup_len (of q hp).ok.nd fun x hx => bl.lt hp x hx
      omega
    have ncr : ∀ q ∈ psJ ps xs.length, 1 < q.1 ∧ q.1 < 4 := fun q hq => ⟨of_decide_eq_true ((pj q).1 hq).2, (of q ((pj q).1 hq).1).ok.w⟩
    have few : (psJ ps xs.length).length ≤ 64 := by
      rw [bl.psJ_perm.length_eq]
      have := ps_len bl
      have := List.length_filter_le isCR ps
      omega
    generalize psJ ps xs.length = js at *
    generalize natI xs = ys at *
    have cl : ∀ q, (canonP ys q).length = q.2.1.length := fun q => (canonP_perm (A := ys)).length_eq
    refine ⟨p, rfl, ⟨_, SqL.of ht⟩, fun D hD => lc_list (K := K) (a := p) (xs := ts.map V.ref) (fun j G => Ex H2 G ∧ G D = some (.lst (((js.take j).map fun q => ((distP q : Nat) : Int)).map V.int))) ⟨Ex.new hD, by rw [upd_same, List.take_zero]; rfl⟩ (fun j G _ q => SqL.of (q.1 _ _ ht)) ?_ ?_⟩
    · rintro j x G hx ⟨e, hd⟩
      obtain ⟨t, htj, rfl⟩ : ∃ t, ts[j]? = some t ∧ x = V.ref t := by
        rw [List.getElem?_map] at hx
        cases q : ts[j]? with
        | none => rw [q] at hx; cases hx
        | some t => rw [q] at hx; exact ⟨t, rfl, (Option.some.inj hx).symm⟩
      have jl : j < js.length := by rw [← tl]; exact (List.getElem?_eq_some_iff.1 htj).1
      have hc1 : js[j]? = some js[j] := List.getElem?_eq_getElem jl
      have tk2 := List.take_succ_eq_append_getElem jl
      have mem : js[j] ∈ js := List.getElem_mem jl
      generalize js[j] = q at hc1 tk2 mem
      have hq := tk j t (outP ys q) htj (by rw [List.getElem?_map, hc1]; rfl)
      have l64 := lnq q mem
      have w := ncr q mem
      refine ⟨rfl, _, rfl, t, outP ys q, rfl, hq.ex e, by show (canonP ys q).length ≤ 200; rw [cl]; omega, _, hd, small1000 (by rw [List.length_map, List.length_map, List.length_take]; omega), fun x o ho => by rw [upd_ne (ne_of_none ho hD)]; exact e _ _ ho, ?_⟩
      rw [upd_same, tk2, List.map_append, List.map_append]
      have d : (if (outP ys q).1 = true then ((outP ys q).2.length : Int) / 2 - 1 else ((outP ys q).2.length : Int) / 2) = ((distP q : Nat) : Int) := by
        have e1 : (outP ys q).1 = decide (q.1 = 3) := rfl
        have e2 : (outP ys q).2.length = q.2.1.length := cl q
        have d2 : distP q = distI q.1 q.2.1.length := rfl
        unfold distI at d2
        have ok := (of q ((pj q).1 mem).1).ok
        have l2 := ok.l2
        have l3 := ok.l3
        rw [e1, e2, d2]
        by_cases w3 : q.1 = 3
        · rw [if_pos (decide_eq_true w3), if_neg (by omega), if_pos w3]
          omega
        · rw [if_neg (by simpa using w3), if_pos (by omega)]
          omega
      rw [d]
      rfl
    · rintro G ⟨e, hd⟩
      rw [List.length_map, tl, List.take_length] at hd
      refine ⟨D, _, rfl, SqL.of hd, ?_⟩
      have sm : ∀ l : List Pc, (l.map fun q => ((distP q : Nat) : Int)).sum = (((l.map distP).sum : Nat) : Int) := by
        intro l
        induction l with
        | nil => rfl
        | cons q l ih =>
          rw [List.map_cons, List.sum_cons, ih, List.map_cons, List.sum_cons]
          omega
      rw [sm]
      exact kk0 G (e2.trans e)

end

section
variable {P : Program} {w : World} {K : PySem.W.Frag} {mg : Str → Option Value} {base : Heap} {A : Ad}
theorem ok_law_draw (T : Txt K mg A)   : Okd P w K mg base CX0 1 A.law_draw P_law_draw spDw := by
  obtain ⟨fd, F⟩ := T.d_law_draw

  refine ⟨fd, F.ok sc_law_draw (fun vs H Q E h => ?_) (fun cdv A' outer s H vs Q E hr h => ?_), F.binds fun _ _ _ _ _ _ us hl => match us, hl with | [_, _], _ => rfl⟩
  · obtain ⟨b, c, n, rfl, _⟩ := h
    rfl
  · obtain ⟨b, c, n, rfl, n0, n1, B, k⟩ := h
    refine ⟨_, (pss_cons (ps_asg (pe_op op_add (pe_ix ix_list (pv 0) pe_int (fun _ _ => rfl)) pe_int) (pg_sub (pv 0) pe_int set_list))
      (pss_cut (ps_if (PW.pt (pw_and (pt_cmpR op_eq (pe_ix ix_list (pv 0) pe_int (fun _ _ => rfl)) pe_int (nomark _)) (pw_and1 (pt_cmpR op_lt (pe_ix ix_list (pv 0) pe_int (fun _ _ => rfl)) (pe_callB call_len_seq (by rfl) T.n_len PySem.boot_len (pa_cons (pe_ix ix_list (pv 0) pe_int (fun _ _ => rfl)) pa_nil)) (nomark _))))) (pss_cons (ps_set (i := 2) sc_law_draw.nd rfl (Or.inl rfl) (pe_ix ix_list (pe_ix ix_list (pv 0) pe_int (fun _ _ => rfl)) (pe_ix ix_list (pv 0) pe_int (fun _ _ => rfl)) (fun _ _ => rfl)))
      (pss_cons (ps_asg (pe_op op_add (pe_ix ix_list (pv 0) pe_int (fun _ _ => rfl)) pe_int) (pg_sub (pv 0) pe_int set_list))
      (pss_one (ps_if (pt_cmpR op_ge (pe_callB call_abs (by rfl) T.n_abs (by decide +kernel) (pa_cons (pv 2) pa_nil)) (pe_op op_pow pe_int pe_int) (nomark _)) (pss_one (ps_asg (pe_callB call_abs (by rfl) T.n_abs (by decide +kernel) (pa_cons (pv 2) pa_nil)) (pg_sub (pv 0) pe_int set_list))) (pss_one (ps_asg (pe_op op_mod (pe_callTy call_int1 (by rfl) T.n_int (by decide +kernel) (pa_cons (pe_op op_add (pe_op op_add (pe_op op_mul (pe_ix ix_list (pv 0) pe_int (fun _ _ => rfl)) pe_int) (pe_op op_mul (pv 2) pe_int)) (pe_ix ix_list (pv 0) pe_int (fun _ _ => rfl))) pa_nil)) pe_int) (pg_sub (pv 0) pe_int set_list))))))) pss_nil)
      (pss_cons (ps_if (pt_cmpR op_gt (pe_ix ix_list (pv 0) pe_int (fun _ _ => rfl)) pe_int (nomark _)) (pss_cons (ps_set (i := 3) sc_law_draw.nd rfl (Or.inl rfl) (pe_op op_mod (pe_callTy call_int1 (by rfl) T.n_int (by decide +kernel) (pa_cons (pe_ix ix_list (pv 0) pe_int (fun _ _ => rfl)) pa_nil)) (pv 1)))
      (pss_cons (ps_asg (pe_op op_fdivW (pe_callTy call_int1 (by rfl) T.n_int (by decide +kernel) (pa_cons (pe_ix ix_list (pv 0) pe_int (fun _ _ => rfl)) pa_nil)) (pv 1)) (pg_sub (pv 0) pe_int set_list))
      (pss_one (ps_ret (pv 3))))) pss_nil)
      (pss_cons (ps_asg (pe_op op_mod (pe_callTy call_int1 (by rfl) T.n_int (by decide +kernel) (pa_cons (pe_op op_add (pe_op op_add (pe_op op_mul (pe_ix ix_list (pv 0) pe_int (fun _ _ => rfl)) pe_int) (pe_op op_mul (pe_ix ix_list (pv 0) pe_int (fun _ _ => rfl)) pe_int)) pe_int) pa_nil)) pe_int) (pg_sub (pv 0) pe_int set_list))
      (pss_cons (ps_set (i := 4) sc_law_draw.nd rfl (Or.inl rfl) (pe_op op_mod (pe_callTy call_int1 (by rfl) T.n_int (by decide +kernel) (pa_cons (pe_op op_add (pe_op op_mul (pe_op op_fdivW (pe_ix ix_list (pv 0) pe_int (fun _ _ => rfl)) pe_int) pe_int) (pe_op op_mul (pe_op op_mod (pe_callTy call_int1 (by rfl) T.n_int (by decide +kernel) (pa_cons (pe_ix ix_list (pv 0) pe_int (fun _ _ => rfl)) pa_nil)) pe_int) pe_int)) pa_nil)) pe_int))
      (pss_one (ps_ret (pe_op op_mod (pe_callTy call_int1 (by rfl) T.n_int (by decide +kernel) (pa_cons (pe_op op_fdivW (pv 4) pe_int) pa_nil)) (pv 1))))))))), ?_⟩
    have nbc := B.bc
    have fin : ∀ (z : Int) H', Bx H' b c → Mut b H H' → Q (V.int (z % n)) H' := fun z H' B' M' => by
      obtain ⟨d, hd⟩ := Int.eq_ofNat_of_zero_le (Int.emod_nonneg z (by omega : n ≠ 0))
      have hdl := Int.emod_lt_of_pos z n0
      rw [hd] at hdl ⊢
      exact k d H' hdl B' M'
    obtain ⟨ns, d0, i0, k0, s0, hb, hc, p1, p2⟩ := B
    refine ⟨_, rfl, b, _, _, _, rfl, rfl, SqL.of hb, atI_nat (j := 4) rfl, _, _, rfl, rfl, _, rfl, b, _, _, 4, rfl, rfl, hb, Evl.ixN_nat (j := 4) (by show 4 < 5; decide), ?_⟩
    have hb1 : upd H b (.lst ([V.ref c, V.int d0, V.int i0, V.int k0, V.int s0].set 4 (V.int (s0 + 1)))) b = some (.lst [V.ref c, V.int d0, V.int i0, V.int k0, V.int (s0 + 1)]) := upd_same
    have K1 : ∀ x o, x ≠ b → H x = some o → upd H b (.lst ([V.ref c, V.int d0, V.int i0, V.int k0, V.int s0].set 4 (V.int (s0 + 1)))) x = some o := fun x o h1 h => by rw [upd_ne h1]; exact h
    generalize upd H b (.lst ([V.ref c, V.int d0, V.int i0, V.int k0, V.int s0].set 4 (V.int (s0 + 1)))) = H1 at hb1 K1 ⊢
    have hc1 := K1 _ _ (Ne.symm nbc) hc
    refine ⟨fun σ G => ∃ (v2 : Option V) (d i k s : Int), σ = [some (.ref b), some (.int n), v2, none, none] ∧ G b = some (.lst [.ref c, .int d, .int i, .int k, .int s]) ∧ 0 ≤ d ∧ 0 ≤ i ∧ (∀ x o, x ≠ b → H x = some o → G x = some o), ?_, ?_⟩
    · refine ⟨_, rfl, b, _, _, _, rfl, rfl, SqL.of hb1, atI_nat (j := 2) rfl, rfl, _, rfl, ?_⟩
      have fin0 : ∃ (v2 : Option V) (d i k s : Int), [some (V.ref b), some (V.int n), none, none, none] = [some (.ref b), some (.int n), v2, none, none] ∧ H1 b = some (.lst [.ref c, .int d, .int i, .int k, .int s]) ∧ 0 ≤ d ∧ 0 ≤ i ∧ (∀ x o, x ≠ b → H x = some o → H1 x = some o) := ⟨none, d0, i0, k0, s0 + 1, rfl, hb1, p1, p2, K1⟩
      refine ite_b (fun c1 => ?_) (fun _ => fin0)
      refine ⟨_, rfl, b, _, _, _, rfl, rfl, SqL.of hb1, atI_nat (j := 1) rfl, _, rfl, b, _, _, _, rfl, rfl, SqL.of hb1, atI_nat (j := 0) rfl, c, _, rfl, .inl (SqL.of hc1), _, _, rfl, rfl, _, rfl, ?_⟩
      refine ite_b (fun c2 => ?_) (fun _ => fin0)
      have c2 := of_decide_eq_true c2
      rw [List.length_map] at c2
      obtain ⟨d0, rfl⟩ := Int.eq_ofNat_of_zero_le p1
      have il : d0 < ns.length := by omega
      have az : atI (ns.map V.int) ((d0 : Nat) : Int) = some (V.int (ns[d0])) := atI_nat (by rw [List.getElem?_map, List.getElem?_eq_getElem il]; rfl)
      generalize ns[d0] = cell at az
      refine ⟨_, rfl, b, _, _, _, rfl, rfl, SqL.of hb1, atI_nat (j := 0) rfl, _, rfl, b, _, _, _, rfl, rfl, SqL.of hb1, atI_nat (j := 1) rfl, c, _, _, _, rfl, rfl, SqL.of hc1, az, ?_⟩
      refine ⟨_, rfl, b, _, _, _, rfl, rfl, SqL.of hb1, atI_nat (j := 1) rfl, _, _, rfl, rfl, _, rfl, b, _, _, 1, rfl, rfl, hb1, Evl.ixN_nat (j := 1) (by show 1 < 5; decide), ?_⟩
      have hb2 : upd H1 b (.lst ([V.ref c, V.int (d0 : Int), V.int i0, V.int k0, V.int (s0 + 1)].set 1 (V.int ((d0 : Int) + 1)))) b = some (.lst [V.ref c, V.int ((d0 : Int) + 1), V.int i0, V.int k0, V.int (s0 + 1)]) := upd_same
      have K2 : ∀ x o, x ≠ b → H x = some o → upd H1 b (.lst ([V.ref c, V.int (d0 : Int), V.int i0, V.int k0, V.int (s0 + 1)].set 1 (V.int ((d0 : Int) + 1)))) x = some o := fun x o h1 h => by rw [upd_ne h1]; exact K1 x o h1 h
      generalize upd H1 b (.lst ([V.ref c, V.int (d0 : Int), V.int i0, V.int k0, V.int (s0 + 1)].set 1 (V.int ((d0 : Int) + 1)))) = H2 at hb2 K2 ⊢
      refine ⟨_, rfl, _, rfl, _, _, rfl, rfl, ⟨by decide, by decide, by decide⟩, _, _, rfl, rfl, _, rfl, ?_⟩
      refine ite_b (fun c3 => ?_) (fun c3 => ?_)
      · refine ⟨_, rfl, _, rfl, _, rfl, b, _, _, 2, rfl, rfl, hb2, Evl.ixN_nat (j := 2) (by show 2 < 5; decide), ?_⟩
        exact ⟨_, (d0 : Int) + 1, (if cell < 0 then -cell else cell), k0, s0 + 1, rfl, upd_same, by omega, by split <;> omega, fun x o h1 h => by rw [upd_ne h1]; exact K2 x o h1 h⟩
      · refine ⟨_, rfl, b, _, _, _, rfl, rfl, SqL.of hb2, atI_nat (j := 3) rfl, _, _, rfl, rfl, Or.inr ⟨by decide, by decide⟩, _, rfl, _, _, rfl, rfl, Or.inr ⟨by decide, by decide⟩, _, _, rfl, rfl, _, rfl, b, _, _, _, rfl, rfl, SqL.of hb2, atI_nat (j := 4) rfl, _, _, rfl, rfl, Or.inl ⟨_, rfl, _, _, rfl, rfl, (by show (0 : Int) < _; decide), _, rfl, b, _, _, 3, rfl, rfl, hb2, Evl.ixN_nat (j := 3) (by show 3 < 5; decide), ?_⟩⟩
        exact ⟨_, (d0 : Int) + 1, i0, _, s0 + 1, rfl, upd_same, by omega, p2, fun x o h1 h => by rw [upd_ne h1]; exact K2 x o h1 h⟩
    rintro σ G ⟨v2, d, i, k1, s, rfl, hG, q1, q2, KG⟩
    have hcG := KG _ _ (Ne.symm nbc) hc
    refine ⟨_, rfl, b, _, _, _, rfl, rfl, SqL.of hG, atI_nat (j := 2) rfl, _, _, rfl, rfl, _, rfl, ?_⟩
    refine ite_b (fun c1 => ?_) (fun c1 => ?_)
    · have c1 := of_decide_eq_true c1
      refine ⟨_, rfl, b, _, _, _, rfl, rfl, SqL.of hG, atI_nat (j := 2) rfl, Or.inl ⟨_, rfl, _, rfl, _, _, rfl, rfl, n0, ?_⟩⟩
      refine ⟨_, rfl, b, _, _, _, rfl, rfl, SqL.of hG, atI_nat (j := 2) rfl, Or.inl ⟨_, rfl, _, rfl, _, _, rfl, rfl, wide_div (b := 60) (by omega) (by omega) (by decide) (by decide), _, rfl, b, _, _, 2, rfl, rfl, hG, Evl.ixN_nat (j := 2) (by show 2 < 5; decide), ?_⟩⟩
      have K3 : ∀ x o, x ≠ b → H x = some o → upd G b (.lst ([V.ref c, V.int d, V.int i, V.int k1, V.int s].set 2 (V.int (i / n)))) x = some o := fun x o h1 h => by rw [upd_ne h1]; exact KG x o h1 h
      exact ⟨_, rfl, fin i _ ⟨ns, d, i / n, k1, s, upd_same, K3 _ _ (Ne.symm nbc) hc, q1, Int.ediv_nonneg (by omega) (by omega)⟩ K3⟩
    · refine ⟨_, rfl, b, _, _, _, rfl, rfl, SqL.of hG, atI_nat (j := 3) rfl, _, _, rfl, rfl, Or.inr ⟨by decide, by decide⟩, _, rfl, b, _, _, _, rfl, rfl, SqL.of hG, atI_nat (j := 4) rfl, _, _, rfl, rfl, Or.inr ⟨by decide, by decide⟩, _, _, rfl, rfl, _, _, rfl, rfl, Or.inl ⟨_, rfl, _, _, rfl, rfl, (by show (0 : Int) < _; decide), _, rfl, b, _, _, 3, rfl, rfl, hG, Evl.ixN_nat (j := 3) (by show 3 < 5; decide), ?_⟩⟩
      have hb3 : upd G b (.lst ([V.ref c, V.int d, V.int i, V.int k1, V.int s].set 3 ((fun i j : Int => V.int (i % j)) (k1 * 48271 + s * 69621 + 12345) 2147483647))) b = some (.lst [V.ref c, V.int d, V.int i, V.int ((k1 * 48271 + s * 69621 + 12345) % 2147483647), V.int s]) := upd_same
      have K3 : ∀ x o, x ≠ b → H x = some o → upd G b (.lst ([V.ref c, V.int d, V.int i, V.int k1, V.int s].set 3 ((fun i j : Int => V.int (i % j)) (k1 * 48271 + s * 69621 + 12345) 2147483647))) x = some o := fun x o h1 h => by rw [upd_ne h1]; exact KG x o h1 h
      generalize upd G b (.lst ([V.ref c, V.int d, V.int i, V.int k1, V.int s].set 3 ((fun i j : Int => V.int (i % j)) (k1 * 48271 + s * 69621 + 12345) 2147483647))) = G3 at hb3 K3 ⊢
      generalize (k1 * 48271 + s * 69621 + 12345) % 2147483647 = kk at hb3
      refine ⟨_, rfl, b, _, _, _, rfl, rfl, SqL.of hb3, atI_nat (j := 3) rfl, _, _, rfl, rfl, wide_div (b := 60) (by decide) (by decide) (by decide) (by decide), _, _, rfl, rfl, Or.inr ⟨by decide, by decide⟩, _, rfl, b, _, _, _, rfl, rfl, SqL.of hb3, atI_nat (j := 3) rfl, Or.inl ⟨_, rfl, _, _, rfl, rfl, (by show (0 : Int) < _; decide), _, _, rfl, rfl, Or.inr ⟨by decide, by decide⟩, _, _, rfl, rfl, Or.inl ⟨_, rfl, _, _, rfl, rfl, (by show (0 : Int) < _; decide), ?_⟩⟩⟩
      refine ⟨_, rfl, _, _, rfl, rfl, wide_div (b := 60) (by decide) (by decide) (by decide) (by decide), Or.inl ⟨_, rfl, _, rfl, _, _, rfl, rfl, n0, ?_⟩⟩
      exact fin _ G3 ⟨ns, d, i, kk, s, hb3, K3 _ _ (Ne.symm nbc) hc, q1, q2⟩ K3

end

section
variable {P : Program} {w : World} {K : PySem.W.Frag} {mg : Str → Option Value} {base : Heap} {A : Ad}
theorem filt_len {l : List (Nat × Bool)} {q : Nat × Bool → Bool} {j : Nat} {x : Nat × Bool} (h : l[j]? = some x) : ((l.take (j + 1)).filter q).length = ((l.take j).filter q).length + if q x = true then 1 else 0 := by
  have jl := (List.getElem?_eq_some_iff.1 h).1
  rw [List.take_succ_eq_append_getElem jl, List.filter_append, List.length_append]
  have e : l[j] = x := (List.getElem?_eq_some_iff.1 h).2
  rw [e, List.filter_cons, List.filter_nil]
  split <;> rfl
theorem ok_law_far (T : Txt K mg A)  (g_law_lots : Okd P w K mg base CX0 1 A.law_lots P_law_lots spLo) : Okd P w K mg base CX0 2 A.law_far P_law_far spFa := by
  obtain ⟨fd, F⟩ := T.d_law_far
  obtain ⟨fd_law_lots, G_law_lots, b_law_lots⟩ := g_law_lots
  refine ⟨fd, F.ok sc_law_far (fun vs H Q E h => ?_) (fun cdv A' outer s H vs Q E hr h => ?_), F.binds fun _ _ _ _ _ _ us hl => match us, hl with | [_, _], _ => rfl⟩
  · obtain ⟨l, r, ys, zs, ps, n, rfl, _⟩ := h
    rfl
  · obtain ⟨l, r, ys, zs, ps, n, rfl, hl, hr0, bl, of, n64, k⟩ := h
    refine ⟨_, (pss_cons (ps_set (i := 2) sc_law_far.nd rfl (Or.inl rfl) (pe_call G_law_lots (hr.mono (by decide)) (by rfl) T.g_law_lots T.k_law_lots b_law_lots .nil pass0 (pa_cons (pv 0) (pa_cons (pv 1) pa_nil))))
      (pss_cons (ps_set (i := 3) sc_law_far.nd rfl (Or.inl rfl) (pe_callB call_len_seq (by rfl) T.n_len PySem.boot_len (pa_cons (pe_lc (own := [("lot", 5)]) (tt := _) (by rfl) sc_law_far.nd (pi_list (pv 2)) (blkOk_by (own := [("lot", 5)]) (N := N_law_far) (sc := defScope s_law_far) (by decide +kernel)) (fun _ _ _ _ _ => (pg_name (i := 5) sc_law_far.nd rfl (Or.inl rfl))) (fun _ _ _ _ _ => (pts_one (pt_cmpR op_eq (pe_op op_mod (pe_callTy call_int1 (by rfl) T.n_int (by decide +kernel) (pa_cons (pe_ix (ix_tupK (K := K) rfl) (pv 5) pe_int (fun _ _ => rfl)) pa_nil)) pe_int) pe_int (nomark _)))) (fun _ _ _ _ _ => (pv 5))) pa_nil)))
      (pss_cons (ps_set (i := 4) sc_law_far.nd rfl (Or.inl rfl) (pe_callB call_len_seq (by rfl) T.n_len PySem.boot_len (pa_cons (pe_lc (own := [("lot", 5)]) (tt := _) (by rfl) sc_law_far.nd (pi_list (pv 2)) (blkOk_by (own := [("lot", 5)]) (N := N_law_far) (sc := defScope s_law_far) (by decide +kernel)) (fun _ _ _ _ _ => (pg_name (i := 5) sc_law_far.nd rfl (Or.inl rfl))) (fun _ _ _ _ _ => (pts_one (pt_val (pe_ix (ix_tupK (K := K) rfl) (pv 5) pe_int (fun _ _ => rfl))))) (fun _ _ _ _ _ => (pv 5))) pa_nil)))
      (pss_one (ps_ret (pe_op op_sub (pe_op op_fdivW (pe_op op_sub (pe_callB call_len_seq (by rfl) T.n_len PySem.boot_len (pa_cons (pv 0) pa_nil)) (pv 3)) pe_int) (pv 4))))))), ?_⟩
    refine ⟨_, rfl, _, rfl, l, r, ys, zs, ps, n, rfl, hl, hr0, bl, of, n64, fun p ls H1 hp e1 hls pm few => ?_⟩
    obtain ⟨d1, d2, d3⟩ := far_is bl pm
    obtain ⟨ts, ht, tl, tk⟩ := hls
    have at_ : ∀ j x, (ts.map V.ref)[j]? = some x → ∃ t q, ts[j]? = some t ∧ x = V.ref t ∧ ls[j]? = some q ∧ LotAt H1 t q := fun j x hx => by
      rw [List.getElem?_map] at hx
      cases c : ts[j]? with
      | none => rw [c] at hx; cases hx
      | some t =>
        rw [c] at hx
        have jl : j < ls.length := by rw [← tl]; exact (List.getElem?_eq_some_iff.1 c).1
        exact ⟨t, ls[j], c, (Option.some.inj hx).symm, List.getElem?_eq_getElem jl, tk j t _ c (List.getElem?_eq_getElem jl)⟩
    have ends : ∀ q : Nat × Bool → Bool, ((ls.take ts.length).filter q).length = (ls.filter q).length := fun q => by rw [tl, List.take_length]
    have lim : ∀ (q : Nat × Bool → Bool) (j : Nat), ((ls.take j).filter q).length ≤ 64 := fun q j => by
      have h1 := List.length_filter_le q (ls.take j)
      have h2 := List.length_take_le' j ls
      omega
    refine ⟨_, rfl, p, rfl, ⟨_, SqL.of ht⟩, fun D hD => lc_list (K := K) (a := p) (xs := ts.map V.ref) (fun j G => Ex H1 G ∧ ∃ us, G D = some (.lst us) ∧ us.length = ((ls.take j).filter fun l => decide (l.1 % 2 = 1)).length) ⟨Ex.new hD, [], upd_same, rfl⟩ (fun j G _ q => SqL.of (q.1 _ _ ht)) ?_ ?_⟩
    · rintro j x G hx ⟨e, us, hd, ul⟩
      obtain ⟨t, q, htj, rfl, hq, hT⟩ := at_ j x hx
      have hT2 := e _ _ hT
      refine ⟨rfl, _, rfl, t, _, _, _, rfl, rfl, SqT.of hT2, atI_nat (j := 0) rfl, .inl ⟨_, rfl, _, _, rfl, rfl, (by show (0 : Int) < 2; decide), rfl, _, rfl, ?_⟩⟩
      have fl := filt_len (q := fun l : Nat × Bool => decide (l.1 % 2 = 1)) hq
      by_cases c : q.1 % 2 = 1
      · rw [if_pos (decide_eq_true c)] at fl
        refine ifT (decide_eq_true (show V.int ((q.1 : Int) % 2) = V.int 1 by rw [show (q.1 : Int) % 2 = 1 by omega])) ⟨_, rfl, _, hd, small1000 (by have := lim (fun l => decide (l.1 % 2 = 1)) j; omega), fun x o ho => by rw [upd_ne (ne_of_none ho hD)]; exact e _ _ ho, _, upd_same, by rw [List.length_append, fl, ul]; rfl⟩
      · rw [if_neg (by simpa using c)] at fl
        exact ifF (decide_eq_false (show ¬ V.int ((q.1 : Int) % 2) = V.int 1 from fun z => by injection z with z; omega)) ⟨e, us, hd, by rw [fl, ul]; rfl⟩
    rintro G ⟨e, us, hd, ul⟩
    rw [List.length_map, ends] at ul
    refine ⟨D, _, rfl, .inl (SqL.of hd), ?_⟩
    rw [ul]
    have eG := e1.trans e
    refine ⟨_, rfl, p, rfl, ⟨_, SqL.of (e _ _ ht)⟩, fun D2 hD2 => lc_list (K := K) (a := p) (xs := ts.map V.ref) (fun j G2 => Ex G G2 ∧ ∃ us, G2 D2 = some (.lst us) ∧ us.length = ((ls.take j).filter fun l => l.2).length) ⟨Ex.new hD2, [], upd_same, rfl⟩ (fun j G2 _ q => SqL.of (q.1 _ _ (e _ _ ht))) ?_ ?_⟩
    · rintro j x G2 hx ⟨e2, us, hd, ul⟩
      obtain ⟨t, q, htj, rfl, hq, hT⟩ := at_ j x hx
      have hT2 := e2 _ _ (e _ _ hT)
      have fl := filt_len (q := fun l : Nat × Bool => l.2) hq
      refine ⟨rfl, _, rfl, t, _, _, _, rfl, rfl, SqT.of hT2, atI_nat (j := 1) rfl, q.2, rfl, ?_⟩
      cases c : q.2 with
      | true =>
        rw [if_pos c] at fl
        exact iteT ⟨_, rfl, _, hd, small1000 (by have := lim (fun l => l.2) j; omega), fun x o ho => by rw [upd_ne (ne_of_none ho hD2)]; exact e2 _ _ ho, _, upd_same, by rw [List.length_append, fl, ul]; rfl⟩
      | false =>
        rw [if_neg (by rw [c]; decide)] at fl
        exact iteF ⟨e2, us, hd, by rw [fl, ul]; rfl⟩
    rintro G2 ⟨e2, us2, hd2, ul2⟩
    rw [List.length_map, ends] at ul2
    refine ⟨D2, _, rfl, .inl (SqL.of hd2), ?_⟩
    rw [ul2]
    have eG2 := eG.trans e2
    have lb : ys.length = n := bl.la
    refine ⟨_, rfl, l, _, rfl, .inl (SqL.of (eG2 _ _ hl)), _, rfl, _, _, rfl, rfl, _, _, rfl, rfl, ?_, _, rfl, _, _, rfl, rfl, ?_⟩
    · rw [nI_len]
      first
        | exact wide_div (b := 60) (by omega) (by omega) (by decide) (by decide)
        | exact ⟨by omega, by omega, by decide⟩
    · unfold farL at d1
      have num : ((nI ys).length : Int) = (n : Int) := by rw [nI_len, lb]
      rw [num]
      generalize (ls.filter fun l => decide (l.1 % 2 = 1)).length = u at *
      generalize (ls.filter fun l => l.2).length = w at *
      have := k G2 eG2
      rw [← d1] at this
      have fin : (((n : Int) - (u : Int)) / 2 - (w : Int)) = (((n - u) / 2 - w : Nat) : Int) := by omega
      show Q (V.int (((n : Int) - (u : Int)) / 2 - (w : Int))) G2
      rw [fin]
      exact this

end

section
variable {P : Program} {w : World} {K : PySem.W.Frag} {mg : Str → Option Value} {base : Heap} {A : Ad}
/-- n bools told by their places -/
def nB (f : Nat → Bool) (n : Nat) : List V := (List.range n).map fun j => V.bl (f j)
theorem nB_len {f : Nat → Bool} {n : Nat} : (nB f n).length = n := by unfold nB; rw [List.length_map, List.length_range]
theorem nB_at {f : Nat → Bool} {n j : Nat} (h : j < n) : (nB f n)[j]? = some (V.bl (f j)) := by
  unfold nB
  rw [List.getElem?_map, List.getElem?_range h]
  rfl
theorem nB_set {f : Nat → Bool} {n i : Nat} {b : Bool} : (nB f n).set i (V.bl b) = nB (fun j => if j = i then b else f j) n := by
  unfold nB
  refine List.ext_getElem (by simp) fun j h1 h2 => ?_
  rw [List.getElem_set, List.getElem_map, List.getElem_map, List.getElem_range]
  by_cases c : i = j
  · rw [if_pos c]
    show V.bl b = V.bl (if j = i then b else f j)
    rw [if_pos c.symm]
  · rw [if_neg c]
    show V.bl (f j) = V.bl (if j = i then b else f j)
    rw [if_neg (fun z : j = i => c z.symm)]
theorem nB_snoc {f : Nat → Bool} {n : Nat} : nB f n ++ [V.bl (f n)] = nB f (n + 1) := by
  unfold nB
  rw [List.range_succ, List.map_append]
  rfl
theorem nB_congr {f g : Nat → Bool} {n : Nat} (h : ∀ j, j < n → f j = g j) : nB f n = nB g n := List.map_congr_left fun j hj => by rw [h j (List.mem_range.mp hj)]
theorem atv {R : List Nat} {i : Nat} (h : i < R.length) : (nI R)[i]? = some (V.int ((gt R i : Nat) : Int)) := by
  unfold nI gt
  rw [List.getElem?_map, List.getElem?_eq_getElem h, List.getD_eq_getElem?_getD, List.getElem?_eq_getElem h]
  rfl
theorem natv {R : List Nat} {i : Nat} {y : V} (h : (nI R)[i]? = some y) : i < R.length ∧ y = V.int ((gt R i : Nat) : Int) := by
  have l : i < R.length := by
    have := (List.getElem?_eq_some_iff.mp h).1
    unfold nI at this
    rw [List.length_map] at this
    exact this
  refine ⟨l, ?_⟩
  rw [atv l] at h
  exact (Option.some.inj h).symm
theorem nIl {R : List Nat} : (nI R).length = R.length := List.length_map ..
theorem ok_law_lots (T : Txt K mg A)   : Okd P w K mg base CX0 1 A.law_lots P_law_lots spLo := by
  obtain ⟨fd, F⟩ := T.d_law_lots

  refine ⟨fd, F.ok sc_law_lots (fun vs H Q E h => ?_) (fun cdv A' outer s H vs Q E hr h => ?_), F.binds fun _ _ _ _ _ _ us hl => match us, hl with | [_, _], _ => rfl⟩
  · obtain ⟨a, b, R, S, ps, n, rfl, _⟩ := h
    rfl
  · obtain ⟨a, b, R, S, ps, n, rfl, ha, hb, B0, of, n64, k⟩ := h
    refine ⟨_, (pss_cons (ps_setLc (i := 2) (own := [("x", 9)]) (tt := tYes) (by rfl) sc_law_lots.nd rfl rfl (sw_true rfl rfl rfl (by decide +kernel)) (pi_list (pv 0)) (blkOk_by (own := [("x", 9)]) (N := N_law_lots) (sc := defScope s_law_lots) (by decide +kernel)) (fun _ _ _ _ _ => (pg_name (i := 9) sc_law_lots.nd rfl (Or.inl rfl))) (fun _ _ _ _ _ => pts_nil) (fun _ _ _ _ _ => pe_bl))
      (pss_cons (ps_set (i := 3) sc_law_lots.nd rfl (Or.inl rfl) (pe_lst pa_nil))
      (pss_cons (ps_for PassesOwn.never rfl (pi_range1 (by rfl) T.n_range (pa_cons (pe_callB call_len_seq (by rfl) T.n_len PySem.boot_len (pa_cons (pv 0) pa_nil)) pa_nil)) (pg_name (i := 4) sc_law_lots.nd rfl (Or.inl rfl)) (pss_one (ps_if (pt_not (pt_val (pe_ix ix_list (pv 2) (pv 4) (fun _ _ => rfl)))) (pss_cons (ps_asg pe_bl (pg_sub (pv 2) (pv 4) set_list))
      (pss_cons (ps_set (i := 5) sc_law_lots.nd rfl (Or.inl rfl) (pe_lst (pa_cons (pv 4) pa_nil)))
      (pss_cut (ps_for PassesOwn.never rfl (pi_range1 (by rfl) T.n_range (pa_cons (pe_callB call_len_seq (by rfl) T.n_len PySem.boot_len (pa_cons (pv 0) pa_nil)) pa_nil)) (pg_name (i := 6) sc_law_lots.nd rfl (Or.inl rfl)) (pss_cons (ps_if (pt_cmpR op_ge (pv 6) (pe_callB call_len_seq (by rfl) T.n_len PySem.boot_len (pa_cons (pv 5) pa_nil)) (nomark _)) (pss_one ps_break) pss_nil)
      (pss_one (ps_for PassesOwn.never rfl (pi_tup (pe_tup (pa_cons (pe_ix ix_list (pv 0) (pe_ix ix_list (pv 5) (pv 6) (fun _ _ => rfl)) (fun _ _ => rfl)) (pa_cons (pe_ix ix_list (pv 1) (pe_ix ix_list (pv 5) (pv 6) (fun _ _ => rfl)) (fun _ _ => rfl)) pa_nil)))) (pg_name (i := 7) sc_law_lots.nd rfl (Or.inl rfl)) (pss_one (ps_if (pt_not (pt_val (pe_ix ix_list (pv 2) (pv 7) (fun _ _ => rfl)))) (pss_cons (ps_asg pe_bl (pg_sub (pv 2) (pv 7) set_list))
      (pss_one (ps_expr (pe_bm PySem.F.plainAttrs_list PySem.F.slot_list_append PySem.F.type_list_append mt_append (pv 5) (pa_cons (pv 7) pa_nil))))) pss_nil))))))
      (pss_cons (ps_set (i := 8) sc_law_lots.nd rfl (Or.inl rfl) (pe_callB call_len_seq (by rfl) T.n_len PySem.boot_len (pa_cons (pe_lc (own := [("x", 9)]) (tt := _) (by rfl) sc_law_lots.nd (pi_list (pv 5)) (blkOk_by (own := [("x", 9)]) (N := N_law_lots) (sc := defScope s_law_lots) (by decide +kernel)) (fun _ _ _ _ _ => (pg_name (i := 9) sc_law_lots.nd rfl (Or.inl rfl))) (fun _ _ _ _ _ => (pts_one (PW.pt (pw_or (pt_cmpR op_eq (pe_ix (ix_listK (K := K) rfl) (pv 0) (pv 9) (fun _ _ => rfl)) (pv 9) (nomark _)) (pw_or1 (pt_cmpR op_eq (pe_ix (ix_listK (K := K) rfl) (pv 1) (pv 9) (fun _ _ => rfl)) (pv 9) (nomark _))))))) (fun _ _ _ _ _ => (pv 9))) pa_nil)))
      (pss_one (ps_expr (pe_bm PySem.F.plainAttrs_list PySem.F.slot_list_append PySem.F.type_list_append mt_append (pv 3) (pa_cons (pe_tup (pa_cons (pe_callB call_len_seq (by rfl) T.n_len PySem.boot_len (pa_cons (pv 5) pa_nil)) (pa_cons (pe_cmpR op_eq (pv 8) pe_int (nomark _)) pa_nil))) pa_nil)))))))) pss_nil)))
      (pss_one (ps_ret (pv 3)))))), ?_⟩
    have la := B0.la
    have lb := B0.lb
    refine ⟨_, rfl, a, rfl, ⟨_, SqL.of ha⟩, fun D hD => lc_list (K := K) (a := a) (xs := nI R) (fun j G => Ex H G ∧ G D = some (.lst (nB (fun _ => false) j))) ⟨Ex.new hD, upd_same⟩ (fun j G _ q => SqL.of (q.1 _ _ ha)) ?_ ?_⟩
    · rintro j x G hx ⟨e, hd⟩
      have jn : j < (nI R).length := (List.getElem?_eq_some_iff.1 hx).1
      rw [nIl] at jn
      refine ⟨rfl, _, hd, small1000 (by rw [nB_len]; omega), fun x o ho => ?_, ?_⟩
      · rw [upd_ne (ne_of_none ho hD)]
        exact e _ _ ho
      · rw [upd_same, ← nB_snoc]
    rintro G ⟨eD, hd⟩
    rw [nIl, la] at hd
    refine ⟨(by show 0 ≤ sizeLine; decide), fun f hf => ?_⟩
    have e2 := eD.trans (Ex.new (o := .lst []) hf)
    have nDf : D ≠ f := fun z => by rw [z, hf] at hd; cases hd
    have hd2 : upd G f (.lst []) D = some (.lst (nB (fun _ => false) n)) := (Ex.new hf) _ _ hd
    have hf2 : upd G f (.lst []) f = some (.lst ([].map V.ref)) := upd_same
    have fD : H D = none := hD
    have ff : H f = none := back_none eD hf
    generalize upd G f (.lst []) = H2 at e2 hd2 hf2 ⊢
    have aD : a ≠ D := ne_of_none ha fD
    have af : a ≠ f := ne_of_none ha ff
    have bD : b ≠ D := ne_of_none hb fD
    have bf : b ≠ f := ne_of_none hb ff
    have ha2 := e2 _ _ ha
    have hb2 := e2 _ _ hb
    refine ⟨_, rfl, a, _, rfl, .inl (SqL.of ha2), _, rfl, by rw [nIl]; omega, by rw [nIl]; omega, ?_⟩
    rw [nIl, Int.toNat_natCast, la]
    refine for_range (lo := 0) (n := n) (fun i σ G => ∃ (v4 v5 v6 v7 v8 : Option V) (S0 : Nat → Bool) (dn : List Pc) (ts : List Addr), σ = [some (.ref a), some (.ref b), some (.ref D), some (.ref f), v4, v5, v6, v7, v8, none] ∧ (∀ x o, x ≠ D → x ≠ f → H2 x = some o → G x = some o) ∧ G D = some (.lst (nB S0 n)) ∧ Gs ps dn S0 ∧ (∀ x, x < i → S0 x = true) ∧ G f = some (.lst (ts.map V.ref)) ∧ ts.length = dn.length ∧ ∀ (j : Nat) (t : Addr) (p : Pc), ts[j]? = some t → dn[j]? = some p → LotAt G t (lotP p)) ⟨none, none, none, none, none, fun _ => false, [], [], rfl, fun _ _ _ _ h => h, hd2, ⟨List.nodup_nil, (fun p h => by cases h), (fun x => ⟨(fun h => by cases h), (fun h => by obtain ⟨_, h, _⟩ := h; cases h)⟩)⟩, fun x h => absurd h (Nat.not_lt_zero _), hf2, rfl, fun j t p h => by cases h⟩ ?_ ?_
    · rintro i σ G1 hi ⟨v4, v5, v6, v7, v8, S0, dn, ts, rfl, kp1, hd1, gs, pre, hf1, tl, tat⟩
      rw [Int.zero_add]
      refine ⟨_, rfl, _, rfl, D, _, _, _, rfl, rfl, SqL.of hd1, atI_nat (nB_at hi), _, rfl, ?_⟩
      cases c0 : S0 i with
      | true =>
        refine iteF ⟨_, _, _, _, _, S0, dn, ts, rfl, kp1, hd1, gs, fun x hx => ?_, hf1, tl, tat⟩
        by_cases z : x = i
        · rw [z]; exact c0
        · exact pre x (by omega)
      | false =>
      refine iteT ?_
      obtain ⟨p, hp, ip, g0⟩ := gs.new B0 hi c0
      have ok := B0.ok p hp
      have pa := (B0.at_ p hp).1
      have pb := (B0.at_ p hp).2
      have ltn : ∀ x ∈ p.2.1, x < n := B0.lt hp
      refine ⟨_, rfl, _, rfl, D, _, _, i, rfl, rfl, hd1, Evl.ixN_nat (by rw [nB_len]; exact hi), ?_⟩
      rw [nB_set]
      have kpA : ∀ x o, x ≠ D → G1 x = some o → upd G1 D (.lst (nB (fun j => if j = i then true else S0 j) n)) x = some o := fun x o n h => by rw [upd_ne n]; exact h
      have hdA : upd G1 D (.lst (nB (fun j => if j = i then true else S0 j) n)) D = some (.lst (nB (fun j => if j = i then true else S0 j) n)) := upd_same
      generalize upd G1 D (.lst (nB (fun j => if j = i then true else S0 j) n)) = GA at kpA hdA ⊢
      refine ⟨_, rfl, (by show 1 ≤ sizeLine; decide), fun l hl => ?_⟩
      have eL := Ex.new (o := .lst [V.int (i : Int)]) hl
      have hl0 : ListN (upd GA l (.lst [V.int (i : Int)])) l [i] := upd_same
      have lD : l ≠ D := fun z => by rw [z, hdA] at hl; cases hl
      have kp0 : ∀ x o, x ≠ D → G1 x = some o → upd GA l (.lst [V.int (i : Int)]) x = some o := fun x o n h => eL _ _ (kpA x o n h)
      have fl1 : ∀ x o, x ≠ D → G1 x = some o → x ≠ l := fun x o n h z => by rw [z] at n h; rw [kpA _ _ n h] at hl; cases hl
      have hd0 := eL _ _ hdA
      generalize upd GA l (.lst [V.int (i : Int)]) = G0 at eL hl0 kp0 hd0 ⊢
      have haX := kp1 _ _ aD af ha2
      have hbX := kp1 _ _ bD bf hb2
      have al := fl1 _ _ aD haX
      have bl := fl1 _ _ bD hbX
      have fl := fl1 _ _ nDf.symm hf1
      have ha0 : ListN G0 a R := kp0 _ _ aD haX
      have hb0 : ListN G0 b S := kp0 _ _ bD hbX
      refine ⟨fun σ G => ∃ (v6 v7 : Option V) (line : List Nat) (S1 : Nat → Bool), σ = [some (.ref a), some (.ref b), some (.ref D), some (.ref f), some (.int (i : Int)), some (.ref l), v6, v7, v8, none] ∧ (∀ x o, x ≠ D → x ≠ l → G0 x = some o → G x = some o) ∧ G D = some (.lst (nB S1 n)) ∧ ListN G l line ∧ Ga p S0 line S1 ∧ i ∈ line ∧ Dn R S line line.length, ?_, ?_⟩
      · refine ⟨_, rfl, a, _, rfl, .inl (SqL.of ha0), _, rfl, by rw [nIl]; omega, by rw [nIl]; omega, ?_⟩
        rw [nIl, Int.toNat_natCast, la]
        refine for_range (lo := 0) (n := n) (fun k σ G => ∃ (v6 v7 : Option V) (line : List Nat) (S1 : Nat → Bool), σ = [some (.ref a), some (.ref b), some (.ref D), some (.ref f), some (.int (i : Int)), some (.ref l), v6, v7, v8, none] ∧ (∀ x o, x ≠ D → x ≠ l → G0 x = some o → G x = some o) ∧ G D = some (.lst (nB S1 n)) ∧ ListN G l line ∧ Ga p S0 line S1 ∧ i ∈ line ∧ Dn R S line k ∧ k ≤ line.length) ⟨v6, v7, [i], _, rfl, fun _ _ _ _ h => h, hd0, hl0, g0, List.mem_singleton.mpr rfl, fun q h => absurd h (Nat.not_lt_zero _), Nat.zero_le _⟩ ?_ ?_
        · rintro k0 σ G3 hk ⟨v6, v7, line, S1, rfl, kp3, hd3, hl3, ga, im, dnk, kl⟩
          rw [Int.zero_add]
          refine ⟨_, rfl, _, rfl, l, _, rfl, .inl (SqL.of hl3), _, _, rfl, rfl, _, rfl, ?_⟩
          rw [nIl]
          by_cases c : line.length ≤ k0
          · rw [decide_eq_true (show ((line.length : Nat) : Int) ≤ (k0 : Int) by omega)]
            have e : k0 = line.length := by omega
            rw [e] at dnk
            exact iteT ⟨_, _, line, S1, rfl, kp3, hd3, hl3, ga, im, dnk⟩
          rw [decide_eq_false (show ¬ ((line.length : Nat) : Int) ≤ (k0 : Int) by omega)]
          refine iteF ?_
          have kl : k0 < line.length := by omega
          have gm : gt line k0 ∈ line := by
            unfold gt
            rw [List.getD_eq_getElem?_getD, List.getElem?_eq_getElem kl]
            exact List.getElem_mem kl
          have xin := ga.sub _ gm
          have xl := ltn _ xin
          have y0in := recs_in ok pa xin
          have y1in := recs_in ok pb xin
          have ha3 := kp3 _ _ aD al ha0
          have hb3 := kp3 _ _ bD bl hb0
          refine ⟨_, rfl, _, rfl, _, rfl, l, _, _, _, rfl, rfl, SqL.of hl3, atI_nat (atv kl), a, _, _, _, rfl, rfl, SqL.of ha3, atI_nat (atv (by omega)), _, rfl, _, rfl, _, rfl, l, _, _, _, rfl, rfl, SqL.of hl3, atI_nat (atv kl), b, _, _, _, rfl, rfl, SqL.of hb3, atI_nat (atv (by omega)), (by show 2 ≤ sizeLine; decide), fun t ht => ?_⟩
          have eT := Ex.new (o := .tup [V.int ((gt R (gt line k0) : Nat) : Int), V.int ((gt S (gt line k0) : Nat) : Int)]) ht
          have hT : upd G3 t (.tup [V.int ((gt R (gt line k0) : Nat) : Int), V.int ((gt S (gt line k0) : Nat) : Int)]) t = some (.tup [V.int ((gt R (gt line k0) : Nat) : Int), V.int ((gt S (gt line k0) : Nat) : Int)]) := upd_same
          have tD : t ≠ D := fun z => by rw [z, hd3] at ht; cases ht
          have tl' : t ≠ l := fun z => by have h : G3 l = some _ := hl3; rw [z, h] at ht; cases ht
          generalize upd G3 t (.tup [V.int ((gt R (gt line k0) : Nat) : Int), V.int ((gt S (gt line k0) : Nat) : Int)]) = G4 at eT hT ⊢
          have hd4 := eT _ _ hd3
          have hl4 : ListN G4 l line := eT _ _ hl3
          have kp4 : ∀ x o, x ≠ D → x ≠ l → G0 x = some o → G4 x = some o := fun x o n1 n2 h => eT _ _ (kp3 x o n1 n2 h)
          obtain ⟨y0, ey0⟩ : ∃ y, y = gt R (gt line k0) := ⟨_, rfl⟩
          obtain ⟨y1, ey1⟩ : ∃ y, y = gt S (gt line k0) := ⟨_, rfl⟩
          rw [← ey0, ← ey1] at hT
          rw [← ey0] at y0in
          rw [← ey1] at y1in
          refine ⟨t, rfl, ⟨_, SqT.of hT⟩, for_tup (K := K) (a := t) (xs := [V.int (y0 : Int), V.int (y1 : Int)]) (fun m σ G => ∃ (v7 : Option V) (line2 : List Nat) (S2 : Nat → Bool), σ = [some (.ref a), some (.ref b), some (.ref D), some (.ref f), some (.int (i : Int)), some (.ref l), some (.int (k0 : Int)), v7, v8, none] ∧ (∀ x o, x ≠ D → x ≠ l → G0 x = some o → G x = some o) ∧ G D = some (.lst (nB S2 n)) ∧ ListN G l line2 ∧ Ga p S0 line2 S2 ∧ (∃ ext, line2 = line ++ ext) ∧ (∀ q y, q < m → [y0, y1][q]? = some y → y ∈ line2) ∧ G t = some (.tup [V.int (y0 : Int), V.int (y1 : Int)])) ⟨_, line, S1, rfl, kp4, hd4, hl4, ga, ⟨[], (List.append_nil _).symm⟩, fun q y h => absurd h (Nat.not_lt_zero _), hT⟩ (fun m σ G _ ⟨_, _, _, _, _, _, _, _, _, _, q⟩ => SqT.of q) ?_ ?_⟩
          · rintro m x σ G5 hx ⟨v7, line2, S2, rfl, kp5, hd5, hl5, ga2, ⟨ext, ex⟩, mem, hT5⟩
            obtain ⟨y, hy, rfl, yin⟩ : ∃ y : Nat, [y0, y1][m]? = some y ∧ x = V.int (y : Int) ∧ y ∈ p.2.1 := by
              match m, hx with
              | 0, hx => exact ⟨y0, rfl, (Option.some.inj hx).symm, y0in⟩
              | 1, hx => exact ⟨y1, rfl, (Option.some.inj hx).symm, y1in⟩
              | m + 2, hx => cases hx
            have yl := ltn _ yin
            have l2 : line2.length ≤ 64 := Nat.le_trans (nd_lenL ga2.nd ga2.sub) (by have := recs_len B0 hp; omega)
            refine ⟨_, rfl, _, rfl, D, _, _, _, rfl, rfl, SqL.of hd5, atI_nat (nB_at yl), _, rfl, ?_⟩
            cases cy : S2 y with
            | true =>
              refine iteF ⟨_, line2, S2, rfl, kp5, hd5, hl5, ga2, ⟨ext, ex⟩, fun q z hq hz => ?_, hT5⟩
              by_cases e : q = m
              · rw [e, hy] at hz
                rw [← Option.some.inj hz]
                exact ga2.mem yin cy
              · exact mem q z (by omega) hz
            | false =>
              refine iteT ⟨_, rfl, _, rfl, D, _, _, y, rfl, rfl, hd5, Evl.ixN_nat (by rw [nB_len]; exact yl), ?_⟩
              rw [nB_set]
              have kp6 : ∀ x o, x ≠ D → G5 x = some o → upd G5 D (.lst (nB (fun j => if j = y then true else S2 j) n)) x = some o := fun x o n h => by rw [upd_ne n]; exact h
              have hd6 : upd G5 D (.lst (nB (fun j => if j = y then true else S2 j) n)) D = some (.lst (nB (fun j => if j = y then true else S2 j) n)) := upd_same
              have hl6 : ListN (upd G5 D (.lst (nB (fun j => if j = y then true else S2 j) n))) l line2 := kp6 _ _ lD hl5
              generalize upd G5 D (.lst (nB (fun j => if j = y then true else S2 j) n)) = G6 at kp6 hd6 hl6 ⊢
              refine ⟨_, rfl, .inl ⟨rfl, _, SqL.of hl6⟩, _, rfl, l, _, _, rfl, rfl, hl6, small1000 (by rw [nIl]; omega), ?_⟩
              refine ⟨_, line2 ++ [y], _, rfl, fun x o n1 n2 h => by rw [upd_ne n2]; exact kp6 _ _ n1 (kp5 _ _ n1 n2 h), by rw [upd_ne lD.symm]; exact hd6, ?_, ga2.add yin cy, ⟨ext ++ [y], by rw [ex, List.append_assoc]⟩, fun q z hq hz => ?_, by rw [upd_ne tl']; exact kp6 _ _ tD hT5⟩
              · show upd G6 l _ l = _
                rw [upd_same]
                exact congrArg (fun l => some (HO.lst l)) (List.map_append (f := fun x : Nat => V.int (x : Int)) (l₁ := line2) (l₂ := [y])).symm
              · by_cases e : q = m
                · rw [e, hy] at hz
                  rw [← Option.some.inj hz]
                  exact List.mem_append_right _ (List.mem_singleton.mpr rfl)
                · exact List.mem_append_left _ (mem q z (by omega) hz)
          · rintro σ G5 ⟨v7, line2, S2, rfl, kp5, hd5, hl5, ga2, ⟨ext, ex⟩, mem, hT5⟩
            refine ⟨_, _, line2, S2, rfl, kp5, hd5, hl5, ga2, by rw [ex]; exact List.mem_append_left _ im, fun q hq => ?_, by rw [ex, List.length_append]; omega⟩
            by_cases e : q = k0
            · subst e
              have e2 : gt line2 q = gt line q := by rw [ex, gt_app, if_pos kl]
              rw [e2, ← ey0, ← ey1]
              exact ⟨mem 0 y0 (by show 0 < 2; decide) rfl, mem 1 y1 (by show 1 < 2; decide) rfl⟩
            · have := dnk.mono (l2 := ext) (by omega) q (by omega)
              rw [← ex] at this
              exact this
        · rintro σ G3 ⟨v6, v7, line, S1, rfl, kp3, hd3, hl3, ga, im, dnk, kl⟩
          have ll : line.length ≤ n := Nat.le_trans (nd_lenL ga.nd ga.sub) (recs_len B0 hp)
          exact ⟨_, _, line, S1, rfl, kp3, hd3, hl3, ga, im, fun q hq => dnk q (by omega)⟩
      rintro σ G3 ⟨v6, v7, line, S1, rfl, kp3, hd3, hl3, ga, im, dnk⟩
      have pm := gatherA ok pa pb ga.nd ga.sub im dnk
      have pl := recs_len B0 hp
      have ll := pm.length_eq
      have ltn : ∀ x ∈ line, x < n := fun x hx => ltn x (ga.sub x hx)
      have gm : ∀ {j : Nat}, j < line.length → gt line j ∈ line := fun {j} h => by
        unfold gt
        rw [List.getD_eq_getElem?_getD, List.getElem?_eq_getElem h]
        exact List.getElem_mem h
      have hl_3 := hl3
      have ha_3 : ListN G3 a R := kp3 _ _ aD al ha0
      have hb_3 : ListN G3 b S := kp3 _ _ bD bl hb0
      refine ⟨_, rfl, l, rfl, ⟨_, SqL.of hl_3⟩, fun Co hCo => ?_⟩
      refine lc_list (K := K) (a := l) (xs := nI line) (fun j G2 => Ex G3 G2 ∧ ∃ us : List Nat, ListN G2 Co us ∧ us.length = ((line.take j).filter (endB R S)).length) ⟨Ex.new hCo, [], upd_same, rfl⟩ (fun j G2 _ q => SqL.of (q.1 _ _ hl_3)) ?_ ?_
      · rintro j x G2 hx ⟨e, us, hu, ul⟩
        obtain ⟨jl, rfl⟩ := natv hx
        have xl := ltn _ (gm jl)
        have ul2 : us.length ≤ 64 := by
          rw [ul]
          exact Nat.le_trans (List.length_filter_le ..) (by rw [List.length_take]; omega)
        have step : ((line.take (j + 1)).filter (endB R S)).length = ((line.take j).filter (endB R S)).length + if endB R S (gt line j) = true then 1 else 0 := by
          rw [List.take_succ_eq_append_getElem jl, List.filter_append, List.length_append]
          have e : line[j] = gt line j := by
            unfold gt
            rw [List.getD_eq_getElem?_getD, List.getElem?_eq_getElem jl]
            rfl
          rw [e, List.filter_cons, List.filter_nil]
          split <;> rfl
        have put : endB R S (gt line j) = true → ∃ l9, (fun (x : V) (G : Hp) => x = V.int ((gt line j : Nat) : Int) ∧ G = G2) l9 G2 := fun _ => ⟨_, rfl, rfl⟩
        have app : endB R S (gt line j) = true → Ex G3 (upd G2 Co (.lst (nI us ++ [V.int ((gt line j : Nat) : Int)]))) ∧ ∃ us2 : List Nat, ListN (upd G2 Co (.lst (nI us ++ [V.int ((gt line j : Nat) : Int)]))) Co us2 ∧ us2.length = ((line.take (j + 1)).filter (endB R S)).length := fun c => by
          refine ⟨fun x o ho => ?_, us ++ [gt line j], ?_, ?_⟩
          · rw [upd_ne (ne_of_none ho hCo)]
            exact e _ _ ho
          · show upd G2 Co _ Co = _
            rw [upd_same]
            exact congrArg (fun l => some (HO.lst l)) (List.map_append (f := fun x : Nat => V.int (x : Int)) (l₁ := us) (l₂ := [gt line j])).symm
          · rw [step, if_pos c, List.length_append, ul]
            rfl
        clear put
        refine ⟨rfl, _, rfl, _, rfl, a, _, _, _, rfl, rfl, SqL.of (e _ _ ha_3), atI_nat (atv (by omega)), _, rfl, rfl, _, rfl, ?_⟩
        by_cases c : gt R (gt line j) = gt line j
        · rw [c, decide_eq_true rfl]
          refine iteT ⟨_, rfl, _, hu, small1000 (by rw [nIl]; omega), app ?_⟩
          unfold endB
          rw [decide_eq_true c]
          rfl
        · rw [decide_eq_false (show ¬ V.int ((gt R (gt line j) : Nat) : Int) = V.int ((gt line j : Nat) : Int) from fun z => by injection z with z; omega)]
          refine iteF ⟨_, rfl, _, rfl, b, _, _, _, rfl, rfl, SqL.of (e _ _ hb_3), atI_nat (atv (by omega)), _, rfl, rfl, _, rfl, ?_⟩
          by_cases c2 : gt S (gt line j) = gt line j
          · rw [c2, decide_eq_true rfl]
            refine iteT ⟨_, rfl, _, hu, small1000 (by rw [nIl]; omega), app ?_⟩
            unfold endB
            rw [decide_eq_true c2, Bool.or_true]
          · rw [decide_eq_false (show ¬ V.int ((gt S (gt line j) : Nat) : Int) = V.int ((gt line j : Nat) : Int) from fun z => by injection z with z; omega)]
            refine iteF ⟨e, us, hu, ?_⟩
            rw [step, if_neg, ul]
            · rfl
            · unfold endB
              rw [decide_eq_false c, decide_eq_false c2]
              decide
      rintro Gw ⟨ew, usw, huw, ulw⟩
      rw [nIl, List.take_length] at ulw
      refine ⟨Co, _, rfl, .inl (SqL.of huw), ?_⟩
      rw [nIl, ulw]
      have e5 := ew
      have hl_5 : ListN Gw l line := e5 _ _ hl3
      have hf5 : Gw f = some (.lst (ts.map V.ref)) := e5 _ _ (kp3 _ _ nDf.symm fl (kp0 _ _ nDf.symm hf1))
      have hd5 := e5 _ _ hd3
      have small : ts.length < 64 := by
        have h1 := (gs.add B0 hp ga pm)
        have h2 := gs.nd
        have h3 : dn.length < ps.length := by
          have := nd_lenL h1.nd h1.sub
          rw [List.length_append] at this
          exact this
        have h4 := ps_len B0
        omega
      have fin : ∀ t G6, Ex Gw G6 → Gw t = none → LotAt G6 t (lotP p) → (fun i σ G => ∃ (v4 v5 v6 v7 v8 : Option V) (S0 : Nat → Bool) (dn : List Pc) (ts : List Addr), σ = [some (.ref a), some (.ref b), some (.ref D), some (.ref f), v4, v5, v6, v7, v8, none] ∧ (∀ x o, x ≠ D → x ≠ f → H2 x = some o → G x = some o) ∧ G D = some (.lst (nB S0 n)) ∧ Gs ps dn S0 ∧ (∀ x, x < i → S0 x = true) ∧ G f = some (.lst (ts.map V.ref)) ∧ ts.length = dn.length ∧ ∀ (j : Nat) (t : Addr) (p : Pc), ts[j]? = some t → dn[j]? = some p → LotAt G t (lotP p)) (i + 1) [some (.ref a), some (.ref b), some (.ref D), some (.ref f), some (.int (i : Int)), some (.ref l), v6, v7, some (.int (((line.filter (endB R S)).length : Nat) : Int)), none] (upd G6 f (.lst (ts.map V.ref ++ [V.ref t]))) := fun t G6 e6 ht en => by
        have tf : t ≠ f := fun z => by rw [z, hf5] at ht; cases ht
        have kf : ∀ x o, x ≠ f → G6 x = some o → upd G6 f (.lst (ts.map V.ref ++ [V.ref t])) x = some o := fun x o n h => by rw [upd_ne n]; exact h
        refine ⟨_, _, _, _, _, S1, dn ++ [p], ts ++ [t], rfl, fun x o n1 n2 h => kf _ _ n2 (e6 _ _ (e5 _ _ ?_)), kf _ _ nDf (e6 _ _ hd5), gs.add B0 hp ga pm, fun x hx => ?_, by rw [upd_same, List.map_append]; rfl, by rw [List.length_append, List.length_append, tl]; rfl, fun j u q hu hq => ?_⟩
        · have h1 := kp1 x o n1 n2 h
          exact kp3 _ _ n1 (fl1 _ _ n1 h1) (kp0 _ _ n1 h1)
        · by_cases z : x = i
          · rw [z, ga.is, decide_eq_true im, Bool.or_true]
          · rw [ga.is, pre x (by omega), Bool.true_or]
        · have at2 : ∀ (j : Nat) (u : Addr) (q : Pc), ts[j]? = some u → dn[j]? = some q → LotAt (upd G6 f (.lst (ts.map V.ref ++ [V.ref t]))) u (lotP q) := fun j u q h1 h2 => by
            have h3 : G1 u = some _ := tat j u q h1 h2
            have uD : u ≠ D := fun z => by rw [z, hd1] at h3; cases h3
            have uf : u ≠ f := fun z => by rw [z, hf1] at h3; cases h3
            exact kf _ _ uf (e6 _ _ (e5 _ _ (kp3 _ _ uD (fl1 _ _ uD h3) (kp0 _ _ uD h3))))
          exact app_at (R := fun u q => LotAt (upd G6 f (.lst (ts.map V.ref ++ [V.ref t]))) u (lotP q)) tl at2 (kf _ _ tf en) j u q hu hq
      refine ⟨_, rfl, .inl ⟨rfl, _, SqL.of hf5⟩, _, rfl, l, _, rfl, .inl (SqL.of hl_5), _, rfl, rfl, (by show 2 ≤ sizeLine; decide), fun t ht => ?_⟩
      refine ⟨f, _, _, rfl, rfl, (Ex.new ht) _ _ hf5, small1000 (by rw [List.length_map]; omega), fin t _ (Ex.new ht) ht ?_⟩
      show upd Gw t _ t = _
      rw [upd_same, nIl]
      have en := ends_iff ok pa pb pm
      unfold lotP
      rw [ll]
      congr 4
      show V.bl (decide (V.int (((line.filter (endB R S)).length : Nat) : Int) = V.int 0)) = V.bl (decide (p.1 = 1 ∨ p.1 = 3))
      congr 1
      rw [Bool.eq_iff_iff, decide_eq_true_eq, decide_eq_true_eq, ← en]
      exact ⟨fun z => by injection z with z; omega, fun z => by rw [z]; rfl⟩
    rintro σ G3 ⟨v4, v5, v6, v7, v8, S0, dn, ts, rfl, kp1, hd1, gs, pre, hf1, tl, tat⟩
    have pm := gs.all B0 pre
    have eX : Ex H G3 := fun x o h => kp1 _ _ (ne_of_none h fD) (ne_of_none h ff) (e2 _ _ h)
    refine ⟨_, rfl, k f (dn.map lotP) G3 ff eX ⟨ts, hf1, by rw [List.length_map]; exact tl, fun j t e h1 h2 => ?_⟩ (pm.map _) ?_⟩
    · rw [List.getElem?_map] at h2
      cases q : dn[j]? with
      | none => rw [q] at h2; cases h2
      | some p =>
        rw [q] at h2
        rw [← Option.some.inj h2]
        exact tat j t p h1 q
    · rw [List.length_map, pm.length_eq]
      exact Nat.le_trans (ps_len B0) n64

end

section
variable {P : Program} {w : World} {K : PySem.W.Frag} {mg : Str → Option Value} {base : Heap} {A : Ad}
theorem fault3 {xs zs : List Int} {f : Nat × Nat} (h : faultF xs zs = some f) (z : f.1 = 3) : f.2 = 0 := by
  unfold faultF at h
  cases s : faultS xs with
  | some g =>
    rw [s] at h
    cases h
    have := faultS_12 s
    omega
  | none =>
    rw [s] at h
    cases t : faultS zs with
    | some g =>
      simp only [t] at h
      cases h
      have := faultS_12 t
      omega
    | none =>
      simp only [t] at h
      split at h
      · cases h; rfl
      · cases h
theorem ok_law_met (T : Txt K mg A)  (g_distance : Okd P w K mg base (L2N.CX P w) 7 A.distance P_distance (spDs A)) (e_law_refusal : Oke P w K mg base 2 A.law_refusal P_law_refusal (seRf A)) : Okd P w K mg base CX0 8 A.law_met P_law_met spMt1 := by
  obtain ⟨fd, F⟩ := T.d_law_met
  obtain ⟨fd_distance, G_distance, b_distance⟩ := g_distance
  obtain ⟨fde_law_refusal, E_law_refusal, eb_law_refusal⟩ := e_law_refusal
  refine ⟨fd, F.ok sc_law_met (fun vs H Q E h => ?_) (fun cdv A' outer s H vs Q E hr h => ?_), F.binds fun _ _ _ _ _ _ us hl => match us, hl with | [_, _], _ => rfl⟩
  · obtain ⟨l, r, xs, zs, rfl, _⟩ := h
    rfl
  · obtain ⟨l, r, xs, zs, rfl, hl, hr0, x64, z64, kf, kg⟩ := h
    refine ⟨_, (pss_one (L2N.ps_try_manyNN (tb := (fun W => (tRet (tTup (tCons (tC (.str "told")) (tCons (tCallS (spDs A) (WE W) (tCons (tVar 0) (tCons (tVar 1) tNil))) tNil)))))) rfl rfl L2N.takes0N (fun W pn xe tk _ => (pss_one (ps_ret (pe_tup (pa_cons pe_str (pa_cons (pe_callS G_distance (hr.mono (by decide)) rfl T.g_distance T.k_distance b_distance (fun σ => L2N.passAt tk σ) (pa_cons (pv 0) (pa_cons (pv 1) pa_nil))) pa_nil)))))) (L2N.HdsNN.consN (i := 2) sc_law_met.nd rfl rfl ⟨rfl, by decide, .inl T.e_InvalidImage.g⟩ (fun a oe cls d pn hz hf => (pss_one (ps_ret (HotE.pe_callE E_law_refusal (L2H.roomH_mark (hr.mono (by decide)) _) (HotE.hotP_suite hz hf) (by rfl) T.g_law_refusal T.k_law_refusal eb_law_refusal (passH0 (fun _ => E0)) (pa_cons pe_str (pa_cons (pv 2) (pa_cons (pe_xf T.e_InvalidImage.xfc T.f_InvalidImage.nf hz.zc hf (pv 2)) pa_nil))))))) (L2N.HdsNN.consN (i := 2) sc_law_met.nd rfl rfl ⟨rfl, by decide, .inl T.e_NotState.g⟩ (fun a oe cls d pn hz hf => (pss_one (ps_ret (HotE.pe_callE E_law_refusal (L2H.roomH_mark (hr.mono (by decide)) _) (HotE.hotP_suite hz hf) (by rfl) T.g_law_refusal T.k_law_refusal eb_law_refusal (passH0 (fun _ => E0)) (pa_cons pe_str (pa_cons (pv 2) (pa_cons (pe_xf T.e_NotState.xfc T.f_NotState.nf hz.zc hf (pv 2)) pa_nil))))))) (L2N.HdsNN.consN (i := 2) sc_law_met.nd rfl rfl ⟨rfl, by decide, .inl T.e_UnequalSizes.g⟩ (fun a oe cls d pn hz hf => (pss_one (ps_ret (HotE.pe_callE E_law_refusal (L2H.roomH_mark (hr.mono (by decide)) _) (HotE.hotP_suite hz hf) (by rfl) T.g_law_refusal T.k_law_refusal eb_law_refusal (passH0 (fun _ => E0)) (pa_cons pe_str (pa_cons (pv 2) (pa_cons pe_int pa_nil))))))) L2N.HdsNN.nil))))), ?_⟩
    refine ⟨_, rfl, _, rfl, l, r, xs, zs, rfl, hl, hr0, x64, z64, fun nf ps bl of H1 e1 => ⟨(by show 2 ≤ sizeLine; decide), fun t ht => kg nf ps bl of t _ (e1.trans (Ex.new ht)) upd_same⟩, fun f hf => ?_⟩
    refine ⟨fun z d H' e hd => ?_, fun z d H' e hd => ?_, fun z H' e => ?_⟩
    · have K := (kf f hf).mono e
      rw [z] at K
      refine ⟨true, T.e_InvalidImage.exm, fun _ a0 ha0 => ?_, fun z => (nomatch z)⟩
      exact ⟨_, rfl, _, rfl, rfl, rfl, d, _, _, rfl, hd, rfl, _, _, rfl, ⟨.inl rfl, .inr ⟨d, _, rfl, hd⟩⟩, K⟩
    · have K := (kf f hf).mono e
      rw [z] at K
      refine ⟨false, T.e_NotState.exm_ne T.e_InvalidImage (ne_ix T.nd 2 1 rfl rfl (by decide)) (ne_ix T.nd 0 1 rfl rfl (by decide)), fun z => (nomatch z), fun _ => ?_⟩
      refine ⟨true, T.e_NotState.exm, fun _ a0 ha0 => ?_, fun z => (nomatch z)⟩
      exact ⟨_, rfl, _, rfl, rfl, rfl, d, _, _, rfl, hd, rfl, _, _, rfl, ⟨.inr (.inl rfl), .inr ⟨d, _, rfl, hd⟩⟩, K⟩
    · have K := (kf f hf).mono e
      have z0 : f.2 = 0 := fault3 hf z
      rw [z, z0] at K
      refine ⟨false, T.e_UnequalSizes.exm_ne T.e_InvalidImage (ne_ix T.nd 4 1 rfl rfl (by decide)) (ne_ix T.nd 0 1 rfl rfl (by decide)), fun z => (nomatch z), fun _ => ?_⟩
      refine ⟨false, T.e_UnequalSizes.exm_ne T.e_NotState (ne_ix T.nd 4 2 rfl rfl (by decide)) (ne_ix T.nd 0 2 rfl rfl (by decide)), fun z => (nomatch z), fun _ => ?_⟩
      refine ⟨true, T.e_UnequalSizes.exm, fun _ a0 ha0 => ?_, fun z => (nomatch z)⟩
      exact ⟨_, rfl, _, _, rfl, ⟨.inr (.inr (.inr (.inr rfl))), .inl rfl⟩, K⟩

end

section
variable {P : Program} {w : World} {K : PySem.W.Frag} {mg : Str → Option Value} {base : Heap} {A : Ad}
def FA (G : Hp) (F : Addr) (R : List Nat) (us : List Addr) (lks : List (List (Nat × Nat))) : Prop := G F = some (.lst (us.map V.ref)) ∧ us.length = lks.length ∧ ∀ (i : Nat) (t : Addr) (lk : List (Nat × Nat)), us[i]? = some t → lks[i]? = some lk → t ≠ F ∧ ListN G t (relF R lk)
theorem FA.snoc {G G1 : Hp} {F p : Addr} {R : List Nat} {us : List Addr} {lks : List (List (Nat × Nat))} {lk : List (Nat × Nat)} (h : FA G F R us lks) (e : Ex G G1) (hp : G p = none) (g : ListN G1 p (relF R lk)) : FA (upd G1 F (.lst (us.map V.ref ++ [V.ref p]))) F R (us ++ [p]) (lks ++ [lk]) := by
  obtain ⟨a, b, c⟩ := h
  have nF : p ≠ F := fun z => by rw [z, a] at hp; cases hp
  refine ⟨by rw [upd_same, List.map_append]; rfl, by rw [List.length_append, List.length_append, b]; rfl, fun i t l h1 h2 => ?_⟩
  by_cases q : i < us.length
  · rw [List.getElem?_append_left q] at h1
    rw [List.getElem?_append_left (by rw [← b]; exact q)] at h2
    obtain ⟨n, y⟩ := c i t l h1 h2
    refine ⟨n, ?_⟩
    show upd G1 F _ t = _
    rw [upd_ne n]
    exact e _ _ y
  · have il : i < (us ++ [p]).length := (List.getElem?_eq_some_iff.1 h1).1
    rw [List.length_append] at il
    have il : i < us.length + 1 := il
    have ei : i = us.length := by omega
    rw [ei, List.getElem?_append_right (Nat.le_refl _), Nat.sub_self] at h1
    rw [ei, b, List.getElem?_append_right (Nat.le_refl _), Nat.sub_self] at h2
    have e1 : p = t := Option.some.inj h1
    have e2 : lk = l := Option.some.inj h2
    rw [← e1, ← e2]
    refine ⟨nF, ?_⟩
    show upd G1 F _ p = _
    rw [upd_ne nF]
    exact g
theorem lk1 {H : Hp} {q s : Addr} {a b : Nat} (h1 : H q = some (.tup [.int (a : Int), .int (b : Int)])) (h2 : H s = some (.lst [.ref q])) : LkAt H s [(a, b)] :=
  ⟨[q], h2, rfl, fun i t l x y => by
    match i, x, y with
    | 0, x, y => cases x; cases y; exact h1⟩
theorem lk2 {H : Hp} {q r s : Addr} {a b c d : Nat} (h1 : H q = some (.tup [.int (a : Int), .int (b : Int)])) (h3 : H r = some (.tup [.int (c : Int), .int (d : Int)])) (h2 : H s = some (.lst [.ref q, .ref r])) : LkAt H s [(a, b), (c, d)] :=
  ⟨[q, r], h2, rfl, fun i t l x y => by
    match i, x, y with
    | 0, x, y => cases x; cases y; exact h1
    | 1, x, y => cases x; cases y; exact h3⟩
theorem cutTakeV {xs : List V} {k : Nat} (h : k ≤ xs.length) : cutV xs none (some (k : Int)) = xs.take k := by
  unfold cutV
  rw [HT.sIx_none, HT.sIx_nat, List.drop_zero, Nat.sub_zero, Nat.min_eq_left h]
theorem atNg {R : List Nat} {i : Nat} (h : i < R.length) : (nI R)[i]? = some (V.int ((gt R i : Nat) : Int)) := by
  unfold nI gt
  rw [List.getElem?_map, List.getElem?_eq_getElem h, List.getD_eq_getElem?_getD, List.getElem?_eq_getElem h]
  rfl
theorem ok_law_near (T : Txt K mg A)  (g_law_relinked : Okd P w K mg base CX0 1 A.law_relinked P_law_relinked spRk) : Okd P w K mg base CX0 2 A.law_near P_law_near spNr := by
  obtain ⟨fd, F⟩ := T.d_law_near
  obtain ⟨fd_law_relinked, G_law_relinked, b_law_relinked⟩ := g_law_relinked
  refine ⟨fd, F.ok sc_law_near (fun vs H Q E h => ?_) (fun cdv A' outer s H vs Q E hr h => ?_), F.binds fun _ _ _ _ _ _ us hl => match us, hl with | [_], _ => rfl⟩
  · obtain ⟨a, R, n, rfl, _⟩ := h
    rfl
  · obtain ⟨a, R, n, rfl, ha, st, n64, k⟩ := h
    refine ⟨_, (pss_cons (ps_setLc (i := 1) (own := [("x", 5)]) (tt := _) (by rfl) sc_law_near.nd rfl rfl (sw_true rfl rfl rfl (by decide +kernel)) (pi_range1 (by rfl) T.n_range (pa_cons (pe_callB call_len_seq (by rfl) T.n_len PySem.boot_len (pa_cons (pv 0) pa_nil)) pa_nil)) (blkOk_by (own := [("x", 5)]) (N := N_law_near) (sc := defScope s_law_near) (by decide +kernel)) (fun _ _ _ _ _ => (pg_name (i := 5) sc_law_near.nd rfl (Or.inl rfl))) (fun _ _ _ _ _ => (pts_one (pt_cmpR op_eq (pe_ix (ix_listK (K := K) rfl) (pv 0) (pv 5) (fun _ _ => rfl)) (pv 5) (nomark _)))) (fun _ _ _ _ _ => (pv 5)))
      (pss_cons (ps_setLc (i := 2) (own := [("x", 5)]) (tt := _) (by rfl) sc_law_near.nd rfl rfl (sw_true rfl rfl rfl (by decide +kernel)) (pi_range1 (by rfl) T.n_range (pa_cons (pe_callB call_len_seq (by rfl) T.n_len PySem.boot_len (pa_cons (pv 0) pa_nil)) pa_nil)) (blkOk_by (own := [("x", 5)]) (N := N_law_near) (sc := defScope s_law_near) (by decide +kernel)) (fun _ _ _ _ _ => (pg_name (i := 5) sc_law_near.nd rfl (Or.inl rfl))) (fun _ _ _ _ _ => (pts_one (pt_cmpR op_lt (pv 5) (pe_ix (ix_listK (K := K) rfl) (pv 0) (pv 5) (fun _ _ => rfl)) (nomark _)))) (fun _ _ _ _ _ => (pe_tup (pa_cons (pv 5) (pa_cons (pe_ix (ix_listK (K := K) rfl) (pv 0) (pv 5) (fun _ _ => rfl)) pa_nil)))))
      (pss_cons (ps_set (i := 3) sc_law_near.nd rfl (Or.inl rfl) (pe_lst pa_nil))
      (pss_cons (ps_for PassesOwn.never rfl (pi_range1 (by rfl) T.n_range (pa_cons (pe_callB call_len_seq (by rfl) T.n_len PySem.boot_len (pa_cons (pv 1) pa_nil)) pa_nil)) (pg_name (i := 4) sc_law_near.nd rfl (Or.inl rfl)) (pss_one (ps_for PassesOwn.never rfl (pi_list (pe_slice sl_list (pv 1) po_none (po_some (pv 4)))) (pg_name (i := 5) sc_law_near.nd rfl (Or.inl rfl)) (pss_one (ps_expr (pe_bm PySem.F.plainAttrs_list PySem.F.slot_list_append PySem.F.type_list_append mt_append (pv 3) (pa_cons (pe_call G_law_relinked (hr.mono (by decide)) (by rfl) T.g_law_relinked T.k_law_relinked b_law_relinked .nil pass0 (pa_cons (pv 0) (pa_cons (pe_lst (pa_cons (pe_tup (pa_cons (pe_ix ix_list (pv 1) (pv 4) (fun _ _ => rfl)) (pa_cons (pv 5) pa_nil))) pa_nil)) pa_nil))) pa_nil)))))))
      (pss_cons (ps_for PassesOwn.never rfl (pi_list (pv 2)) (pg_name (i := 6) sc_law_near.nd rfl (Or.inl rfl)) (pss_cons (ps_expr (pe_bm PySem.F.plainAttrs_list PySem.F.slot_list_append PySem.F.type_list_append mt_append (pv 3) (pa_cons (pe_call G_law_relinked (hr.mono (by decide)) (by rfl) T.g_law_relinked T.k_law_relinked b_law_relinked .nil pass0 (pa_cons (pv 0) (pa_cons (pe_lst (pa_cons (pe_tup (pa_cons (pe_ix ix_tup (pv 6) pe_int (fun _ _ => rfl)) (pa_cons (pe_ix ix_tup (pv 6) pe_int (fun _ _ => rfl)) pa_nil))) (pa_cons (pe_tup (pa_cons (pe_ix ix_tup (pv 6) pe_int (fun _ _ => rfl)) (pa_cons (pe_ix ix_tup (pv 6) pe_int (fun _ _ => rfl)) pa_nil))) pa_nil))) pa_nil))) pa_nil)))
      (pss_one (ps_for PassesOwn.never rfl (pi_list (pv 1)) (pg_name (i := 5) sc_law_near.nd rfl (Or.inl rfl)) (pss_cons (ps_expr (pe_bm PySem.F.plainAttrs_list PySem.F.slot_list_append PySem.F.type_list_append mt_append (pv 3) (pa_cons (pe_call G_law_relinked (hr.mono (by decide)) (by rfl) T.g_law_relinked T.k_law_relinked b_law_relinked .nil pass0 (pa_cons (pv 0) (pa_cons (pe_lst (pa_cons (pe_tup (pa_cons (pe_ix ix_tup (pv 6) pe_int (fun _ _ => rfl)) (pa_cons (pv 5) pa_nil))) (pa_cons (pe_tup (pa_cons (pe_ix ix_tup (pv 6) pe_int (fun _ _ => rfl)) (pa_cons (pe_ix ix_tup (pv 6) pe_int (fun _ _ => rfl)) pa_nil))) pa_nil))) pa_nil))) pa_nil)))
      (pss_one (ps_expr (pe_bm PySem.F.plainAttrs_list PySem.F.slot_list_append PySem.F.type_list_append mt_append (pv 3) (pa_cons (pe_call G_law_relinked (hr.mono (by decide)) (by rfl) T.g_law_relinked T.k_law_relinked b_law_relinked .nil pass0 (pa_cons (pv 0) (pa_cons (pe_lst (pa_cons (pe_tup (pa_cons (pe_ix ix_tup (pv 6) pe_int (fun _ _ => rfl)) (pa_cons (pv 5) pa_nil))) (pa_cons (pe_tup (pa_cons (pe_ix ix_tup (pv 6) pe_int (fun _ _ => rfl)) (pa_cons (pe_ix ix_tup (pv 6) pe_int (fun _ _ => rfl)) pa_nil))) pa_nil))) pa_nil))) pa_nil)))))))))
      (pss_cons (ps_for PassesOwn.never rfl (pi_range1 (by rfl) T.n_range (pa_cons (pe_callB call_len_seq (by rfl) T.n_len PySem.boot_len (pa_cons (pv 2) pa_nil)) pa_nil)) (pg_name (i := 4) sc_law_near.nd rfl (Or.inl rfl)) (pss_cons (ps_set (i := 7) sc_law_near.nd rfl (Or.inl rfl) (pe_ix ix_list (pv 2) (pv 4) (fun _ _ => rfl)))
      (pss_one (ps_for PassesOwn.never rfl (pi_list (pe_slice sl_list (pv 2) po_none (po_some (pv 4)))) (pg_name (i := 8) sc_law_near.nd rfl (Or.inl rfl)) (pss_cons (ps_expr (pe_bm PySem.F.plainAttrs_list PySem.F.slot_list_append PySem.F.type_list_append mt_append (pv 3) (pa_cons (pe_call G_law_relinked (hr.mono (by decide)) (by rfl) T.g_law_relinked T.k_law_relinked b_law_relinked .nil pass0 (pa_cons (pv 0) (pa_cons (pe_lst (pa_cons (pe_tup (pa_cons (pe_ix ix_tup (pv 7) pe_int (fun _ _ => rfl)) (pa_cons (pe_ix ix_tup (pv 8) pe_int (fun _ _ => rfl)) pa_nil))) (pa_cons (pe_tup (pa_cons (pe_ix ix_tup (pv 7) pe_int (fun _ _ => rfl)) (pa_cons (pe_ix ix_tup (pv 8) pe_int (fun _ _ => rfl)) pa_nil))) pa_nil))) pa_nil))) pa_nil)))
      (pss_one (ps_expr (pe_bm PySem.F.plainAttrs_list PySem.F.slot_list_append PySem.F.type_list_append mt_append (pv 3) (pa_cons (pe_call G_law_relinked (hr.mono (by decide)) (by rfl) T.g_law_relinked T.k_law_relinked b_law_relinked .nil pass0 (pa_cons (pv 0) (pa_cons (pe_lst (pa_cons (pe_tup (pa_cons (pe_ix ix_tup (pv 7) pe_int (fun _ _ => rfl)) (pa_cons (pe_ix ix_tup (pv 8) pe_int (fun _ _ => rfl)) pa_nil))) (pa_cons (pe_tup (pa_cons (pe_ix ix_tup (pv 7) pe_int (fun _ _ => rfl)) (pa_cons (pe_ix ix_tup (pv 8) pe_int (fun _ _ => rfl)) pa_nil))) pa_nil))) pa_nil))) pa_nil)))))))))
      (pss_one (ps_ret (pv 3))))))))), ?_⟩
    have lR := st.len
    refine ⟨_, rfl, a, _, rfl, .inl (SqL.of ha), _, rfl, by rw [nI_len]; omega, by rw [nI_len]; omega, fun L hL => ?_⟩
    rw [nI_len, Int.toNat_natCast]
    refine lc_range (lo := 0) (n := R.length) (fun i G => Ex H G ∧ ListN G L ((List.range i).filter fun x => decide (gt R x = x))) ⟨Ex.new hL, upd_same⟩ ?_ ?_
    · rintro i G hi ⟨e, hd⟩
      rw [Int.zero_add]
      have fl : (List.range (i + 1)).filter (fun x => decide (gt R x = x)) = (List.range i).filter (fun x => decide (gt R x = x)) ++ if gt R i = i then [i] else [] := by
        rw [List.range_succ, List.filter_append, List.filter_cons, List.filter_nil]
        by_cases c : gt R i = i
        · rw [if_pos c, if_pos (decide_eq_true c)]
        · rw [if_neg c, if_neg (by simpa using c)]
      refine ⟨rfl, _, rfl, _, rfl, a, _, _, _, rfl, rfl, SqL.of (e _ _ ha), atI_nat (atNg hi), _, rfl, rfl, _, rfl, ?_⟩
      by_cases c : gt R i = i
      · rw [if_pos c] at fl
        have ll : ((List.range i).filter fun x => decide (gt R x = x)).length ≤ i := by
          have := List.length_filter_le (fun x => decide (gt R x = x)) (List.range i)
          rw [List.length_range] at this
          exact this
        refine ifT (decide_eq_true (by rw [c])) ⟨_, rfl, _, hd, small1000 (by rw [nI_len]; omega), fun x o ho => by rw [upd_ne (ne_of_none ho hL)]; exact e _ _ ho, ?_⟩
        rw [fl]
        show upd G L _ L = _
        rw [upd_same]
        exact congrArg (fun l => some (HO.lst l)) (List.map_append (f := fun x : Nat => V.int (x : Int)) (l₂ := [i])).symm
      · rw [if_neg c, List.append_nil] at fl
        rw [fl]
        exact ifF (decide_eq_false (fun z => by injection z with z; omega)) ⟨e, hd⟩
    rintro G1 ⟨e1, hL1⟩
    have eqL : lonF R = (List.range R.length).filter fun x => decide (gt R x = x) := rfl
    rw [← eqL] at hL1
    refine ⟨_, rfl, a, _, rfl, .inl (SqL.of (e1 _ _ ha)), _, rfl, by rw [nI_len]; omega, by rw [nI_len]; omega, fun P hP => ?_⟩
    rw [nI_len, Int.toNat_natCast]
    refine lc_range (lo := 0) (n := R.length) (fun i G => Ex G1 G ∧ ∃ ts : List Addr, G P = some (.lst (ts.map V.ref)) ∧ ts.length = (((List.range i).filter fun x => decide (x < gt R x)).map fun x => (x, gt R x)).length ∧ ∀ (j : Nat) (t : Addr) (l : Nat × Nat), ts[j]? = some t → (((List.range i).filter fun x => decide (x < gt R x)).map fun x => (x, gt R x))[j]? = some l → t ≠ P ∧ G t = some (.tup [.int (l.1 : Int), .int (l.2 : Int)])) ⟨Ex.new hP, [], upd_same, rfl, fun j t l h => by cases h⟩ ?_ ?_
    · rintro i G hi ⟨e, ts, hd, tl, tk⟩
      rw [Int.zero_add]
      have fl : ((List.range (i + 1)).filter fun x => decide (x < gt R x)).map (fun x => (x, gt R x)) = ((List.range i).filter fun x => decide (x < gt R x)).map (fun x => (x, gt R x)) ++ if i < gt R i then [(i, gt R i)] else [] := by
        rw [List.range_succ, List.filter_append, List.filter_cons, List.filter_nil, List.map_append]
        by_cases c : i < gt R i
        · rw [if_pos c, if_pos (decide_eq_true c)]; rfl
        · rw [if_neg c, if_neg (by simpa using c)]; rfl
      have ha2 := e _ _ (e1 _ _ ha)
      refine ⟨rfl, _, rfl, _, rfl, _, rfl, a, _, _, _, rfl, rfl, SqL.of ha2, atI_nat (atNg hi), _, _, rfl, rfl, _, rfl, ?_⟩
      by_cases c : i < gt R i
      · rw [if_pos c] at fl
        have ll : ts.length ≤ i := by
          rw [tl, List.length_map]
          have := List.length_filter_le (fun x => decide (x < gt R x)) (List.range i)
          rw [List.length_range] at this
          exact this
        refine ifT (decide_eq_true (by show (i : Int) < _; omega)) ⟨_, rfl, _, rfl, _, rfl, a, _, _, _, rfl, rfl, SqL.of ha2, atI_nat (atNg hi), (by show 2 ≤ sizeLine; decide), fun q hq => ?_⟩
        have eq := Ex.new (o := .tup [V.int (i : Int), V.int ((gt R i : Nat) : Int)]) hq
        have gq : upd G q (.tup [V.int (i : Int), V.int ((gt R i : Nat) : Int)]) q = some (.tup [V.int (i : Int), V.int ((gt R i : Nat) : Int)]) := upd_same
        have nq : q ≠ P := fun z => by rw [z, hd] at hq; cases hq
        generalize upd G q (.tup [V.int (i : Int), V.int ((gt R i : Nat) : Int)]) = G2 at eq gq ⊢
        have kp : ∀ x o, x ≠ P → G2 x = some o → upd G2 P (.lst (ts.map V.ref ++ [V.ref q])) x = some o := fun x o n h => by rw [upd_ne n]; exact h
        refine ⟨_, eq _ _ hd, small1000 (by rw [List.length_map]; omega), fun x o ho => kp _ _ (ne_of_none ho hP) (eq _ _ (e _ _ ho)), ts ++ [q], by rw [upd_same, List.map_append]; rfl, by rw [fl, List.length_append, List.length_append, tl]; rfl, fun j t l h1 h2 => ?_⟩
        rw [fl] at h2
        by_cases cj : j < ts.length
        · rw [List.getElem?_append_left cj] at h1
          rw [List.getElem?_append_left (by rw [← tl]; exact cj)] at h2
          obtain ⟨n, y⟩ := tk j t l h1 h2
          exact ⟨n, kp _ _ n (eq _ _ y)⟩
        · have il : j < (ts ++ [q]).length := (List.getElem?_eq_some_iff.1 h1).1
          rw [List.length_append] at il
          have il : j < ts.length + 1 := il
          have ei : j = ts.length := by omega
          rw [ei, List.getElem?_append_right (Nat.le_refl _), Nat.sub_self] at h1
          rw [ei, tl, List.getElem?_append_right (Nat.le_refl _), Nat.sub_self] at h2
          have z1 : q = t := Option.some.inj h1
          have z2 : (i, gt R i) = l := Option.some.inj h2
          rw [← z1, ← z2]
          exact ⟨nq, kp _ _ nq gq⟩
      · rw [if_neg c, List.append_nil] at fl
        rw [fl]
        exact ifF (decide_eq_false (by show ¬ (i : Int) < _; omega)) ⟨e, ts, hd, tl, tk⟩
    rintro G2 ⟨e2, qs, hP2, ql, qk⟩
    have eqP : prsF R = ((List.range R.length).filter fun x => decide (x < gt R x)).map fun x => (x, gt R x) := rfl
    rw [← eqP] at ql qk
    refine ⟨(by show 0 ≤ sizeLine; decide), fun F hF => ?_⟩
    have eF := Ex.new (o := .lst []) hF
    have fF : upd G2 F (.lst []) F = some (.lst ([].map V.ref)) := upd_same
    have e3 := (e1.trans e2).trans eF
    have hL3 : ListN (upd G2 F (.lst [])) L (lonF R) := eF _ _ (e2 _ _ hL1)
    have hP3 := eF _ _ hP2
    have ha3 := e3 _ _ ha
    have qk3 : ∀ (j : Nat) (t : Addr) (l : Nat × Nat), qs[j]? = some t → (prsF R)[j]? = some l → t ≠ F ∧ upd G2 F (.lst []) t = some (.tup [.int (l.1 : Int), .int (l.2 : Int)]) := fun j t l h1 h2 => ⟨ne_of_none (qk j t l h1 h2).2 hF, eF _ _ (qk j t l h1 h2).2⟩
    have nLF : L ≠ F := ne_of_none (e2 _ _ hL1) hF
    have nPF : P ≠ F := ne_of_none hP2 hF
    have naF : a ≠ F := ne_of_none (e2 _ _ (e1 _ _ ha)) hF
    have fF0 : H F = none := back_none (e1.trans e2) hF
    generalize upd G2 F (.lst []) = H3 at eF fF e3 hL3 hP3 ha3 qk3 ⊢
    obtain ⟨M, hM⟩ : ∃ M, M = lonF R := ⟨_, rfl⟩
    obtain ⟨W, hW⟩ : ∃ W, W = prsF R := ⟨_, rfl⟩
    have nF : nearF R = (List.range M.length).flatMap (near1 M) ++ (W.flatMap (near2 M) ++ (List.range W.length).flatMap (near3 W)) := by rw [hM, hW]; rfl
    have lM : M.length ≤ 64 := by
      rw [hM]
      have := List.length_filter_le (fun x => decide (gt R x = x)) (List.range R.length)
      rw [List.length_range] at this
      show ((List.range R.length).filter _).length ≤ 64
      omega
    have lW : W.length ≤ 64 := by
      rw [hW]
      have := List.length_filter_le (fun x => decide (x < gt R x)) (List.range R.length)
      rw [List.length_range] at this
      show (((List.range R.length).filter _).map _).length ≤ 64
      rw [List.length_map]
      omega
    have mM : ∀ j, j < M.length → gt M j < R.length := fun j hj => by
      have : gt M j ∈ lonF R := by rw [← hM]; exact gt_mem hj
      exact List.mem_range.1 (List.mem_filter.1 this).1
    have mW : ∀ l ∈ W, l.1 < R.length ∧ l.2 < R.length := fun l hl => by
      rw [hW] at hl
      obtain ⟨x, hx, rfl⟩ := List.mem_map.1 hl
      have hx := List.mem_range.1 (List.mem_filter.1 hx).1
      exact ⟨hx, by rw [lR] at hx ⊢; exact st.lt x hx⟩
    rw [← hM] at hL3
    rw [← hW] at ql qk3
    clear qk hP2 hL1 e1 e2 hF hL hP
    have b1 : ∀ k, k ≤ 64 → ((List.range k).flatMap (near1 M)).length ≤ 4096 := fun k hk => by
      have := flat_le (l := List.range k) (f := near1 M) (c := 64) fun x _ => by
        unfold near1
        rw [List.length_map, List.length_take]
        omega
      rw [List.length_range] at this
      omega
    have b2 : ∀ k, ((W.take k).flatMap (near2 M)).length ≤ 8256 := fun k => by
      have := flat_le (l := W.take k) (f := near2 M) (c := 129) fun x _ => by
        unfold near2
        have := flat_le (l := M) (f := near2x x) (c := 2) fun y _ => Nat.le_refl _
        rw [List.length_cons]
        omega
      rw [List.length_take] at this
      have : min k W.length ≤ 64 := by omega
      omega
    have b3 : ∀ k, k ≤ 64 → ((List.range k).flatMap (near3 W)).length ≤ 8192 := fun k hk => by
      have := flat_le (l := List.range k) (f := near3 W) (c := 128) fun x _ => by
        unfold near3
        have := flat_le (l := W.take x) (f := near3x (W.getD x (0, 0))) (c := 2) fun y _ => Nat.le_refl _
        rw [List.length_take] at this
        omega
      rw [List.length_range] at this
      omega
    have lim : ∀ {m : Nat}, m ≤ 30000 → m < sizeLine := fun h => Nat.lt_of_le_of_lt h (by decide)
    refine ⟨_, rfl, L, _, rfl, .inl (SqL.of hL3), _, rfl, by rw [nI_len]; omega, by rw [nI_len]; omega, ?_⟩
    rw [nI_len, Int.toNat_natCast]
    refine for_range (lo := 0) (n := M.length) (fun i σ G => ∃ (v4 v5 v6 v7 v8 : Option V) (us : List Addr), σ = [some (.ref a), some (.ref L), some (.ref P), some (.ref F), v4, v5, v6, v7, v8] ∧ (∀ x o, x ≠ F → H3 x = some o → G x = some o) ∧ FA G F R us ((List.range i).flatMap (near1 M))) ⟨none, none, none, none, none, [], rfl, fun _ _ _ h => h, fF, rfl, fun i t lk h => by cases h⟩ ?_ ?_
    · rintro i σ G hi ⟨v4, v5, v6, v7, v8, us, rfl, kp, fa⟩
      rw [Int.zero_add]
      refine ⟨_, rfl, _, rfl, _, rfl, L, _, rfl, SqL.of (kp _ _ nLF hL3), fun s hs => ?_⟩
      rw [cutTakeV (show i ≤ (nI M).length by rw [nI_len]; omega), show (nI M).take i = nI (M.take i) from List.map_take.symm]
      have es := Ex.new (o := .lst (nI (M.take i))) hs
      have gs : ListN (upd G s (.lst (nI (M.take i)))) s (M.take i) := upd_same
      have nsF : s ≠ F := fun z => by rw [z, fa.1] at hs; cases hs
      have fa : FA (upd G s (.lst (nI (M.take i)))) F R us ((List.range i).flatMap (near1 M)) := ⟨es _ _ fa.1, fa.2.1, fun i t l x y => ⟨(fa.2.2 i t l x y).1, es _ _ (fa.2.2 i t l x y).2⟩⟩
      have kp : ∀ x o, x ≠ F → H3 x = some o → upd G s (.lst (nI (M.take i))) x = some o := fun x o n h => es _ _ (kp _ _ n h)
      generalize upd G s (.lst (nI (M.take i))) = GS at es gs fa kp ⊢
      have tkl : (M.take i).length = i := by rw [List.length_take]; omega
      refine ⟨s, rfl, ⟨_, SqL.of gs⟩, for_list (K := K) (a := s) (xs := nI (M.take i)) (fun j σ G => ∃ (v5 v6 v7 v8 : Option V) (us : List Addr), σ = [some (.ref a), some (.ref L), some (.ref P), some (.ref F), some (.int (i : Int)), v5, v6, v7, v8] ∧ (∀ x o, x ≠ F → GS x = some o → G x = some o) ∧ FA G F R us ((List.range i).flatMap (near1 M) ++ (M.take j).map fun x => [(gt M i, x)])) ⟨v5, v6, v7, v8, us, rfl, fun _ _ _ h => h, by rw [List.take_zero, List.map_nil, List.append_nil]; exact fa⟩ (fun j σ G _ ⟨_, _, _, _, _, _, e, _⟩ => SqL.of (e _ _ nsF gs)) ?_ ?_⟩
      · rintro j x σ G0 hx ⟨v5, v6, v7, v8, us0, rfl, kp0, fa0⟩
        have jl : j < i := by
          have := (List.getElem?_eq_some_iff.1 hx).1
          rw [nI_len] at this
          omega
        have jx : (nI (M.take i))[j]? = some (V.int ((gt M j : Nat) : Int)) := by
          rw [atNg (by omega), gt_take jl]
        obtain rfl : x = V.int ((gt M j : Nat) : Int) := by rw [jx] at hx; exact (Option.some.inj hx).symm
        have q1 := mM i hi
        have q2 := mM j (by omega)
        have haG0 := kp0 _ _ naF (kp _ _ naF ha3)
        have hLG := kp0 _ _ nLF (kp _ _ nLF hL3)
        have bb := b1 i (by omega)
        have tk2 : M.take (j + 1) = M.take j ++ [gt M j] := by rw [List.take_succ_eq_append_getElem (show j < M.length by omega), gt_get]
        refine ⟨_, rfl, .inl ⟨rfl, _, SqL.of fa0.1⟩, _, rfl, _, rfl, _, rfl, L, _, _, _, rfl, rfl, SqL.of hLG, atI_nat (atNg hi), _, rfl, (by show 2 ≤ sizeLine; decide), fun q0 hq0 => ?_⟩
        have xq0 := Ex.new (o := .tup [V.int ((gt M i : Nat) : Int), V.int ((gt M j : Nat) : Int)]) hq0
        have gq0 : upd G0 q0 (.tup [V.int ((gt M i : Nat) : Int), V.int ((gt M j : Nat) : Int)]) q0 = some (.tup [V.int ((gt M i : Nat) : Int), V.int ((gt M j : Nat) : Int)]) := upd_same
        generalize upd G0 q0 (.tup [V.int ((gt M i : Nat) : Int), V.int ((gt M j : Nat) : Int)]) = X0 at xq0 gq0 ⊢
        refine ⟨(by show 1 ≤ sizeLine; decide), fun s0 hs0 => ?_⟩
        have xs0 := Ex.new (o := .lst [V.ref q0]) hs0
        have gs0 : upd X0 s0 (.lst [V.ref q0]) s0 = some (.lst [V.ref q0]) := upd_same
        have gq0 := xs0 _ _ gq0
        have xq0 := xq0.trans xs0
        generalize upd X0 s0 (.lst [V.ref q0]) = Z0 at xq0 gq0 gs0 ⊢
        refine ⟨a, s0, R, [(gt M i, gt M j)], rfl, xq0 _ _ haG0, lk1 gq0 gs0, ?_, fun p0 W0 hp0 e0 hq0 => ?_⟩
        · intro l hl
          rw [List.mem_singleton.1 hl]
          exact ⟨by assumption, by assumption⟩
        have eW0 := xq0.trans e0
        refine ⟨F, _, _, rfl, rfl, eW0 _ _ fa0.1, lim (by rw [List.length_map, fa0.2.1]; rw [List.length_append, List.length_map, List.length_take]; omega), ?_⟩
        have fa1 := fa0.snoc eW0 (back_none xq0 hp0) hq0
        have kp1 : ∀ x o, x ≠ F → G0 x = some o → upd W0 F (.lst (us0.map V.ref ++ [V.ref p0])) x = some o := fun x o n h => by rw [upd_ne n]; exact eW0 _ _ h
        generalize upd W0 F (.lst (us0.map V.ref ++ [V.ref p0])) = G1 at fa1 kp1 ⊢
        obtain ⟨us1, hus1⟩ : ∃ us, us = us0 ++ [p0] := ⟨_, rfl⟩
        rw [← hus1] at fa1
        have haG1 := kp1 _ _ naF haG0
        refine ⟨_, v6, v7, v8, us1, rfl, fun x o n h => kp1 _ _ n (kp0 _ _ n h), ?_⟩
        rw [tk2, List.map_append, ← List.append_assoc]
        exact fa1
      · rintro σ G0 ⟨v5, v6, v7, v8, us0, rfl, kp0, fa0⟩
        rw [nI_len, tkl] at fa0
        refine ⟨_, _, _, _, _, us0, rfl, fun x o n h => kp0 _ _ n (kp _ _ n h), ?_⟩
        rw [List.range_succ, List.flatMap_append, List.flatMap_cons, List.flatMap_nil, List.append_nil]
        exact fa0
    rintro σ GA ⟨v4, v5, v6, v7, v8, us, rfl, kp, fa⟩
    have wl : qs.length = W.length := ql
    refine ⟨_, rfl, P, rfl, ⟨_, SqL.of (kp _ _ nPF hP3)⟩, for_list (K := K) (a := P) (xs := qs.map V.ref) (fun i σ G => ∃ (v4 v5 v6 v7 v8 : Option V) (us : List Addr), σ = [some (.ref a), some (.ref L), some (.ref P), some (.ref F), v4, v5, v6, v7, v8] ∧ (∀ x o, x ≠ F → H3 x = some o → G x = some o) ∧ FA G F R us ((List.range M.length).flatMap (near1 M) ++ (W.take i).flatMap (near2 M))) ⟨v4, v5, v6, v7, v8, us, rfl, kp, by rw [List.take_zero, List.flatMap_nil, List.append_nil]; exact fa⟩ (fun i σ G _ ⟨_, _, _, _, _, _, _, e, _⟩ => SqL.of (e _ _ nPF hP3)) ?_ ?_⟩
    · rintro i x σ G0 hx ⟨v4, v5, v6, v7, v8, us0, rfl, kp0, fa0⟩
      obtain ⟨t, htj, rfl⟩ : ∃ t, qs[i]? = some t ∧ x = V.ref t := by
        rw [List.getElem?_map] at hx
        cases q : qs[i]? with
        | none => rw [q] at hx; cases hx
        | some t => rw [q] at hx; exact ⟨t, rfl, (Option.some.inj hx).symm⟩
      have il : i < W.length := by rw [← wl]; exact (List.getElem?_eq_some_iff.1 htj).1
      have hc1 : W[i]? = some W[i] := List.getElem?_eq_getElem il
      have tkW := List.take_succ_eq_append_getElem il
      obtain ⟨q1, q2⟩ := mW W[i] (List.getElem_mem il)
      obtain ⟨ntF, hT3⟩ := qk3 i t W[i] htj hc1
      generalize W[i] = pr at tkW q1 q2 hT3
      have hT0 := kp0 _ _ ntF hT3
      have haG0 := kp0 _ _ naF ha3
      have bA := b1 M.length lM
      have bB := b2 i
      refine ⟨_, rfl, .inl ⟨rfl, _, SqL.of fa0.1⟩, _, rfl, _, rfl, t, _, _, _, rfl, rfl, SqT.of hT0, atI_nat (j := 0) rfl, _, rfl, t, _, _, _, rfl, rfl, SqT.of hT0, atI_nat (j := 0) rfl, (by show 2 ≤ sizeLine; decide), fun q0 hq0 => ?_⟩
      have xq0 := Ex.new (o := .tup [V.int ((pr.1 : Nat) : Int), V.int ((pr.1 : Nat) : Int)]) hq0
      have gq0 : upd G0 q0 (.tup [V.int ((pr.1 : Nat) : Int), V.int ((pr.1 : Nat) : Int)]) q0 = some (.tup [V.int ((pr.1 : Nat) : Int), V.int ((pr.1 : Nat) : Int)]) := upd_same
      generalize upd G0 q0 (.tup [V.int ((pr.1 : Nat) : Int), V.int ((pr.1 : Nat) : Int)]) = X0 at xq0 gq0 ⊢
      refine ⟨_, rfl, t, _, _, _, rfl, rfl, SqT.of (xq0 _ _ hT0), atI_nat (j := 1) rfl, _, rfl, t, _, _, _, rfl, rfl, SqT.of (xq0 _ _ hT0), atI_nat (j := 1) rfl, (by show 2 ≤ sizeLine; decide), fun r0 hr0 => ?_⟩
      have xr0 := Ex.new (o := .tup [V.int ((pr.2 : Nat) : Int), V.int ((pr.2 : Nat) : Int)]) hr0
      have gr0 : upd X0 r0 (.tup [V.int ((pr.2 : Nat) : Int), V.int ((pr.2 : Nat) : Int)]) r0 = some (.tup [V.int ((pr.2 : Nat) : Int), V.int ((pr.2 : Nat) : Int)]) := upd_same
      have gq0 := xr0 _ _ gq0
      have xq0 := xq0.trans xr0
      generalize upd X0 r0 (.tup [V.int ((pr.2 : Nat) : Int), V.int ((pr.2 : Nat) : Int)]) = Y0 at xq0 gq0 gr0 ⊢
      refine ⟨(by show 2 ≤ sizeLine; decide), fun s0 hs0 => ?_⟩
      have xs0 := Ex.new (o := .lst [V.ref q0, V.ref r0]) hs0
      have gs0 : upd Y0 s0 (.lst [V.ref q0, V.ref r0]) s0 = some (.lst [V.ref q0, V.ref r0]) := upd_same
      have gq0 := xs0 _ _ gq0
      have gr0 := xs0 _ _ gr0
      have xq0 := xq0.trans xs0
      generalize upd Y0 s0 (.lst [V.ref q0, V.ref r0]) = Z0 at xq0 gq0 gs0 gr0 ⊢
      refine ⟨a, s0, R, [(pr.1, pr.1), (pr.2, pr.2)], rfl, xq0 _ _ haG0, lk2 gq0 gr0 gs0, ?_, fun p0 W0 hp0 e0 hq0 => ?_⟩
      · intro l hl
        rcases List.mem_cons.1 hl with h | h
        · rw [h]; exact ⟨by assumption, by assumption⟩
        · rw [List.mem_singleton.1 h]; exact ⟨by assumption, by assumption⟩
      have eW0 := xq0.trans e0
      refine ⟨F, _, _, rfl, rfl, eW0 _ _ fa0.1, lim (by rw [List.length_map, fa0.2.1]; rw [List.length_append]; omega), ?_⟩
      have fa1 := fa0.snoc eW0 (back_none xq0 hp0) hq0
      have kp1 : ∀ x o, x ≠ F → G0 x = some o → upd W0 F (.lst (us0.map V.ref ++ [V.ref p0])) x = some o := fun x o n h => by rw [upd_ne n]; exact eW0 _ _ h
      generalize upd W0 F (.lst (us0.map V.ref ++ [V.ref p0])) = G1 at fa1 kp1 ⊢
      obtain ⟨us1, hus1⟩ : ∃ us, us = us0 ++ [p0] := ⟨_, rfl⟩
      rw [← hus1] at fa1
      have haG1 := kp1 _ _ naF haG0
      have hT1 := kp1 _ _ ntF hT0
      have kp1' : ∀ x o, x ≠ F → H3 x = some o → G1 x = some o := fun x o n h => kp1 _ _ n (kp0 _ _ n h)
      refine ⟨_, rfl, L, rfl, ⟨_, SqL.of (kp1' _ _ nLF hL3)⟩, for_list (K := K) (a := L) (xs := nI M) (fun j σ G => ∃ (v5 v7 v8 : Option V) (us : List Addr), σ = [some (.ref a), some (.ref L), some (.ref P), some (.ref F), v4, v5, some (.ref t), v7, v8] ∧ (∀ x o, x ≠ F → H3 x = some o → G x = some o) ∧ FA G F R us ((List.range M.length).flatMap (near1 M) ++ (W.take i).flatMap (near2 M) ++ [[(pr.1, pr.1), (pr.2, pr.2)]] ++ (M.take j).flatMap (near2x pr))) ⟨v5, v7, v8, us1, rfl, kp1', by rw [List.take_zero, List.flatMap_nil, List.append_nil]; exact fa1⟩ (fun i σ G _ ⟨_, _, _, _, _, e, _⟩ => SqL.of (e _ _ nLF hL3)) ?_ ?_⟩
      · rintro j x σ G5 hx ⟨v5, v7, v8, us5, rfl, kp5, fa5⟩
        have jl : j < M.length := by
          have := (List.getElem?_eq_some_iff.1 hx).1
          rw [nI_len] at this
          exact this
        obtain rfl : x = V.int ((gt M j : Nat) : Int) := by rw [atNg jl] at hx; exact (Option.some.inj hx).symm
        have q3 := mM j jl
        have hT5 := kp5 _ _ ntF hT3
        have haG5 := kp5 _ _ naF ha3
        have bC : ((M.take j).flatMap (near2x pr)).length ≤ 128 := by
          have := flat_le (l := M.take j) (f := near2x pr) (c := 2) fun y _ => Nat.le_refl _
          rw [List.length_take] at this
          omega
        have tk2 : M.take (j + 1) = M.take j ++ [gt M j] := by rw [List.take_succ_eq_append_getElem jl, gt_get]
        refine ⟨_, rfl, .inl ⟨rfl, _, SqL.of fa5.1⟩, _, rfl, _, rfl, t, _, _, _, rfl, rfl, SqT.of hT5, atI_nat (j := 0) rfl, _, rfl, (by show 2 ≤ sizeLine; decide), fun q5 hq5 => ?_⟩
        have xq5 := Ex.new (o := .tup [V.int ((pr.1 : Nat) : Int), V.int ((gt M j : Nat) : Int)]) hq5
        have gq5 : upd G5 q5 (.tup [V.int ((pr.1 : Nat) : Int), V.int ((gt M j : Nat) : Int)]) q5 = some (.tup [V.int ((pr.1 : Nat) : Int), V.int ((gt M j : Nat) : Int)]) := upd_same
        generalize upd G5 q5 (.tup [V.int ((pr.1 : Nat) : Int), V.int ((gt M j : Nat) : Int)]) = X5 at xq5 gq5 ⊢
        refine ⟨_, rfl, t, _, _, _, rfl, rfl, SqT.of (xq5 _ _ hT5), atI_nat (j := 1) rfl, _, rfl, t, _, _, _, rfl, rfl, SqT.of (xq5 _ _ hT5), atI_nat (j := 1) rfl, (by show 2 ≤ sizeLine; decide), fun r5 hr5 => ?_⟩
        have xr5 := Ex.new (o := .tup [V.int ((pr.2 : Nat) : Int), V.int ((pr.2 : Nat) : Int)]) hr5
        have gr5 : upd X5 r5 (.tup [V.int ((pr.2 : Nat) : Int), V.int ((pr.2 : Nat) : Int)]) r5 = some (.tup [V.int ((pr.2 : Nat) : Int), V.int ((pr.2 : Nat) : Int)]) := upd_same
        have gq5 := xr5 _ _ gq5
        have xq5 := xq5.trans xr5
        generalize upd X5 r5 (.tup [V.int ((pr.2 : Nat) : Int), V.int ((pr.2 : Nat) : Int)]) = Y5 at xq5 gq5 gr5 ⊢
        refine ⟨(by show 2 ≤ sizeLine; decide), fun s5 hs5 => ?_⟩
        have xs5 := Ex.new (o := .lst [V.ref q5, V.ref r5]) hs5
        have gs5 : upd Y5 s5 (.lst [V.ref q5, V.ref r5]) s5 = some (.lst [V.ref q5, V.ref r5]) := upd_same
        have gq5 := xs5 _ _ gq5
        have gr5 := xs5 _ _ gr5
        have xq5 := xq5.trans xs5
        generalize upd Y5 s5 (.lst [V.ref q5, V.ref r5]) = Z5 at xq5 gq5 gs5 gr5 ⊢
        refine ⟨a, s5, R, [(pr.1, gt M j), (pr.2, pr.2)], rfl, xq5 _ _ haG5, lk2 gq5 gr5 gs5, ?_, fun p5 W5 hp5 e5 hq5 => ?_⟩
        · intro l hl
          rcases List.mem_cons.1 hl with h | h
          · rw [h]; exact ⟨by assumption, by assumption⟩
          · rw [List.mem_singleton.1 h]; exact ⟨by assumption, by assumption⟩
        have eW5 := xq5.trans e5
        refine ⟨F, _, _, rfl, rfl, eW5 _ _ fa5.1, lim (by rw [List.length_map, fa5.2.1]; rw [List.length_append, List.length_append, List.length_append, List.length_singleton]; omega), ?_⟩
        have fa6 := fa5.snoc eW5 (back_none xq5 hp5) hq5
        have kp6 : ∀ x o, x ≠ F → G5 x = some o → upd W5 F (.lst (us5.map V.ref ++ [V.ref p5])) x = some o := fun x o n h => by rw [upd_ne n]; exact eW5 _ _ h
        generalize upd W5 F (.lst (us5.map V.ref ++ [V.ref p5])) = G6 at fa6 kp6 ⊢
        obtain ⟨us6, hus6⟩ : ∃ us, us = us5 ++ [p5] := ⟨_, rfl⟩
        rw [← hus6] at fa6
        have haG6 := kp6 _ _ naF haG5
        have hT6 := kp6 _ _ ntF hT5
        refine ⟨_, rfl, .inl ⟨rfl, _, SqL.of fa6.1⟩, _, rfl, _, rfl, t, _, _, _, rfl, rfl, SqT.of hT6, atI_nat (j := 1) rfl, _, rfl, (by show 2 ≤ sizeLine; decide), fun q6 hq6 => ?_⟩
        have xq6 := Ex.new (o := .tup [V.int ((pr.2 : Nat) : Int), V.int ((gt M j : Nat) : Int)]) hq6
        have gq6 : upd G6 q6 (.tup [V.int ((pr.2 : Nat) : Int), V.int ((gt M j : Nat) : Int)]) q6 = some (.tup [V.int ((pr.2 : Nat) : Int), V.int ((gt M j : Nat) : Int)]) := upd_same
        generalize upd G6 q6 (.tup [V.int ((pr.2 : Nat) : Int), V.int ((gt M j : Nat) : Int)]) = X6 at xq6 gq6 ⊢
        refine ⟨_, rfl, t, _, _, _, rfl, rfl, SqT.of (xq6 _ _ hT6), atI_nat (j := 0) rfl, _, rfl, t, _, _, _, rfl, rfl, SqT.of (xq6 _ _ hT6), atI_nat (j := 0) rfl, (by show 2 ≤ sizeLine; decide), fun r6 hr6 => ?_⟩
        have xr6 := Ex.new (o := .tup [V.int ((pr.1 : Nat) : Int), V.int ((pr.1 : Nat) : Int)]) hr6
        have gr6 : upd X6 r6 (.tup [V.int ((pr.1 : Nat) : Int), V.int ((pr.1 : Nat) : Int)]) r6 = some (.tup [V.int ((pr.1 : Nat) : Int), V.int ((pr.1 : Nat) : Int)]) := upd_same
        have gq6 := xr6 _ _ gq6
        have xq6 := xq6.trans xr6
        generalize upd X6 r6 (.tup [V.int ((pr.1 : Nat) : Int), V.int ((pr.1 : Nat) : Int)]) = Y6 at xq6 gq6 gr6 ⊢
        refine ⟨(by show 2 ≤ sizeLine; decide), fun s6 hs6 => ?_⟩
        have xs6 := Ex.new (o := .lst [V.ref q6, V.ref r6]) hs6
        have gs6 : upd Y6 s6 (.lst [V.ref q6, V.ref r6]) s6 = some (.lst [V.ref q6, V.ref r6]) := upd_same
        have gq6 := xs6 _ _ gq6
        have gr6 := xs6 _ _ gr6
        have xq6 := xq6.trans xs6
        generalize upd Y6 s6 (.lst [V.ref q6, V.ref r6]) = Z6 at xq6 gq6 gs6 gr6 ⊢
        refine ⟨a, s6, R, [(pr.2, gt M j), (pr.1, pr.1)], rfl, xq6 _ _ haG6, lk2 gq6 gr6 gs6, ?_, fun p6 W6 hp6 e6 hq6 => ?_⟩
        · intro l hl
          rcases List.mem_cons.1 hl with h | h
          · rw [h]; exact ⟨by assumption, by assumption⟩
          · rw [List.mem_singleton.1 h]; exact ⟨by assumption, by assumption⟩
        have eW6 := xq6.trans e6
        refine ⟨F, _, _, rfl, rfl, eW6 _ _ fa6.1, lim (by rw [List.length_map, fa6.2.1]; rw [List.length_append, List.length_append, List.length_append, List.length_append, List.length_singleton, List.length_singleton]; omega), ?_⟩
        have fa7 := fa6.snoc eW6 (back_none xq6 hp6) hq6
        have kp7 : ∀ x o, x ≠ F → G6 x = some o → upd W6 F (.lst (us6.map V.ref ++ [V.ref p6])) x = some o := fun x o n h => by rw [upd_ne n]; exact eW6 _ _ h
        generalize upd W6 F (.lst (us6.map V.ref ++ [V.ref p6])) = G7 at fa7 kp7 ⊢
        obtain ⟨us7, hus7⟩ : ∃ us, us = us6 ++ [p6] := ⟨_, rfl⟩
        rw [← hus7] at fa7
        have haG7 := kp7 _ _ naF haG6
        refine ⟨_, v7, v8, us7, rfl, fun x o n h => kp7 _ _ n (kp6 _ _ n (kp5 _ _ n h)), ?_⟩
        rw [tk2, List.flatMap_append, List.flatMap_cons, List.flatMap_nil, List.append_nil, ← List.append_assoc]
        rw [List.append_assoc] at fa7
        exact fa7
      · rintro σ G5 ⟨v5, v7, v8, us5, rfl, kp5, fa5⟩
        rw [nI_len, List.take_length] at fa5
        refine ⟨_, _, _, _, _, us5, rfl, kp5, ?_⟩
        rw [tkW, List.flatMap_append, List.flatMap_cons, List.flatMap_nil, List.append_nil, ← List.append_assoc]
        rw [List.append_assoc] at fa5
        exact fa5
    rintro σ GB ⟨v4, v5, v6, v7, v8, us, rfl, kp, fa⟩
    rw [List.length_map, wl, List.take_length] at fa
    have bA := b1 M.length lM
    have bB := b2 W.length
    rw [List.take_length] at bB
    refine ⟨_, rfl, P, _, rfl, .inl (SqL.of (kp _ _ nPF hP3)), _, rfl, by rw [List.length_map]; omega, by rw [List.length_map]; omega, ?_⟩
    rw [List.length_map, Int.toNat_natCast, wl]
    refine for_range (lo := 0) (n := W.length) (fun i σ G => ∃ (v4 v5 v6 v7 v8 : Option V) (us : List Addr), σ = [some (.ref a), some (.ref L), some (.ref P), some (.ref F), v4, v5, v6, v7, v8] ∧ (∀ x o, x ≠ F → H3 x = some o → G x = some o) ∧ FA G F R us (((List.range M.length).flatMap (near1 M) ++ W.flatMap (near2 M)) ++ (List.range i).flatMap (near3 W))) ⟨v4, v5, v6, v7, v8, us, rfl, kp, by rw [List.range_zero, List.flatMap_nil, List.append_nil]; exact fa⟩ ?_ ?_
    · clear fa kp us v4 v5 v6 v7 v8
      rintro i σ G hi ⟨v4, v5, v6, v7, v8, us, rfl, kp, fa⟩
      rw [Int.zero_add]
      have qi : i < qs.length := by rw [wl]; exact hi
      have at1 : (qs.map V.ref)[i]? = some (V.ref qs[i]) := by rw [List.getElem?_map, List.getElem?_eq_getElem qi]; rfl
      obtain ⟨o1, o2⟩ := mW W[i] (List.getElem_mem hi)
      obtain ⟨noF, hO3⟩ := qk3 i qs[i] W[i] (List.getElem?_eq_getElem qi) (List.getElem?_eq_getElem hi)
      have wi : W.getD i (0, 0) = W[i] := by rw [List.getD_eq_getElem?_getD, List.getElem?_eq_getElem hi]; rfl
      generalize qs[i] = u at at1 noF hO3
      generalize W[i] = one at o1 o2 hO3 wi
      refine ⟨_, rfl, _, rfl, P, _, _, _, rfl, rfl, SqL.of (kp _ _ nPF hP3), atI_nat at1, ?_⟩
      refine ⟨_, rfl, _, rfl, _, rfl, P, _, rfl, SqL.of (kp _ _ nPF hP3), fun s hs => ?_⟩
      rw [cutTakeV (show i ≤ (qs.map V.ref).length by rw [List.length_map]; omega), ← List.map_take]
      have es := Ex.new (o := .lst ((qs.take i).map V.ref)) hs
      have gs : upd G s (.lst ((qs.take i).map V.ref)) s = some (.lst ((qs.take i).map V.ref)) := upd_same
      have nsF : s ≠ F := fun z => by rw [z, fa.1] at hs; cases hs
      have fa : FA (upd G s (.lst ((qs.take i).map V.ref))) F R us (((List.range M.length).flatMap (near1 M) ++ W.flatMap (near2 M)) ++ (List.range i).flatMap (near3 W)) := ⟨es _ _ fa.1, fa.2.1, fun i t l x y => ⟨(fa.2.2 i t l x y).1, es _ _ (fa.2.2 i t l x y).2⟩⟩
      have kp : ∀ x o, x ≠ F → H3 x = some o → upd G s (.lst ((qs.take i).map V.ref)) x = some o := fun x o n h => es _ _ (kp _ _ n h)
      generalize upd G s (.lst ((qs.take i).map V.ref)) = GS at es gs fa kp ⊢
      have tkl : (qs.take i).length = i := by rw [List.length_take]; omega
      have bC := b3 i (by omega)
      refine ⟨s, rfl, ⟨_, SqL.of gs⟩, for_list (K := K) (a := s) (xs := (qs.take i).map V.ref) (fun j σ G => ∃ (v5 v6 v8 : Option V) (us : List Addr), σ = [some (.ref a), some (.ref L), some (.ref P), some (.ref F), some (.int (i : Int)), v5, v6, some (.ref u), v8] ∧ (∀ x o, x ≠ F → GS x = some o → G x = some o) ∧ FA G F R us (((List.range M.length).flatMap (near1 M) ++ W.flatMap (near2 M)) ++ (List.range i).flatMap (near3 W) ++ (W.take j).flatMap (near3x one))) ⟨v5, v6, v8, us, rfl, fun _ _ _ h => h, by rw [List.take_zero, List.flatMap_nil, List.append_nil]; exact fa⟩ (fun j σ G _ ⟨_, _, _, _, _, e, _⟩ => SqL.of (e _ _ nsF gs)) ?_ ?_⟩
      · rintro j x σ G5 hx ⟨v5, v6, v8, us5, rfl, kp5, fa5⟩
        have jl : j < i := by
          have := (List.getElem?_eq_some_iff.1 hx).1
          rw [List.length_map] at this
          omega
        have qj : j < qs.length := by omega
        have wj : j < W.length := by omega
        obtain rfl : x = V.ref qs[j] := by
          rw [List.getElem?_map, List.getElem?_take, if_pos jl, List.getElem?_eq_getElem qj] at hx
          exact (Option.some.inj hx).symm
        obtain ⟨m1, m2⟩ := mW W[j] (List.getElem_mem wj)
        obtain ⟨ntF, hT3⟩ := qk3 j qs[j] W[j] (List.getElem?_eq_getElem qj) (List.getElem?_eq_getElem wj)
        have tk2 := List.take_succ_eq_append_getElem wj
        generalize qs[j] = t at ntF hT3
        generalize W[j] = mt at m1 m2 hT3 tk2
        have hT5 := kp5 _ _ ntF (kp _ _ ntF hT3)
        have hO5 := kp5 _ _ noF (kp _ _ noF hO3)
        have haG5 := kp5 _ _ naF (kp _ _ naF ha3)
        have bD : ((W.take j).flatMap (near3x one)).length ≤ 128 := by
          have := flat_le (l := W.take j) (f := near3x one) (c := 2) fun y _ => Nat.le_refl _
          rw [List.length_take] at this
          omega
        refine ⟨_, rfl, .inl ⟨rfl, _, SqL.of fa5.1⟩, _, rfl, _, rfl, u, _, _, _, rfl, rfl, SqT.of hO5, atI_nat (j := 0) rfl, _, rfl, t, _, _, _, rfl, rfl, SqT.of hT5, atI_nat (j := 0) rfl, (by show 2 ≤ sizeLine; decide), fun q5 hq5 => ?_⟩
        have xq5 := Ex.new (o := .tup [V.int ((one.1 : Nat) : Int), V.int ((mt.1 : Nat) : Int)]) hq5
        have gq5 : upd G5 q5 (.tup [V.int ((one.1 : Nat) : Int), V.int ((mt.1 : Nat) : Int)]) q5 = some (.tup [V.int ((one.1 : Nat) : Int), V.int ((mt.1 : Nat) : Int)]) := upd_same
        generalize upd G5 q5 (.tup [V.int ((one.1 : Nat) : Int), V.int ((mt.1 : Nat) : Int)]) = X5 at xq5 gq5 ⊢
        refine ⟨_, rfl, u, _, _, _, rfl, rfl, SqT.of (xq5 _ _ hO5), atI_nat (j := 1) rfl, _, rfl, t, _, _, _, rfl, rfl, SqT.of (xq5 _ _ hT5), atI_nat (j := 1) rfl, (by show 2 ≤ sizeLine; decide), fun r5 hr5 => ?_⟩
        have xr5 := Ex.new (o := .tup [V.int ((one.2 : Nat) : Int), V.int ((mt.2 : Nat) : Int)]) hr5
        have gr5 : upd X5 r5 (.tup [V.int ((one.2 : Nat) : Int), V.int ((mt.2 : Nat) : Int)]) r5 = some (.tup [V.int ((one.2 : Nat) : Int), V.int ((mt.2 : Nat) : Int)]) := upd_same
        have gq5 := xr5 _ _ gq5
        have xq5 := xq5.trans xr5
        generalize upd X5 r5 (.tup [V.int ((one.2 : Nat) : Int), V.int ((mt.2 : Nat) : Int)]) = Y5 at xq5 gq5 gr5 ⊢
        refine ⟨(by show 2 ≤ sizeLine; decide), fun s5 hs5 => ?_⟩
        have xs5 := Ex.new (o := .lst [V.ref q5, V.ref r5]) hs5
        have gs5 : upd Y5 s5 (.lst [V.ref q5, V.ref r5]) s5 = some (.lst [V.ref q5, V.ref r5]) := upd_same
        have gq5 := xs5 _ _ gq5
        have gr5 := xs5 _ _ gr5
        have xq5 := xq5.trans xs5
        generalize upd Y5 s5 (.lst [V.ref q5, V.ref r5]) = Z5 at xq5 gq5 gs5 gr5 ⊢
        refine ⟨a, s5, R, [(one.1, mt.1), (one.2, mt.2)], rfl, xq5 _ _ haG5, lk2 gq5 gr5 gs5, ?_, fun p5 W5 hp5 e5 hq5 => ?_⟩
        · intro l hl
          rcases List.mem_cons.1 hl with h | h
          · rw [h]; exact ⟨by assumption, by assumption⟩
          · rw [List.mem_singleton.1 h]; exact ⟨by assumption, by assumption⟩
        have eW5 := xq5.trans e5
        refine ⟨F, _, _, rfl, rfl, eW5 _ _ fa5.1, lim (by rw [List.length_map, fa5.2.1]; rw [List.length_append, List.length_append, List.length_append]; omega), ?_⟩
        have fa6 := fa5.snoc eW5 (back_none xq5 hp5) hq5
        have kp6 : ∀ x o, x ≠ F → G5 x = some o → upd W5 F (.lst (us5.map V.ref ++ [V.ref p5])) x = some o := fun x o n h => by rw [upd_ne n]; exact eW5 _ _ h
        generalize upd W5 F (.lst (us5.map V.ref ++ [V.ref p5])) = G6 at fa6 kp6 ⊢
        obtain ⟨us6, hus6⟩ : ∃ us, us = us5 ++ [p5] := ⟨_, rfl⟩
        rw [← hus6] at fa6
        have haG6 := kp6 _ _ naF haG5
        have hT6 := kp6 _ _ ntF hT5
        have hO6 := kp6 _ _ noF hO5
        refine ⟨_, rfl, .inl ⟨rfl, _, SqL.of fa6.1⟩, _, rfl, _, rfl, u, _, _, _, rfl, rfl, SqT.of hO6, atI_nat (j := 0) rfl, _, rfl, t, _, _, _, rfl, rfl, SqT.of hT6, atI_nat (j := 1) rfl, (by show 2 ≤ sizeLine; decide), fun q6 hq6 => ?_⟩
        have xq6 := Ex.new (o := .tup [V.int ((one.1 : Nat) : Int), V.int ((mt.2 : Nat) : Int)]) hq6
        have gq6 : upd G6 q6 (.tup [V.int ((one.1 : Nat) : Int), V.int ((mt.2 : Nat) : Int)]) q6 = some (.tup [V.int ((one.1 : Nat) : Int), V.int ((mt.2 : Nat) : Int)]) := upd_same
        generalize upd G6 q6 (.tup [V.int ((one.1 : Nat) : Int), V.int ((mt.2 : Nat) : Int)]) = X6 at xq6 gq6 ⊢
        refine ⟨_, rfl, u, _, _, _, rfl, rfl, SqT.of (xq6 _ _ hO6), atI_nat (j := 1) rfl, _, rfl, t, _, _, _, rfl, rfl, SqT.of (xq6 _ _ hT6), atI_nat (j := 0) rfl, (by show 2 ≤ sizeLine; decide), fun r6 hr6 => ?_⟩
        have xr6 := Ex.new (o := .tup [V.int ((one.2 : Nat) : Int), V.int ((mt.1 : Nat) : Int)]) hr6
        have gr6 : upd X6 r6 (.tup [V.int ((one.2 : Nat) : Int), V.int ((mt.1 : Nat) : Int)]) r6 = some (.tup [V.int ((one.2 : Nat) : Int), V.int ((mt.1 : Nat) : Int)]) := upd_same
        have gq6 := xr6 _ _ gq6
        have xq6 := xq6.trans xr6
        generalize upd X6 r6 (.tup [V.int ((one.2 : Nat) : Int), V.int ((mt.1 : Nat) : Int)]) = Y6 at xq6 gq6 gr6 ⊢
        refine ⟨(by show 2 ≤ sizeLine; decide), fun s6 hs6 => ?_⟩
        have xs6 := Ex.new (o := .lst [V.ref q6, V.ref r6]) hs6
        have gs6 : upd Y6 s6 (.lst [V.ref q6, V.ref r6]) s6 = some (.lst [V.ref q6, V.ref r6]) := upd_same
        have gq6 := xs6 _ _ gq6
        have gr6 := xs6 _ _ gr6
        have xq6 := xq6.trans xs6
        generalize upd Y6 s6 (.lst [V.ref q6, V.ref r6]) = Z6 at xq6 gq6 gs6 gr6 ⊢
        refine ⟨a, s6, R, [(one.1, mt.2), (one.2, mt.1)], rfl, xq6 _ _ haG6, lk2 gq6 gr6 gs6, ?_, fun p6 W6 hp6 e6 hq6 => ?_⟩
        · intro l hl
          rcases List.mem_cons.1 hl with h | h
          · rw [h]; exact ⟨by assumption, by assumption⟩
          · rw [List.mem_singleton.1 h]; exact ⟨by assumption, by assumption⟩
        have eW6 := xq6.trans e6
        refine ⟨F, _, _, rfl, rfl, eW6 _ _ fa6.1, lim (by rw [List.length_map, fa6.2.1]; rw [List.length_append, List.length_append, List.length_append, List.length_append, List.length_singleton]; omega), ?_⟩
        have fa7 := fa6.snoc eW6 (back_none xq6 hp6) hq6
        have kp7 : ∀ x o, x ≠ F → G6 x = some o → upd W6 F (.lst (us6.map V.ref ++ [V.ref p6])) x = some o := fun x o n h => by rw [upd_ne n]; exact eW6 _ _ h
        generalize upd W6 F (.lst (us6.map V.ref ++ [V.ref p6])) = G7 at fa7 kp7 ⊢
        obtain ⟨us7, hus7⟩ : ∃ us, us = us6 ++ [p6] := ⟨_, rfl⟩
        rw [← hus7] at fa7
        have haG7 := kp7 _ _ naF haG6
        refine ⟨v5, v6, _, us7, rfl, fun x o n h => kp7 _ _ n (kp6 _ _ n (kp5 _ _ n h)), ?_⟩
        rw [tk2, List.flatMap_append, List.flatMap_cons, List.flatMap_nil, List.append_nil, ← List.append_assoc]
        rw [List.append_assoc] at fa7
        exact fa7
      · rintro σ G5 ⟨v5, v6, v8, us5, rfl, kp5, fa5⟩
        rw [List.length_map, tkl] at fa5
        refine ⟨_, _, _, _, _, us5, rfl, fun x o n h => kp5 _ _ n (kp _ _ n h), ?_⟩
        rw [List.range_succ, List.flatMap_append, List.flatMap_cons, List.flatMap_nil, List.append_nil, ← List.append_assoc]
        unfold near3
        rw [wi]
        exact fa5
    rintro σ G ⟨v4, v5, v6, v7, v8, us, rfl, kp, fa⟩
    rw [List.append_assoc, ← nF] at fa
    refine ⟨_, rfl, k F G fF0 (fun x o h => kp _ _ (ne_of_none h fF0) (e3 _ _ h)) ⟨us, fa.1, by rw [List.length_map]; exact fa.2.1, fun i t r h1 h2 => ?_⟩⟩
    rw [List.getElem?_map] at h2
    cases q : (nearF R)[i]? with
    | none => rw [q] at h2; cases h2
    | some lk =>
      rw [q] at h2
      rw [← Option.some.inj h2]
      exact (fa.2.2 i t lk h1 q).2

end

section
variable {P : Program} {w : World} {K : PySem.W.Frag} {mg : Str → Option Value} {base : Heap} {A : Ad}
theorem ok_part_distance (T : Txt K mg A)   : Okd P w K mg base CX0 1 A.part_distance P_part_distance spPd := by
  obtain ⟨fd, F⟩ := T.d_part_distance

  refine ⟨fd, F.ok sc_part_distance (fun vs H Q E h => ?_) (fun cdv A' outer s H vs Q E hr h => ?_), F.binds fun _ _ _ _ _ _ us hl => match us, hl with | [_], _ => rfl⟩
  · obtain ⟨t, c, rfl, _⟩ := h
    rfl
  · obtain ⟨t, c, rfl, ht, hl2, k⟩ := h
    refine ⟨_, (pss_cons (ps_asg (pv 0) (pg_tup (by rfl) (pgs_cons (pg_name (i := 1) sc_part_distance.nd rfl (Or.inl rfl)) (pgs_cons (pg_name (i := 2) sc_part_distance.nd rfl (Or.inl rfl)) pgs_nil))))
      (pss_one (ps_ret (pe_ifExp (pt_cmpR op_eq (pv 1) pe_str (nomark _)) (pe_op op_sub (pe_op op_fdivW (pe_callB call_len_seq (by rfl) T.n_len PySem.boot_len (pa_cons (pv 2) pa_nil)) pe_int) pe_int) (pe_op op_fdivW (pe_callB call_len_seq (by rfl) T.n_len PySem.boot_len (pa_cons (pv 2) pa_nil)) pe_int))))), ?_⟩
    obtain ⟨l, ht, hl⟩ := ht
    obtain ⟨ring, row⟩ := c
    have hl : ListN H l row := hl
    refine ⟨_, rfl, t, _, rfl, SqT.of ht, rfl, _, _, rfl, _, _, rfl, rfl, ?_⟩
    have nr : decide (V.str (wE (rgB false)) = V.str "ring") = false := decide_eq_false (fun z => by injection z with z; exact absurd z (by decide +kernel))
    cases ring with
    | false =>
      refine ⟨_, rfl, rfl, _, rfl, ifF nr ⟨_, rfl, l, _, rfl, .inl (SqL.of hl), _, _, rfl, rfl, ?_, ?_⟩⟩
      · rw [nI_len]
        first
          | exact wide_div (b := 60) (by omega) (by omega) (by decide) (by decide)
          | exact Or.inr ⟨by decide, by decide⟩
          | exact ⟨by decide, by decide⟩
          | exact ⟨by omega, by omega, by decide⟩
      · rw [nI_len]
        exact k
    | true =>
      refine ⟨_, rfl, rfl, _, rfl, ifT (decide_eq_true rfl) ⟨_, rfl, l, _, rfl, .inl (SqL.of hl), _, _, rfl, rfl, ?_, _, _, rfl, rfl, ?_⟩⟩
      · rw [nI_len]
        first
          | exact wide_div (b := 60) (by omega) (by omega) (by decide) (by decide)
          | exact Or.inr ⟨by decide, by decide⟩
          | exact ⟨by decide, by decide⟩
          | exact ⟨by omega, by omega, by decide⟩
      · rw [nI_len]
        exact k

end

section
variable {P : Program} {w : World} {K : PySem.W.Frag} {mg : Str → Option Value} {base : Heap} {A : Ad}
theorem ok_walk (T : Txt K mg A)   : Okd P w K mg base CX0 1 A.walk P_walk spWk := by
  obtain ⟨fd, F⟩ := T.d_walk

  refine ⟨fd, F.ok sc_walk (fun vs H Q E h => ?_) (fun cdv A' outer s H vs Q E hr h => ?_), F.binds fun _ _ _ _ _ _ us hl => match us, hl with | [_, _, _], _ => rfl⟩
  · obtain ⟨a, b, ys, zs, w, s, rfl, _⟩ := h
    rfl
  · obtain ⟨a, b, ys, zs, w, s, rfl, ha, hb, hl, h65, T0, k⟩ := h
    refine ⟨_, (pss_cons (ps_set (i := 3) sc_walk.nd rfl (Or.inl rfl) (pe_lst (pa_cons (pv 2) pa_nil)))
      (pss_cons (ps_set (i := 4) sc_walk.nd rfl (Or.inl rfl) (pe_ix ix_list (pv 0) (pv 2) (fun _ _ => rfl)))
      (pss_cons (ps_while PassesOwn.never (PW.pt (pw_and (pt_cmpR op_ne (pv 4) (pe_ix ix_list (pv 3) (pe_un un_neg pe_int) (fun _ _ => rfl)) (nomark _)) (pw_and1 (pt_cmpR op_ne (pv 4) (pv 2) (nomark _))))) (pss_cons (ps_expr (pe_bm PySem.F.plainAttrs_list PySem.F.slot_list_append PySem.F.type_list_append mt_append (pv 3) (pa_cons (pv 4) pa_nil)))
      (pss_cons (ps_par (i := 0) (j := 1) rfl sc_walk.nd rfl rfl (by decide) rfl rfl (pa_cons (pv 1) (pa_cons (pv 0) pa_nil)) (by rfl))
      (pss_one (ps_set (i := 4) sc_walk.nd rfl (Or.inl rfl) (pe_ix ix_list (pv 0) (pv 4) (fun _ _ => rfl)))))))
      (pss_one (ps_ret (pv 3)))))), ?_⟩
    have p0 := T0.pos
    refine ⟨_, rfl, (by show 1 ≤ sizeLine; decide), fun p hp => ?_⟩
    have lp : ListN (upd H p (.lst [V.int (s : Int)])) p [s] := upd_same
    have e1 := Ex.new (o := .lst [V.int (s : Int)]) hp
    generalize upd H p (.lst [V.int (s : Int)]) = H1 at lp e1 ⊢
    have hs : s < ys.length := by
      have := T0.lt _ (gt_mem p0)
      rw [T0.st] at this
      exact this
    refine ⟨_, rfl, _, rfl, a, _, _, _, rfl, rfl, (ha.ex e1).sz, atN hs, ?_⟩
    have la := ha.ex e1
    have lb := hb.ex e1
    have npa : p ≠ a := fun z => by have h : H a = some _ := ha; rw [← z, hp] at h; cases h
    have npb : p ≠ b := fun z => by have h : H b = some _ := hb; rw [← z, hp] at h; cases h
    have tk1 : w.take 1 = [s] := by
      have e := take_succ' (l := w) (q := 0) p0
      rw [T0.st] at e
      exact e
    refine ⟨fun m σ G => ∃ (j : Nat) (u v : Addr), m = w.length - j ∧ j < w.length ∧ σ = [some (.ref u), some (.ref v), some (.int (s : Int)), some (.ref p), some (.int ((gt (sel ys zs j) (gt w j) : Nat) : Int))] ∧ ListN G u (sel ys zs j) ∧ ListN G v (sel ys zs (j + 1)) ∧ u ≠ p ∧ v ≠ p ∧ (∀ x o, x ≠ p → H1 x = some o → G x = some o) ∧ ListN G p (w.take (j + 1)), ⟨w.length, 0, a, b, rfl, p0, by rw [T0.st]; rfl, la, lb, Ne.symm npa, Ne.symm npb, fun _ _ _ h => h, by rw [tk1]; exact lp⟩, ?_⟩
    rintro m σ G ⟨j, u, v, rfl, hj, rfl, lu, lv, nu, nv, KG, lpG⟩
    have lw : (w.take (j + 1)).length = j + 1 := by rw [List.length_take]; omega
    have hwl : w.length ≤ 65 := Nat.le_trans (nodup_len T0.nd T0.lt) h65
    have last : atI (nI (w.take (j + 1))) (-1) = some (V.int ((gt w j : Nat) : Int)) := by
      have g := atLast (l := w.take (j + 1)) (by omega)
      rw [lw, gt_take (by omega)] at g
      exact g
    have sl : ∀ i, (sel ys zs i).length = ys.length := sel_len hl.symm
    refine ⟨_, rfl, _, rfl, _, rfl, p, _, _, _, rfl, rfl, lpG.sz, last, rfl, _, rfl, ?_⟩
    rw [dne]
    refine ite_b (fun c => ?_) (fun c => ?_)
    rotate_left
    · have c := Decidable.not_not.mp (of_decide_eq_false c)
      have e : j = w.length - 1 := by
        apply Decidable.byContradiction
        intro n
        have g := T0.go j (by omega)
        rw [c] at g
        have := gt_inj T0.nd hj (by omega) g
        omega
      have tw : w.take (j + 1) = w := List.take_of_length_le (by omega)
      rw [tw] at lpG
      exact ⟨_, rfl, k p G hp (fun x o h => KG x o (ne_of_none h hp) (e1 x o h)) lpG⟩
    have c := of_decide_eq_true c
    refine ⟨_, rfl, _, rfl, rfl, _, rfl, ?_⟩
    rw [dne]
    refine ite_b (fun c2 => ?_) (fun c2 => ?_)
    rotate_left
    · have c2 := Decidable.not_not.mp (of_decide_eq_false c2)
      have e : j = w.length - 1 := by
        apply Decidable.byContradiction
        intro n
        have g := T0.go j (by omega)
        rw [c2, ← T0.st] at g
        have := gt_inj T0.nd p0 (by omega) g
        omega
      have tw : w.take (j + 1) = w := List.take_of_length_le (by omega)
      rw [tw] at lpG
      exact ⟨_, rfl, k p G hp (fun x o h => KG x o (ne_of_none h hp) (e1 x o h)) lpG⟩
    have c2 := of_decide_eq_true c2
    have j1 : j + 1 < w.length := by
      apply Decidable.byContradiction
      intro n
      have e : j = w.length - 1 := by omega
      have f := T0.fin
      rw [← e] at f
      rcases f with f | f
      · exact c f
      · exact c2 f
    have step := T0.go j j1
    refine ⟨fun σ' G' => ∃ (u v : Addr), σ' = [some (.ref u), some (.ref v), some (.int (s : Int)), some (.ref p), some (.int ((gt (sel ys zs (j + 1)) (gt w (j + 1)) : Nat) : Int))] ∧ ListN G' u (sel ys zs (j + 1)) ∧ ListN G' v (sel ys zs (j + 2)) ∧ u ≠ p ∧ v ≠ p ∧ (∀ x o, x ≠ p → H1 x = some o → G' x = some o) ∧ ListN G' p (w.take (j + 2)), fun σ' G' ⟨u', v', h1, h2⟩ => ⟨w.length - (j + 1), by omega, j + 1, u', v', rfl, j1, h1, h2⟩, ?_⟩
    refine ⟨_, rfl, Or.inl ⟨rfl, _, lpG.sz⟩, _, rfl, _, _, _, rfl, rfl, lpG, small1000 (by rw [nI_len, lw]; omega), ?_⟩
    rw [step]
    have lp2 : ListN (upd G p (.lst (nI (w.take (j + 1)) ++ [V.int ((gt w (j + 1) : Nat) : Int)]))) p (w.take (j + 2)) := by
      show upd G p _ p = _
      rw [upd_same, take_succ' j1, nI_app]
    have k2 : ∀ x o, x ≠ p → G x = some o → upd G p (.lst (nI (w.take (j + 1)) ++ [V.int ((gt w (j + 1) : Nat) : Int)])) x = some o := fun x o h1 h => by rw [upd_ne h1]; exact h
    generalize upd G p (.lst (nI (w.take (j + 1)) ++ [V.int ((gt w (j + 1) : Nat) : Int)])) = G2 at lp2 k2 ⊢
    have lv2 : ListN G2 v (sel ys zs (j + 1)) := k2 _ _ nv lv
    have lu2 : ListN G2 u (sel ys zs j) := k2 _ _ nu lu
    refine ⟨_, rfl, _, rfl, _, _, rfl, ?_⟩
    refine ⟨_, rfl, _, rfl, v, _, _, _, rfl, rfl, lv2.sz, atN (by rw [sl]; exact T0.lt _ (gt_mem j1)), ?_⟩
    refine ⟨v, u, rfl, lv2, ?_, nv, nu, fun x o h1 h => k2 x o h1 (KG x o h1 h), lp2⟩
    rw [sel_two (show (j + 2) % 2 = j % 2 by omega)]
    exact lu2

end

section
variable {P : Program} {w : World} {K : PySem.W.Frag} {mg : Str → Option Value} {base : Heap} {A : Ad}
theorem ok_part_of (T : Txt K mg A)  (g_walk : Okd P w K mg base CX0 1 A.walk P_walk spWk) : Okd P w K mg base CX0 2 A.part_of P_part_of spPt := by
  obtain ⟨fd, F⟩ := T.d_part_of
  obtain ⟨fd_walk, G_walk, b_walk⟩ := g_walk
  refine ⟨fd, F.ok sc_part_of (fun vs H Q E h => ?_) (fun cdv A' outer s H vs Q E hr h => ?_), F.binds fun _ _ _ _ _ _ us hl => match us, hl with | [_, _, _], _ => rfl⟩
  · obtain ⟨a, b, ys, zs, x, rfl, _⟩ := h
    rfl
  · obtain ⟨a, b, ys, zs, x, rfl, ha, hb, sy, sz, hl, h65, hx, k⟩ := h
    refine ⟨_, (pss_cons (ps_set (i := 3) sc_part_of.nd rfl (Or.inl rfl) (pe_call G_walk (hr.mono (by decide)) (by rfl) T.g_walk T.k_walk b_walk .nil pass0 (pa_cons (pv 0) (pa_cons (pv 1) (pa_cons (pv 2) pa_nil)))))
      (pss_cons (ps_if (pt_cmpR op_in_seq (pe_ix ix_list (pv 1) (pv 2) (fun _ _ => rfl)) (pe_slice sl_list (pv 3) (po_some pe_int) po_none) (by with_unfolding_all rfl)) (pss_one (ps_ret (pe_tup (pa_cons pe_str (pa_cons (pv 3) pa_nil))))) pss_nil)
      (pss_cons (ps_set (i := 4) sc_part_of.nd rfl (Or.inl rfl) (pe_call G_walk (hr.mono (by decide)) (by rfl) T.g_walk T.k_walk b_walk .nil pass0 (pa_cons (pv 1) (pa_cons (pv 0) (pa_cons (pv 2) pa_nil)))))
      (pss_cons (ps_set (i := 3) sc_part_of.nd rfl (Or.inl rfl) (pe_op op_cat (DaS.pe_low (pv 4) pe_int (pe_un un_neg pe_int)) (pv 3)))
      (pss_cut (ps_if (pt_cmpR op_gt (pe_ix ix_list (pv 3) pe_int (fun _ _ => rfl)) (pe_ix ix_list (pv 3) (pe_un un_neg pe_int) (fun _ _ => rfl)) (nomark _)) (pss_one (ps_set (i := 3) sc_part_of.nd rfl (Or.inl rfl) (StK.pe_back (pv 3) (pe_un un_neg pe_int)))) pss_nil)
      (pss_one (ps_ret (pe_tup (pa_cons pe_str (pa_cons (pv 3) pa_nil)))))))))), ?_⟩
    have st := trl_ex hl.symm sy sz hx
    have st2 := trl_ex (A := zs) (B := ys) hl sz sy (by rw [hl]; exact hx)
    have T1 := walkF_ok st
    have T2 := walkF_ok st2
    refine ⟨_, rfl, _, rfl, _, rfl, a, b, ys, zs, walkF ys zs x, x, rfl, ha, hb, hl, h65, T1, fun pa H1 hpa e1 l1 => ?_⟩
    have p1 := T1.pos
    have p2 := T2.pos
    have w1l : (walkF ys zs x).length ≤ 65 := Nat.le_trans (nodup_len T1.nd T1.lt) h65
    have w2l : (walkF zs ys x).length ≤ 65 := Nat.le_trans (nodup_len T2.nd T2.lt) (by rw [hl]; exact h65)
    unfold partF at k
    generalize walkF ys zs x = w1 at T1 l1 p1 w1l k
    generalize walkF zs ys x = w2 at T2 p2 w2l k
    refine ⟨_, rfl, _, rfl, b, _, _, _, rfl, rfl, (hb.ex e1).sz, atN (by rw [hl]; exact hx), _, rfl, _, rfl, pa, _, rfl, l1.sz, fun q hq => ?_⟩
    rw [show cutV (nI w1) (some (1 : Int)) none = nI (w1.drop 1) from cutDrop (k := 1) p1, List.drop_one]
    have lq : ListN (upd H1 q (.lst (nI w1.tail))) q w1.tail := upd_same
    have e2 := e1.trans (Ex.new (o := .lst (nI w1.tail)) hq)
    have l12 := l1.ex (Ex.new (o := .lst (nI w1.tail)) hq)
    generalize upd H1 q (.lst (nI w1.tail)) = H2 at lq e2 l12 ⊢
    refine ⟨q, _, rfl, Or.inl lq.sz, rfl, flat_nI _, _, rfl, ?_⟩
    show if (inV (V.int ((gt zs x : Nat) : Int)) (nI w1.tail)) = true then _ else _
    rw [nat_in]
    refine ite_b (fun c => ?_) (fun c => ?_)
    · have c := of_decide_eq_true c
      rw [if_pos c] at k
      refine ⟨_, rfl, (by show 2 ≤ sizeLine; decide), fun t ht => ?_⟩
      have e3 := Ex.new (o := .tup [V.str "ring", V.ref pa]) ht
      exact k t pa _ (back_none e2 ht) hpa (e2.trans e3) upd_same (l12.ex e3)
    have c := of_decide_eq_false c
    rw [if_neg c] at k
    refine ⟨_, rfl, _, rfl, _, rfl, b, a, zs, ys, w2, x, rfl, hb.ex e2, ha.ex e2, hl.symm, by omega, T2, fun pb H3 hpb e3 l3 => ?_⟩
    refine ⟨_, rfl, rfl, _, rfl, rfl, pb, _, rfl, l3.sz, fun q2 hq2 => ?_⟩
    rw [tail_nI, rev_nI]
    have e4 := Ex.new (o := .lst (nI w2.tail.reverse)) hq2
    have lq2 : ListN (upd H3 q2 (.lst (nI w2.tail.reverse))) q2 w2.tail.reverse := upd_same
    have l14 := (l12.ex e3).ex e4
    have e04 := (e2.trans e3).trans e4
    generalize upd H3 q2 (.lst (nI w2.tail.reverse)) = H4 at e4 lq2 l14 e04 ⊢
    refine ⟨_, rfl, q2, pa, _, _, rfl, rfl, lq2, l14, (by rw [nI_len, nI_len, List.length_reverse, List.length_tail]; exact Nat.le_trans (by omega) (show 130 ≤ sizeLine by decide)), fun p3 hp3 => ?_⟩
    rw [cat_nI]
    have e5 := Ex.new (o := .lst (nI (w2.tail.reverse ++ w1))) hp3
    have l5 : ListN (upd H4 p3 (.lst (nI (w2.tail.reverse ++ w1)))) p3 (w2.tail.reverse ++ w1) := upd_same
    have e05 := e04.trans e5
    have fp3 := back_none e04 hp3
    generalize upd H4 p3 (.lst (nI (w2.tail.reverse ++ w1))) = H5 at l5 e05 ⊢
    have rl : 0 < (w2.tail.reverse ++ w1).length := by rw [List.length_append]; omega
    have rl2 : (w2.tail.reverse ++ w1).length ≤ 130 := by rw [List.length_append, List.length_reverse, List.length_tail]; omega
    generalize w2.tail.reverse ++ w1 = row at l5 rl rl2 k ⊢
    refine ⟨fun σ G => ∃ p l, σ = [some (.ref a), some (.ref b), some (.int (x : Int)), some (.ref p), some (.ref pb)] ∧ H p = none ∧ Ex H G ∧ ListN G p l ∧ l = (if gt row 0 > gt row (row.length - 1) then row.reverse else row), ?_, ?_⟩
    · refine ⟨_, rfl, p3, _, _, _, rfl, rfl, l5.sz, (show atI (nI row) ((0 : Nat) : Int) = some (V.int ((gt row 0 : Nat) : Int)) from atN rl), _, rfl, _, rfl, p3, _, _, _, rfl, rfl, l5.sz, atLast rl, _, _, rfl, rfl, _, rfl, ?_⟩
      refine ite_b (fun c => ?_) (fun c => ?_)
      · have c := of_decide_eq_true c
        refine ⟨_, rfl, _, rfl, rfl, p3, _, rfl, l5.sz, fun p4 hp4 => ?_⟩
        rw [rev_nI]
        exact ⟨p4, row.reverse, rfl, back_none e05 hp4, ex_new e05 hp4, upd_same, (if_pos (by omega)).symm⟩
      · have c := of_decide_eq_false c
        exact ⟨p3, row, rfl, fp3, e05, l5, (if_neg (by omega)).symm⟩
    rintro σ G ⟨p, l, rfl, fp, eG, lG, el⟩
    refine ⟨_, rfl, (by show 2 ≤ sizeLine; decide), fun t ht => ?_⟩
    have e6 := Ex.new (o := .tup [V.str "chain", V.ref p]) ht
    rw [← el] at k
    exact k t p _ (back_none eG ht) fp (eG.trans e6) upd_same (lG.ex e6)

end

section
variable {P : Program} {w : World} {K : PySem.W.Frag} {mg : Str → Option Value} {base : Heap} {A : Ad}
theorem part_len {A B : List Nat} {x : Nat} (h : A.length = B.length) (a : Sta A) (b : Sta B) (hx : x < A.length) : (partF A B x).2.length ≤ 2 * A.length := by
  have T1 := walkF_ok (trl_ex h a b hx)
  have T2 := walkF_ok (trl_ex h.symm b a (by rw [← h]; exact hx))
  have w1 := nodup_len T1.nd T1.lt
  have w2 := nodup_len T2.nd T2.lt
  unfold partF
  split
  · show (walkF A B x).length ≤ _
    omega
  · show (if _ then _ else _ : List Nat).length ≤ _
    split
    · rw [List.length_reverse, List.length_append, List.length_reverse, List.length_tail]
      omega
    · rw [List.length_append, List.length_reverse, List.length_tail]
      omega
theorem parts_len {A B : List Nat} (h : A.length = B.length) (a : Sta A) (b : Sta B) : ∀ i, i ≤ A.length → ((partsF A B i).flatMap (·.2)).length ≤ i * (2 * A.length)
  | 0, _ => Nat.zero_le _
  | i + 1, hi => by
    have ih := parts_len h a b i (by omega)
    have pl := part_len h a b (show i < A.length by omega)
    show (List.flatMap _ (if _ then _ else _)).length ≤ _
    rw [Nat.succ_mul]
    split
    · rw [List.flatMap_append, List.length_append, List.flatMap_cons, List.flatMap_nil, List.append_nil]
      omega
    · omega
theorem ok_parts (T : Txt K mg A)  (g_check_pair : Okd P w K mg base (L2N.CX P w) 5 A.check_pair P_check_pair (spCP A)) (g_part_of : Okd P w K mg base CX0 2 A.part_of P_part_of spPt) : Okd P w K mg base (L2N.CX P w) 6 A.parts P_parts (spPts A) := by
  obtain ⟨fd, F⟩ := T.d_parts
  obtain ⟨fd_check_pair, G_check_pair, b_check_pair⟩ := g_check_pair
  obtain ⟨fd_part_of, G_part_of, b_part_of⟩ := g_part_of
  refine ⟨fd, F.okN sc_parts (fun vs H Q E h => ?_) (fun cdv A' outer s H vs Q E hr h => ?_), F.binds fun _ _ _ _ _ _ us hl => match us, hl with | [_, _], _ => rfl⟩
  · obtain ⟨a, b, xs, zs, rfl, _⟩ := h
    rfl
  · obtain ⟨a, b, xs, zs, rfl, ha, hb, hl, hl2, kq, kr⟩ := h
    refine ⟨_, (pss_cons (ps_expr (pe_callS G_check_pair (hr.mono (by decide)) rfl T.g_check_pair T.k_check_pair b_check_pair (fun σ => L2N.passAt (L2N.takes_of rfl rfl rfl rfl) σ) (pa_cons (pv 0) (pa_cons (pv 1) pa_nil))))
      (pss_cons (ps_set (i := 2) sc_parts.nd rfl (Or.inl rfl) (pe_lst pa_nil))
      (pss_cons (ps_set (i := 3) sc_parts.nd rfl (Or.inl rfl) (pe_lst pa_nil))
      (pss_cons (ps_for (passes_of rfl) rfl (pi_enum (by rfl) T.n_enumerate (pa_cons (pv 0) pa_nil)) (pg_tup (by rfl) (pgs_cons (pg_name (i := 4) sc_parts.nd rfl (Or.inl rfl)) (pgs_cons (pg_name (i := 5) sc_parts.nd rfl (Or.inl rfl)) pgs_nil))) (pss_one (ps_if (PW.pt (pw_and (pt_cmpR op_ne (pv 5) (pe_ix ix_list (pv 1) (pv 4) (fun _ _ => rfl)) (nomark _)) (pw_and1 (pt_cmpR op_notIn_seq (pv 4) (pv 3) (by with_unfolding_all rfl))))) (pss_cons (ps_set (i := 6) sc_parts.nd rfl (Or.inl rfl) (pe_call G_part_of (hr.mono (by decide)) (by rfl) T.g_part_of T.k_part_of b_part_of .nil pass0 (pa_cons (pv 0) (pa_cons (pv 1) (pa_cons (pv 4) pa_nil)))))
      (pss_cons (ps_expr (pe_bm PySem.F.plainAttrs_list PySem.F.slot_list_append PySem.F.type_list_append mt_append (pv 2) (pa_cons (pv 6) pa_nil)))
      (pss_one (ps_expr (pe_bm PySem.F.plainAttrs_list PySem.F.slot_list_extend PySem.F.type_list_extend mt_extend (pv 3) (pa_cons (pe_ix ix_tup (pv 6) pe_int (fun _ _ => rfl)) pa_nil)))))) pss_nil)))
      (pss_one (ps_ret (pv 2))))))), ?_⟩
    refine ⟨_, rfl, _, rfl, a, b, xs, zs, rfl, ha, hb, hl, hl2, fun f0 H1 e1 => ?_, fun f hf => kr f hf⟩
    have kq := kq f0
    obtain ⟨fs1, fs2, hlen⟩ := faultF_no f0
    obtain ⟨s1, st1⟩ := faultS_no fs1
    obtain ⟨s2, st2⟩ := faultS_no fs2
    have la := (ha.ex e1).nat s1
    have lb := (hb.ex e1).nat s2
    have yl : (natI xs).length = xs.length := natI_len
    have zl : (natI zs).length = xs.length := by rw [natI_len, hlen]
    generalize natI xs = ys at st1 la yl kq
    generalize natI zs = ws at st2 lb zl kq
    rw [← yl] at hl kq
    refine ⟨(by show 0 ≤ sizeLine; decide), fun pf hpf => ?_⟩
    have e2 := Ex.new (o := .lst []) hpf
    have lf0 : upd H1 pf (.lst []) pf = some (.lst []) := upd_same
    generalize upd H1 pf (.lst []) = H2 at e2 lf0 ⊢
    refine ⟨(by show 0 ≤ sizeLine; decide), fun ps hps => ?_⟩
    have e3 := Ex.new (o := .lst []) hps
    have ls0 : ListN (upd H2 ps (.lst [])) ps [] := upd_same
    have lf1 := e3 _ _ lf0
    have nfs : pf ≠ ps := ne_of_none lf0 hps
    generalize upd H2 ps (.lst []) = H3 at e3 ls0 lf1 ⊢
    have e03 := (e1.trans e2).trans e3
    have laN := (la.ex e2).ex e3
    have lbN := (lb.ex e2).ex e3
    have naf : a ≠ pf := ne_of_none (show H1 a = some _ from la) hpf
    have nbf : b ≠ pf := ne_of_none (show H1 b = some _ from lb) hpf
    have nas : a ≠ ps := ne_of_none (show H2 a = some _ from la.ex e2) hps
    have nbs : b ≠ ps := ne_of_none (show H2 b = some _ from lb.ex e2) hps
    refine ⟨_, rfl, _, _, rfl, laN.sz, for_it walk_enum (fun i σ G => ∃ (v4 v5 v6 : Option V), σ = [some (.ref a), some (.ref b), some (.ref pf), some (.ref ps), v4, v5, v6] ∧ (∀ x o, x ≠ pf → x ≠ ps → H3 x = some o → G x = some o) ∧ ListN G ps ((partsF ys ws i).flatMap (·.2)) ∧ ∃ ts : List Addr, G pf = some (.lst (ts.map V.ref)) ∧ ts.length = (partsF ys ws i).length ∧ ts.length ≤ i ∧ ∀ (j : Nat) (t : Addr) (c : Bool × List Nat), ts[j]? = some t → (partsF ys ws i)[j]? = some c → ∃ l, G t = some (.tup [.str (wE (rgB c.1)), .ref l]) ∧ ListN G l c.2 ∧ l ≠ pf ∧ l ≠ ps ∧ H l = none)
      ⟨none, none, none, rfl, fun _ _ _ _ h => h, ls0, [], lf1, rfl, Nat.le_refl _, fun j t c z => by cases z⟩ (fun i σ G _ ⟨_, _, _, _, K3, _⟩ => (show ListN G a ys from K3 _ _ naf nas laN).sz) ?_ ?_⟩
    · rintro i x σ G G2 hi ⟨v4, v5, v6, rfl, KG, lsG, ts, htG, tl, tli, tat⟩ ⟨T0, y1, y2, rfl, hT, rfl, e1', e2'⟩
      rw [nI_len] at hi
      cases e1'
      obtain ⟨_, rfl⟩ := nat_at e2'
      have eT := Ex.new (o := .tup [V.int (i : Nat), V.int ((ys.getD i 0 : Nat) : Int)]) hT
      have laG0 : ListN G a ys := KG _ _ naf nas laN
      have lbG0 : ListN G b ws := KG _ _ nbf nbs lbN
      have tat0 := tat
      refine ⟨T0, _, rfl, SqT.of upd_same, rfl, _, _, rfl, _, _, rfl, rfl, ?_⟩
      have laG := laG0.ex eT
      have lbG := lbG0.ex eT
      have lsG' := lsG.ex eT
      have htG' := eT _ _ htG
      have KG' : ∀ x o, x ≠ pf → x ≠ ps → H3 x = some o → upd G T0 (.tup [V.int (i : Nat), V.int ((ys.getD i 0 : Nat) : Int)]) x = some o := fun x o h1 h2 h => eT _ _ (KG x o h1 h2 h)
      have tat' : ∀ (j : Nat) (t : Addr) (c : Bool × List Nat), ts[j]? = some t → (partsF ys ws i)[j]? = some c → ∃ l, upd G T0 (.tup [V.int (i : Nat), V.int ((ys.getD i 0 : Nat) : Int)]) t = some (.tup [.str (wE (rgB c.1)), .ref l]) ∧ ListN (upd G T0 (.tup [V.int (i : Nat), V.int ((ys.getD i 0 : Nat) : Int)])) l c.2 ∧ l ≠ pf ∧ l ≠ ps ∧ H l = none := fun j t c h1 h2 => by
        obtain ⟨l, q1, q2, q3⟩ := tat j t c h1 h2
        exact ⟨l, eT _ _ q1, q2.ex eT, q3⟩
      generalize upd G T0 (.tup [V.int (i : Nat), V.int ((ys.getD i 0 : Nat) : Int)]) = G1 at laG lbG lsG' htG' KG' tat' ⊢
      have nope : ¬ (gt ys i ≠ gt ws i ∧ i ∉ (partsF ys ws i).flatMap (·.2)) → partsF ys ws (i + 1) = partsF ys ws i := fun h => if_neg h
      have yes : (gt ys i ≠ gt ws i ∧ i ∉ (partsF ys ws i).flatMap (·.2)) → partsF ys ws (i + 1) = partsF ys ws i ++ [partF ys ws i] := fun h => if_pos h
      refine ⟨_, rfl, _, rfl, _, rfl, b, _, _, _, rfl, rfl, lbG.sz, atN (by omega), rfl, _, rfl, ?_⟩
      rw [dne]
      refine ite_b (fun c => ?_) (fun c => ?_)
      rotate_left
      · have c := Decidable.not_not.mp (of_decide_eq_false c)
        rw [nope (fun h => h.1 c)]
        exact ⟨_, _, _, rfl, KG', lsG', ts, htG', tl, Nat.le_succ_of_le tli, tat'⟩
      have c := of_decide_eq_true c
      refine ⟨_, rfl, _, rfl, ps, _, rfl, Or.inl lsG'.sz, rfl, flat_nI _, _, rfl, ?_⟩
      show if (!inV (V.int (i : Int)) (nI ((partsF ys ws i).flatMap (·.2)))) = true then _ else _
      rw [nat_in]
      refine ite_b (fun c2 => ?_) (fun c2 => ?_)
      rotate_left
      · rw [Bool.not_eq_false'] at c2
        have c2 := of_decide_eq_true c2
        rw [nope (fun h => h.2 c2)]
        exact ⟨_, _, _, rfl, KG', lsG', ts, htG', tl, Nat.le_succ_of_le tli, tat'⟩
      rw [Bool.not_eq_true'] at c2
      have c2 := of_decide_eq_false c2
      have pstep := yes ⟨c, c2⟩
      have pl := part_len (by omega) st1 st2 hi (A := ys) (B := ws)
      have fl := parts_len (by omega) st1 st2 (A := ys) (B := ws) i (Nat.le_of_lt hi)
      have fl := Nat.le_trans fl (Nat.mul_le_mul (show i ≤ 65 by omega) (show 2 * ys.length ≤ 130 by omega))
      rw [pstep]
      generalize partsF ys ws i = prs at lsG' tl tat' fl ⊢
      refine ⟨_, rfl, _, rfl, _, rfl, a, b, ys, ws, i, rfl, laG, lbG, st1, st2, by omega, hl, hi, fun t l G4 ht hl0 e4 htv hlv => ?_⟩
      generalize partF ys ws i = pr at htv hlv pl ⊢
      have htG4 := e4 _ _ htG'
      have lsG4 := lsG'.ex e4
      refine ⟨_, rfl, Or.inl ⟨rfl, _, SqL.of htG4⟩, _, rfl, _, _, _, rfl, rfl, htG4, small1000 (by rw [List.length_map]; omega), ?_⟩
      have ntf : t ≠ pf := fun z => by rw [z, htG'] at ht; cases ht
      have nts : t ≠ ps := fun z => by have h : G1 ps = some _ := lsG'; rw [z, h] at ht; cases ht
      have nlf : l ≠ pf := fun z => by rw [z, htG'] at hl0; cases hl0
      have nls : l ≠ ps := fun z => by have h : G1 ps = some _ := lsG'; rw [z, h] at hl0; cases hl0
      have k5 : ∀ x o, x ≠ pf → G4 x = some o → upd G4 pf (.lst (ts.map V.ref ++ [V.ref t])) x = some o := fun x o h1 h => by rw [upd_ne h1]; exact h
      have h5 : upd G4 pf (.lst (ts.map V.ref ++ [V.ref t])) pf = some (.lst (ts.map V.ref ++ [V.ref t])) := upd_same
      generalize upd G4 pf (.lst (ts.map V.ref ++ [V.ref t])) = G5 at k5 h5 ⊢
      have ls5 : ListN G5 ps (prs.flatMap (·.2)) := k5 _ _ (Ne.symm nfs) lsG4
      have hl5 : ListN G5 l pr.2 := k5 _ _ nlf hlv
      refine ⟨_, rfl, Or.inl ⟨rfl, _, ls5.sz⟩, _, rfl, t, _, _, _, rfl, rfl, SqT.of (k5 _ _ ntf htv), atI_nat (j := 1) rfl, ps, l, _, _, rfl, rfl, ls5, hl5, (by rw [nI_len, nI_len]; exact Nat.le_trans (Nat.add_le_add fl pl) (Nat.le_trans (by omega) (show 10000 ≤ sizeLine by decide))), ?_⟩
      rw [cat_nI]
      have k6 : ∀ x o, x ≠ ps → G5 x = some o → upd G5 ps (.lst (nI (prs.flatMap (·.2) ++ pr.2))) x = some o := fun x o h1 h => by rw [upd_ne h1]; exact h
      have l6 : upd G5 ps (.lst (nI (prs.flatMap (·.2) ++ pr.2))) ps = some (.lst (nI (prs.flatMap (·.2) ++ pr.2))) := upd_same
      generalize upd G5 ps (.lst (nI (prs.flatMap (·.2) ++ pr.2))) = G6 at k6 l6 ⊢
      have k46 : ∀ x o, x ≠ pf → x ≠ ps → G1 x = some o → G6 x = some o := fun x o h1 h2 h => k6 _ _ h2 (k5 _ _ h1 (e4 _ _ h))
      refine ⟨_, _, _, rfl, fun x o h1 h2 h => k46 x o h1 h2 (KG' x o h1 h2 h), ?_, ts ++ [t], ?_, ?_, ?_, fun j t' c' h1 h2 => ?_⟩
      · show G6 ps = _
        rw [l6, List.flatMap_append]
        congr 3
        show _ = prs.flatMap _ ++ [pr].flatMap _
        rw [List.flatMap_cons, List.flatMap_nil, List.append_nil]
      · rw [List.map_append]
        exact k6 _ _ nfs h5
      · rw [List.length_append, List.length_append, tl]
        rfl
      · rw [List.length_append]
        exact Nat.succ_le_succ tli
      · by_cases cj : j < ts.length
        · rw [List.getElem?_append_left cj] at h1
          rw [List.getElem?_append_left (by omega)] at h2
          obtain ⟨l', q1, q2, q3, q4, q5⟩ := tat' j t' c' h1 h2
          exact ⟨l', k46 _ _ (fun z => by rw [z, htG'] at q1; cases q1) (fun z => by have h : G1 ps = some _ := lsG'; rw [z, h] at q1; cases q1) q1, k46 _ _ q3 q4 q2, q3, q4, q5⟩
        · rw [List.getElem?_append_right (by omega)] at h1
          rw [List.getElem?_append_right (by omega), ← tl] at h2
          match hz : j - ts.length with
          | 0 =>
            rw [hz] at h1 h2
            have h1 := Option.some.inj h1
            have h2 := Option.some.inj h2
            subst h1
            subst h2
            exact ⟨l, k6 _ _ nts (k5 _ _ ntf htv), k6 _ _ nls hl5, nlf, nls, (by
              cases z : H l with
              | none => rfl
              | some o => exact absurd (KG' l o nlf nls (e03 _ _ z)) (by rw [hl0]; intro h; cases h))⟩
          | z + 1 =>
            rw [hz] at h1
            cases h1
    rintro σ G ⟨v4, v5, v6, rfl, KG, lsG, ts, htG, tl, tli, tat⟩
    rw [nI_len] at tl tat
    have fpf : H pf = none := back_none e1 hpf
    have fps : H ps = none := back_none (e1.trans e2) hps
    refine ⟨_, rfl, kq pf G fpf (fun x o h => KG x o (ne_of_none h fpf) (ne_of_none h fps) (e03 x o h)) ⟨ts, htG, tl, fun j t c h1 h2 => ?_⟩⟩
    obtain ⟨l, q1, q2, _, _, q5⟩ := tat j t c h1 h2
    exact ⟨l, q1, q2, q5⟩

end

section
variable {P : Program} {w : World} {K : PySem.W.Frag} {mg : Str → Option Value} {base : Heap} {A : Ad}
theorem oke_law_refusal (T : Txt K mg A)  (e_law_alone : Oke P w K mg base 1 A.law_alone P_law_alone (seAl A)) (h_law_whole : Okh P w K mg base CX0 1 A.law_whole P_law_whole spWl) : Oke P w K mg base 2 A.law_refusal P_law_refusal (seRf A) := by
  obtain ⟨fd, F⟩ := T.d_law_refusal
  obtain ⟨fde_law_alone, E_law_alone, eb_law_alone⟩ := e_law_alone
  obtain ⟨fdh_law_whole, H_law_whole, hb_law_whole⟩ := h_law_whole
  refine ⟨fd, HotE.okE F sc_law_refusal (fun a c d vs H Q E h => ?_) (fun cdv A' outer s H vs Q E p c d hot zc hr h => ?_), F.binds fun _ _ _ _ _ _ us hl => match us, hl with | [_, _, _], _ => rfl⟩
  · obtain ⟨w, n, rfl, _⟩ := h
    rfl
  · obtain ⟨w, n, rfl, kn, k⟩ := h
    refine ⟨_, (pss_cons (ps_if (PW.pt (pw_or (pt_not (pt_val (HotE.pe_callE E_law_alone (hr.mono (by decide)) ⟨p.2, ⟨hot.1, hot.2⟩, List.mem_cons_self, zc⟩ (by rfl) T.g_law_alone T.k_law_alone eb_law_alone (passH0 (fun _ => E0)) (pa_cons (pv 1) pa_nil)))) (pw_or1 (pt_not (pt_val (L2H.pe_callH H_law_whole (hr.mono (by decide)) ⟨p, ⟨hot.1, hot.2⟩, List.mem_cons_self⟩ (by rfl) T.g_law_whole T.k_law_whole hb_law_whole (passH0 (fun _ => E0)) (pa_cons (pv 2) pa_nil))))))) (pss_one (ps_ret (pe_tup (pa_cons pe_str pa_nil)))) pss_nil)
      (pss_one (ps_ret (pe_tup (pa_cons (pv 0) (pa_cons (pv 2) pa_nil)))))), ?_⟩
    refine ⟨_, rfl, rfl, kn, _, rfl, iteF ⟨_, rfl, n, rfl, _, rfl, iteF ?_⟩⟩
    exact ⟨_, rfl, _, rfl, (by show 2 ≤ sizeLine; decide), fun t ht => k t _ (Ex.new ht) upd_same⟩

end

section
variable {P : Program} {w : World} {K : PySem.W.Frag} {mg : Str → Option Value} {base : Heap} {A : Ad}
theorem ok_law_relinked (T : Txt K mg A)   : Okd P w K mg base CX0 1 A.law_relinked P_law_relinked spRk := by
  obtain ⟨fd, F⟩ := T.d_law_relinked

  refine ⟨fd, F.ok sc_law_relinked (fun vs H Q E h => ?_) (fun cdv A' outer s H vs Q E hr h => ?_), F.binds fun _ _ _ _ _ _ us hl => match us, hl with | [_, _], _ => rfl⟩
  · obtain ⟨a, s, R, ls, rfl, _⟩ := h
    rfl
  · obtain ⟨a, s, R, ls, rfl, ha, hs, hlt, k⟩ := h
    refine ⟨_, (pss_cons (ps_set (i := 2) sc_law_relinked.nd rfl (Or.inl rfl) (pe_callTy call_list_of (by rfl) T.n_list (by decide +kernel) (pa_cons (pv 0) pa_nil)))
      (pss_cons (ps_for PassesOwn.never rfl (pi_list (pv 1)) (pg_name (i := 3) sc_law_relinked.nd rfl (Or.inl rfl)) (pss_cons (ps_asg (pe_ix ix_tup (pv 3) pe_int (fun _ _ => rfl)) (pg_sub (pv 2) (pe_ix ix_tup (pv 3) pe_int (fun _ _ => rfl)) set_list))
      (pss_one (ps_asg (pe_ix ix_tup (pv 3) pe_int (fun _ _ => rfl)) (pg_sub (pv 2) (pe_ix ix_tup (pv 3) pe_int (fun _ _ => rfl)) set_list)))))
      (pss_one (ps_ret (pv 2))))), ?_⟩
    refine ⟨_, rfl, a, _, rfl, .inl (SqL.of ha), fun p hp => ?_⟩
    obtain ⟨ts, hq, tl, tk⟩ := hs
    have e1 := Ex.new (o := .lst (nI R)) hp
    have fp : ListN (upd H p (.lst (nI R))) p R := upd_same
    have hq1 := e1 _ _ hq
    have tk1 := fun i t l x y => e1 _ _ (tk i t l x y)
    have nsp : s ≠ p := ne_of_none hq hp
    have ntp : ∀ (i : Nat) (t : Addr) (l : Nat × Nat), ts[i]? = some t → ls[i]? = some l → t ≠ p := fun i t l x y => ne_of_none (tk i t l x y) hp
    generalize upd H p (.lst (nI R)) = H1 at e1 fp hq1 tk1 ⊢
    have relL : ∀ (ls : List (Nat × Nat)) (R : List Nat), (relF R ls).length = R.length := by
      intro ls
      induction ls with
      | nil => exact fun _ => rfl
      | cons l ls ih =>
        intro R
        show (relF ((R.set l.1 l.2).set l.2 l.1) ls).length = _
        rw [ih, List.length_set, List.length_set]
    have relS : ∀ (ls : List (Nat × Nat)) (R : List Nat) (l : Nat × Nat), relF R (ls ++ [l]) = ((relF R ls).set l.1 l.2).set l.2 l.1 := by
      intro ls
      induction ls with
      | nil => exact fun _ _ => rfl
      | cons m ls ih => exact fun R l => ih _ l
    refine ⟨_, rfl, s, rfl, ⟨_, SqL.of hq1⟩, for_list (K := K) (a := s) (xs := ts.map V.ref) (fun i σ G => ∃ v3 : Option V, σ = [some (.ref a), some (.ref s), some (.ref p), v3] ∧ (∀ x o, x ≠ p → H1 x = some o → G x = some o) ∧ ListN G p (relF R (ls.take i))) ⟨none, rfl, fun _ _ _ h => h, fp⟩ (fun i σ G _ ⟨_, _, e, _⟩ => SqL.of (e _ _ nsp hq1)) ?_ ?_⟩
    · rintro i x σ G hx ⟨v3, rfl, e, hG⟩
      obtain ⟨t, htj, rfl⟩ : ∃ t, ts[i]? = some t ∧ x = V.ref t := by
        rw [List.getElem?_map] at hx
        cases q : ts[i]? with
        | none => rw [q] at hx; cases hx
        | some t => rw [q] at hx; exact ⟨t, rfl, (Option.some.inj hx).symm⟩
      have jl : i < ls.length := by rw [← tl]; exact (List.getElem?_eq_some_iff.1 htj).1
      have tk2 := List.take_succ_eq_append_getElem jl
      have hc1 : ls[i]? = some ls[i] := List.getElem?_eq_getElem jl
      have lt := hlt ls[i] (List.getElem_mem jl)
      have nt := ntp i t ls[i] htj hc1
      have hT := e _ _ nt (tk1 i t ls[i] htj hc1)
      generalize ls[i] = q at tk2 lt hT
      have rl := relL (ls.take i) R
      refine ⟨_, rfl, t, _, _, _, rfl, rfl, SqT.of hT, atI_nat (j := 1) rfl, _, rfl, _, rfl, t, _, _, _, rfl, rfl, SqT.of hT, atI_nat (j := 0) rfl, p, _, _, q.1, rfl, rfl, hG, Evl.ixN_nat (by rw [nI_len, rl]; exact lt.1), ?_⟩
      rw [show (nI (relF R (ls.take i))).set q.1 (V.int ((q.2 : Nat) : Int)) = nI ((relF R (ls.take i)).set q.1 q.2) from (List.map_set ..).symm]
      have k1 : ∀ x o, x ≠ p → G x = some o → upd G p (.lst (nI ((relF R (ls.take i)).set q.1 q.2))) x = some o := fun x o n h => by rw [upd_ne n]; exact h
      have hT2 := k1 _ _ nt hT
      refine ⟨_, rfl, t, _, _, _, rfl, rfl, SqT.of hT2, atI_nat (j := 0) rfl, _, rfl, _, rfl, t, _, _, _, rfl, rfl, SqT.of hT2, atI_nat (j := 1) rfl, p, _, _, q.2, rfl, rfl, upd_same, Evl.ixN_nat (by rw [nI_len, List.length_set, rl]; exact lt.2), ?_⟩
      rw [show (nI ((relF R (ls.take i)).set q.1 q.2)).set q.2 (V.int ((q.1 : Nat) : Int)) = nI (((relF R (ls.take i)).set q.1 q.2).set q.2 q.1) from (List.map_set ..).symm]
      refine ⟨_, rfl, fun x o n h => by rw [upd_ne n]; exact k1 _ _ n (e _ _ n h), ?_⟩
      rw [tk2, relS]
      exact upd_same
    · rintro σ G ⟨v3, rfl, e, hG⟩
      rw [List.length_map, tl, List.take_length] at hG
      exact ⟨_, rfl, k p G hp (fun x o h => e _ _ (ne_of_none h hp) (e1 _ _ h)) hG⟩

end

section
variable {P : Program} {w : World} {K : PySem.W.Frag} {mg : Str → Option Value} {base : Heap} {A : Ad}
theorem ok_law_shuffled (T : Txt K mg A)  (g_law_draw : Okd P w K mg base CX0 1 A.law_draw P_law_draw spDw) : Okd P w K mg base CX0 2 A.law_shuffled P_law_shuffled spSf2 := by
  obtain ⟨fd, F⟩ := T.d_law_shuffled
  obtain ⟨fd_law_draw, G_law_draw, b_law_draw⟩ := g_law_draw
  refine ⟨fd, F.ok sc_law_shuffled (fun vs H Q E h => ?_) (fun cdv A' outer s H vs Q E hr h => ?_), F.binds fun _ _ _ _ _ _ us hl => match us, hl with | [_, _], _ => rfl⟩
  · obtain ⟨b, c, l, xs, rfl, _⟩ := h
    rfl
  · obtain ⟨b, c, l, xs, rfl, hl, x70, nl, B, k⟩ := h
    refine ⟨_, (pss_cons (ps_set (i := 2) sc_law_shuffled.nd rfl (Or.inl rfl) (pe_callTy call_list_of (by rfl) T.n_list (by decide +kernel) (pa_cons (pv 1) pa_nil)))
      (pss_cons (ps_set (i := 3) sc_law_shuffled.nd rfl (Or.inl rfl) (pe_lst pa_nil))
      (pss_cons (ps_for PassesOwn.never rfl (pi_range1 (by rfl) T.n_range (pa_cons (pe_callB call_len_seq (by rfl) T.n_len PySem.boot_len (pa_cons (pv 1) pa_nil)) pa_nil)) (pg_name (i := 4) sc_law_shuffled.nd rfl (Or.inl rfl)) (pss_one (ps_expr (pe_bm PySem.F.plainAttrs_list PySem.F.slot_list_append PySem.F.type_list_append mt_append (pv 3) (pa_cons (pe_bm PySem.F.plainAttrs_list PySem.F.slot_list_pop PySem.F.type_list_pop mt_popAt (pv 2) (pa_cons (pe_call G_law_draw (hr.mono (by decide)) (by rfl) T.g_law_draw T.k_law_draw b_law_draw .nil pass0 (pa_cons (pv 0) (pa_cons (pe_callB call_len_seq (by rfl) T.n_len PySem.boot_len (pa_cons (pv 2) pa_nil)) pa_nil))) pa_nil)) pa_nil)))))
      (pss_one (ps_ret (pv 3)))))), ?_⟩
    refine ⟨_, rfl, l, _, rfl, .inl (SqL.of hl), fun p hp => ?_⟩
    have e0 := Ex.new (o := .lst xs) hp
    have hp1 : upd H p (.lst xs) p = some (.lst xs) := upd_same
    obtain ⟨npb, npc⟩ := B.ne hp
    have nlp : l ≠ p := ne_of_none hl hp
    have B1 := B.ex e0
    generalize upd H p (.lst xs) = H1 at e0 hp1 B1 ⊢
    refine ⟨(by show 0 ≤ sizeLine; decide), fun q hq => ?_⟩
    have e1 := Ex.new (o := .lst []) hq
    have hq1 : upd H1 q (.lst []) q = some (.lst []) := upd_same
    obtain ⟨nqb, nqc⟩ := B1.ne hq
    have npq : p ≠ q := ne_of_none hp1 hq
    have hp2 := e1 _ _ hp1
    have e01 := e0.trans e1
    have B2 := B1.ex e1
    have fq : H q = none := back_none e0 hq
    have nlq : l ≠ q := ne_of_none hl fq
    generalize upd H1 q (.lst []) = H2 at e1 hq1 hp2 e01 B2 ⊢
    refine ⟨_, rfl, l, _, rfl, .inl (SqL.of (e01 _ _ hl)), _, rfl, by omega, by omega, ?_⟩
    rw [Int.toNat_natCast]
    refine for_range (lo := 0) (n := xs.length) (fun i σ G => ∃ (v4 : Option V) (zs ys : List V), σ = [some (.ref b), some (.ref l), some (.ref p), some (.ref q), v4] ∧ Bx G b c ∧ (∀ x o, x ≠ b → x ≠ p → x ≠ q → H x = some o → G x = some o) ∧ G p = some (.lst zs) ∧ G q = some (.lst ys) ∧ (ys ++ zs).Perm xs ∧ ys.length = i) ⟨none, xs, [], rfl, B2, fun x o _ _ _ h => e01 _ _ h, hp2, hq1, List.Perm.refl _, rfl⟩ ?_ ?_
    · rintro i σ G hi ⟨v4, zs, ys, rfl, BG, kp, hpG, hqG, pm, yl⟩
      have tot := pm.length_eq
      rw [List.length_append, yl] at tot
      refine ⟨_, rfl, .inl ⟨rfl, _, SqL.of hqG⟩, _, rfl, .inl ⟨rfl, _, SqL.of hpG⟩, _, rfl, _, rfl, p, _, rfl, .inl (SqL.of hpG), b, c, (zs.length : Int), rfl, by omega, by omega, BG, fun d G1 hd B1 M1 => ?_⟩
      have dl : d < zs.length := by omega
      have hp3 := M1 _ _ npb hpG
      have hq3 := M1 _ _ nqb hqG
      have yd : zs[d]? = some zs[d] := List.getElem?_eq_getElem dl
      generalize zs[d] = y at yd
      refine ⟨p, zs, (d : Int), d, y, rfl, rfl, hp3, (by have : (2 : Int) ^ 63 = 9223372036854775808 := (by decide); omega), (by have : (2 : Int) ^ 63 = 9223372036854775808 := (by decide); omega), seq_nat dl, yd, ?_⟩
      have hq4 : upd G1 p (.lst (zs.eraseIdx d)) q = some (.lst ys) := by rw [upd_ne npq.symm]; exact hq3
      refine ⟨q, ys, y, rfl, rfl, hq4, small1000 (by omega), ?_⟩
      refine ⟨_, zs.eraseIdx d, ys ++ [y], rfl, B1.keep (fun o h => by rw [upd_ne nqb.symm, upd_ne npb.symm]; exact h) (fun o h => by rw [upd_ne nqc.symm, upd_ne npc.symm]; exact h), fun x o n1 n2 n3 h => by rw [upd_ne n3, upd_ne n2]; exact M1 _ _ n1 (kp x o n1 n2 n3 h), by rw [upd_ne npq]; exact upd_same, upd_same, ?_, by rw [List.length_append, yl]; rfl⟩
      have p1 : (y :: zs.eraseIdx d).Perm zs := by
        have e1 : zs = zs.take d ++ y :: zs.drop (d + 1) := by
          have := (List.take_append_drop d zs).symm
          rw [List.drop_eq_getElem_cons dl, (List.getElem?_eq_some_iff.mp yd).2] at this
          exact this
        rw [List.eraseIdx_eq_take_drop_succ]
        exact (List.perm_middle.symm).trans (by rw [← e1])
      rw [List.append_assoc]
      exact (List.Perm.append_left ys p1).trans pm
    · rintro σ G ⟨v4, zs, ys, rfl, BG, kp, hpG, hqG, pm, yl⟩
      have tot := pm.length_eq
      rw [List.length_append, yl] at tot
      have z0 : zs = [] := List.eq_nil_of_length_eq_zero (by omega)
      rw [z0, List.append_nil] at pm
      exact ⟨_, rfl, k q ys G fq BG (fun x o n h => kp x o n (ne_of_none h hp) (ne_of_none h fq) h) hqG pm⟩

end

section
variable {P : Program} {w : World} {K : PySem.W.Frag} {mg : Str → Option Value} {base : Heap} {A : Ad}
theorem nI_inj : ∀ {a b : List Nat}, nI a = nI b → a = b
  | [], [], _ => rfl
  | [], _ :: _, h => by cases h
  | _ :: _, [], h => by cases h
  | x :: a, y :: b, h => by
    have h : V.int (x : Int) :: nI a = V.int (y : Int) :: nI b := h
    injection h with h1 h2
    have := nI_inj h2
    injection h1 with h1
    have : x = y := by omega
    subst this
    rw [nI_inj h2]
theorem near_pos {R : List Nat} {n : Nat} (s : StN R n) (h : 2 ≤ n) : 0 < (nearF R).length := by
  have len := s.len
  by_cases c : ∃ p, p ∈ prsF R
  · obtain ⟨p, hp⟩ := c
    exact List.length_pos_of_mem (in2 hp).1
  · have lone : ∀ x, x < n → x ∈ lonF R := fun x hx => by
      refine lone_in (by omega) ?_
      refine Classical.byContradiction fun z => ?_
      obtain ⟨i, lt⟩ := stN_inv s
      have h1 := lt x hx
      rcases (by omega : x < tot R x ∨ tot R x < x) with o | o
      · exact c ⟨_, pair_in (by omega) rfl o⟩
      · exact c ⟨_, pair_in (by omega) (i x) o⟩
    rcases in1 (lone 0 (by omega)) (lone 1 (by omega)) (by omega) with m | m
    · exact List.length_pos_of_mem m
    · exact List.length_pos_of_mem m
theorem near_few {R : List Nat} (h : R.length ≤ 64) : (nearF R).length ≤ 30000 := by
  have lM : (lonF R).length ≤ 64 := by
    have := List.length_filter_le (fun x => decide (gt R x = x)) (List.range R.length)
    rw [List.length_range] at this
    exact Nat.le_trans this h
  have lW : (prsF R).length ≤ 64 := by
    have := List.length_filter_le (fun x => decide (x < gt R x)) (List.range R.length)
    rw [List.length_range] at this
    unfold prsF
    rw [List.length_map]
    exact Nat.le_trans this h
  unfold nearF
  have b1 := flat_le (l := List.range (lonF R).length) (f := near1 (lonF R)) (c := 64) fun x _ => by
    unfold near1
    rw [List.length_map, List.length_take]
    omega
  have b2 := flat_le (l := prsF R) (f := near2 (lonF R)) (c := 129) fun x _ => by
    unfold near2
    have := flat_le (l := lonF R) (f := near2x x) (c := 2) fun y _ => Nat.le_refl _
    rw [List.length_cons]
    omega
  have b3 := flat_le (l := List.range (prsF R).length) (f := near3 (prsF R)) (c := 128) fun x _ => by
    unfold near3
    have := flat_le (l := (prsF R).take x) (f := near3x ((prsF R).getD x (0, 0))) (c := 2) fun y _ => Nat.le_refl _
    rw [List.length_take] at this
    omega
  rw [List.length_range] at b1 b3
  rw [List.length_append, List.length_append]
  omega
theorem ok_law_steps_right (T : Txt K mg A)  (g_law_near : Okd P w K mg base CX0 2 A.law_near P_law_near spNr) (g_law_draw : Okd P w K mg base CX0 1 A.law_draw P_law_draw spDw) (g_law_told : Okd P w K mg base CX0 9 A.law_told P_law_told spTo1) (g_law_far : Okd P w K mg base CX0 2 A.law_far P_law_far spFa) : Okd P w K mg base CX0 10 A.law_steps_right P_law_steps_right spSp := by
  obtain ⟨fd, F⟩ := T.d_law_steps_right
  obtain ⟨fd_law_near, G_law_near, b_law_near⟩ := g_law_near
  obtain ⟨fd_law_draw, G_law_draw, b_law_draw⟩ := g_law_draw
  obtain ⟨fd_law_told, G_law_told, b_law_told⟩ := g_law_told
  obtain ⟨fd_law_far, G_law_far, b_law_far⟩ := g_law_far
  refine ⟨fd, F.ok sc_law_steps_right (fun vs H Q E h => ?_) (fun cdv A' outer s H vs Q E hr h => ?_), F.binds fun _ _ _ _ _ _ us hl => match us, hl with | [_, _, _, _], _ => rfl⟩
  · obtain ⟨b, c, l, r, R, Z, n, base, rfl, _⟩ := h
    rfl
  · obtain ⟨b, c, l, r, R, Z, n, base, rfl, B, hl, nlb, hr0, nrb, sR, sZ, n64, hb, k⟩ := h
    refine ⟨_, (pss_cons (ps_set (i := 4) sc_law_steps_right.nd rfl (Or.inr rfl) (pe_call G_law_near (hr.mono (by decide)) (by rfl) T.g_law_near T.k_law_near b_law_near .nil pass0 (pa_cons (pv 1) pa_nil)))
      (pss_cons (ps_set (i := 5) sc_law_steps_right.nd rfl (Or.inl rfl) (pe_cmpR op_le (pe_callB call_len_seq (by rfl) T.n_len PySem.boot_len (pa_cons (pv 1) pa_nil)) pe_int (nomark _)))
      (pss_cut (ps_if (pt_not (pt_val (pv 5))) (pss_one (ps_set (i := 4) sc_law_steps_right.nd rfl (Or.inr rfl) (pe_lc (own := [("k", 9)]) (tt := tYes) (by rfl) sc_law_steps_right.nd (pi_range1 (by rfl) T.n_range (pa_cons pe_int pa_nil)) (blkOk_by (own := [("k", 9)]) (N := N_law_steps_right) (sc := defScope s_law_steps_right) (by decide +kernel)) (fun _ _ _ _ _ => (pg_name (i := 9) sc_law_steps_right.nd rfl (Or.inl rfl))) (fun _ _ _ _ _ => pts_nil) (fun _ _ _ _ _ => (pe_ix (ix_listK (K := K) rfl) (pv 4) (pe_call G_law_draw (hr.mono (by decide)) (by rfl) T.g_law_draw T.k_law_draw b_law_draw .nil pass0 (pa_cons (pv 0) (pa_cons (pe_callB (call_lenK (K := K) rfl) (by rfl) T.n_len PySem.boot_len (pa_cons (pv 4) pa_nil)) pa_nil))) (fun _ _ => rfl)))))) pss_nil)
      (pss_cons (ps_set (i := 6) sc_law_steps_right.nd rfl (Or.inl rfl) (pv 3))
      (pss_cons (ps_for PassesOwn.never rfl (pi_list (pv 4)) (pg_name (i := 7) sc_law_steps_right.nd rfl (Or.inl rfl)) (pss_cons (ps_set (i := 8) sc_law_steps_right.nd rfl (Or.inl rfl) (pe_call G_law_told (hr.mono (by decide)) (by rfl) T.g_law_told T.k_law_told b_law_told .nil pass0 (pa_cons (pv 7) (pa_cons (pv 2) pa_nil))))
      (pss_cons (ps_if (PW.pt (pw_or (pt_cmpR op_ne (pv 8) (pe_call G_law_far (hr.mono (by decide)) (by rfl) T.g_law_far T.k_law_far b_law_far .nil pass0 (pa_cons (pv 7) (pa_cons (pv 2) pa_nil))) (nomark _)) (pw_or1 (pt_not (pt_chain op_le op_le (pe_op op_sub (pv 3) pe_int) (pv 8) (pe_op op_add (pv 3) pe_int)))))) (pss_one (ps_ret pe_bl)) pss_nil)
      (pss_cons (ps_if (pt_cmpR op_ne (pe_call G_law_told (hr.mono (by decide)) (by rfl) T.g_law_told T.k_law_told b_law_told .nil pass0 (pa_cons (pv 1) (pa_cons (pv 7) pa_nil))) pe_int (nomark _)) (pss_one (ps_ret pe_bl)) pss_nil)
      (pss_one (ps_set (i := 6) sc_law_steps_right.nd rfl (Or.inl rfl) (pe_callB (call_min2 (by rfl)) (by rfl) T.n_min (by decide +kernel) (pa_cons (pv 6) (pa_cons (pv 8) pa_nil)))))))))
      (pss_one (ps_ret (pe_or (pe_not (pv 5)) (pe_or (pe_cmpR op_eq (pv 3) pe_int (nomark _)) (pe_one (pe_cmpR op_eq (pv 6) (pe_op op_sub (pv 3) pe_int) (nomark _)))))))))))), ?_⟩
    have lR := sR.len
    refine ⟨_, rfl, l, R, n, rfl, hl, sR, n64, fun q H1 hq e1 hrow => ?_⟩
    obtain ⟨us, hq1, ul, uk⟩ := hrow
    rw [List.length_map] at ul
    have row : ∀ (i : Nat) (u : Addr), us[i]? = some u → ∃ W, ListN H1 u W ∧ NbOf R W n := fun i u h => by
      have il : i < (nearF R).length := by rw [← ul]; exact (List.getElem?_eq_some_iff.1 h).1
      exact ⟨_, uk i u _ h (by rw [List.getElem?_map, List.getElem?_eq_getElem il]; rfl), near_nb sR _ (List.getElem_mem il)⟩
    have all : ∀ W, NbOf R W n → ∃ (i : Nat) (u : Addr), us[i]? = some u ∧ ListN H1 u W := fun W nb => by
      obtain ⟨lk, hm, e⟩ := near_all sR nb.1 nb.2.1 nb.2.2
      obtain ⟨i, hi, e2⟩ := List.getElem_of_mem hm
      have iu : i < us.length := by rw [ul]; exact hi
      refine ⟨i, us[i], List.getElem?_eq_getElem iu, ?_⟩
      have := uk i us[i] _ (List.getElem?_eq_getElem iu) (by rw [List.getElem?_map, List.getElem?_eq_getElem hi]; rfl)
      rw [e2, e] at this
      exact this
    refine ⟨_, rfl, l, _, rfl, .inl (SqL.of (e1 _ _ hl)), _, _, rfl, rfl, ?_⟩
    rw [nI_len, lR]
    have B1 := B.ex e1
    have many : ¬ (n : Int) ≤ 9 → 0 < us.length := fun h => by rw [ul]; exact near_pos sR (by omega)
    have lim : us.length ≤ 30000 := by rw [ul]; exact near_few (by omega)
    have nqb := (B1.neR hq1)
    refine ⟨fun σ G => ∃ (q2 : Addr) (us2 : List Addr), σ = [some (.ref b), some (.ref l), some (.ref r), some (.int (base : Int)), some (.ref q2), some (.bl (decide ((n : Int) ≤ 9))), none, none, none, none] ∧ Bx G b c ∧ Mut b H1 G ∧ G q2 = some (.lst (us2.map V.ref)) ∧ q2 ≠ b ∧ (∀ (i : Nat) (u : Addr), us2[i]? = some u → u ≠ b ∧ ∃ W, ListN G u W ∧ NbOf R W n) ∧ ((n : Int) ≤ 9 → ∀ W, NbOf R W n → ∃ (i : Nat) (u : Addr), us2[i]? = some u ∧ ListN G u W), ?_, ?_⟩
    · have neu : ∀ (i : Nat) (u : Addr), us[i]? = some u → u ≠ b := fun i u h => by
        obtain ⟨W, hW, _⟩ := row i u h
        exact B1.neI hW.int
      refine ⟨_, rfl, _, rfl, ite_b (fun sm => ?_) (fun sm => ?_)⟩
      · have sm : ¬ (n : Int) ≤ 9 := fun z => by rw [decide_eq_true z] at sm; cases sm
        refine ⟨_, rfl, by decide, by decide, fun D hD => ?_⟩
        have eD := Ex.new (o := .lst []) hD
        have nDb := (B1.ne hD).1
        have nDc := (B1.ne hD).2
        refine lc_range (lo := 0) (n := 8) (fun i G => Bx G b c ∧ Mut b H1 G ∧ ∃ vs : List Addr, G D = some (.lst (vs.map V.ref)) ∧ vs.length = i ∧ ∀ (j : Nat) (u : Addr), vs[j]? = some u → ∃ i' : Nat, us[i']? = some u) ⟨B1.ex eD, Mut.of_ex eD, [], upd_same, rfl, fun j u h => by cases h⟩ ?_ ?_
        · rintro i G hi ⟨BG, MG, vs, hd, vl, vk⟩
          have hqG := MG _ _ nqb hq1
          refine ⟨rfl, _, rfl, _, rfl, _, rfl, q, _, rfl, .inl (SqL.of hqG), b, c, _, rfl, by rw [List.length_map]; have := many sm; omega, by rw [List.length_map]; omega, BG, fun d G3 hd3 B3 M3 => ?_⟩
          rw [List.length_map] at hd3
          have dl : d < us.length := by omega
          have at1 : (us.map V.ref)[d]? = some (V.ref us[d]) := by rw [List.getElem?_map, List.getElem?_eq_getElem dl]; rfl
          have hd' := M3 _ _ nDb hd
          have kp : ∀ x o, x ≠ D → G3 x = some o → upd G3 D (.lst (vs.map V.ref ++ [V.ref us[d]])) x = some o := fun x o n h => by rw [upd_ne n]; exact h
          refine ⟨q, _, _, _, rfl, rfl, SqL.of (M3 _ _ nqb hqG), atI_nat at1, _, hd', small1000 (by rw [List.length_map]; omega), B3.keep (fun u h => kp _ _ nDb.symm h) (fun u h => kp _ _ nDc.symm h), fun x o n h => kp _ _ (ne_of_none h hD) (M3 _ _ n (MG _ _ n h)), vs ++ [us[d]], by rw [upd_same, List.map_append]; rfl, by rw [List.length_append, vl]; rfl, fun j u hj => ?_⟩
          by_cases cj : j < vs.length
          · rw [List.getElem?_append_left cj] at hj
            exact vk j u hj
          · have jl : j < (vs ++ [us[d]]).length := (List.getElem?_eq_some_iff.1 hj).1
            rw [List.length_append] at jl
            have jl : j < vs.length + 1 := jl
            rw [show j = vs.length by omega, List.getElem?_append_right (Nat.le_refl _), Nat.sub_self] at hj
            exact ⟨d, by rw [List.getElem?_eq_getElem dl]; exact hj⟩
        · rintro G ⟨BG, MG, vs, hd, vl, vk⟩
          refine ⟨D, vs, rfl, BG, MG, hd, nDb, fun j u h => ?_, fun z => absurd z sm⟩
          obtain ⟨i', hi'⟩ := vk j u h
          obtain ⟨W, hW, nb⟩ := row i' u hi'
          exact ⟨neu i' u hi', W, MG _ _ (neu i' u hi') hW, nb⟩
      · exact ⟨q, us, rfl, B1, Mut.refl _ _, hq1, nqb, fun j u h => ⟨neu j u h, row j u h⟩, fun _ => all⟩
    rintro σ G ⟨q2, us2, rfl, BG, MG, hq2, nq2, rw2, all2⟩
    have MH := (Mut.of_ex (b := b) e1).trans MG
    have hlG : ListN G l R := MH _ _ nlb hl
    have hrG : ListN G r Z := MH _ _ nrb hr0
    have staR : Sta R := ⟨fun x h => by rw [lR] at h ⊢; exact sR.lt x h, fun x h => sR.bk x (by rw [← lR]; exact h)⟩
    have staZ : Sta Z := ⟨fun x h => by rw [sZ.len] at h ⊢; exact sZ.lt x h, fun x h => sZ.bk x (by rw [← sZ.len]; exact h)⟩
    have lZ := sZ.len
    have fok : ∀ {A B : List Nat}, StN A n → StN B n → faultF (toI A) (toI B) = none := fun {A B} a b => by
      obtain ⟨f0, l0⟩ := st_fault a
      obtain ⟨f1, l1⟩ := st_fault b
      unfold faultF
      rw [f0, f1]
      simp [l0, l1]
    obtain ⟨ps, bl, of⟩ := bl_ex staR staZ (by omega)
    rw [lR] at bl
    have hb := hb ps bl
    refine ⟨_, rfl, _, rfl, q2, rfl, ⟨_, SqL.of hq2⟩, for_list (K := K) (a := q2) (xs := us2.map V.ref) (fun i σ G2 => ∃ (v7 v8 : Option V) (lv : Int), σ = [some (.ref b), some (.ref l), some (.ref r), some (.int (base : Int)), some (.ref q2), some (.bl (decide ((n : Int) ≤ 9))), some (.int lv), v7, v8, none] ∧ Ex G G2 ∧ (base : Int) - 1 ≤ lv ∧ ∀ (j : Nat) (u : Addr), j < i → us2[j]? = some u → ∀ W, ListN G u W → ∀ qs, Bl W Z 0 qs n → lv ≤ (distS qs : Nat)) ⟨none, none, base, rfl, Ex.refl _, by omega, fun j u h => absurd h (Nat.not_lt_zero _)⟩ (fun i σ G2 _ ⟨_, _, _, _, e, _⟩ => SqL.of (e _ _ hq2)) ?_ ?_⟩
    · rintro i x σ G2 hx ⟨v7, v8, lv, rfl, e, lo, seen⟩
      obtain ⟨u, hui, rfl⟩ : ∃ t, us2[i]? = some t ∧ x = V.ref t := by
        rw [List.getElem?_map] at hx
        cases q : us2[i]? with
        | none => rw [q] at hx; cases hx
        | some t => rw [q] at hx; exact ⟨t, rfl, (Option.some.inj hx).symm⟩
      obtain ⟨nub, W, hW, nb⟩ := rw2 i u hui
      have sW := nb.1
      have lW := sW.len
      refine ⟨_, rfl, _, rfl, u, r, toI W, toI Z, rfl, (hW.ex e).int, (hrG.ex e).int, fok sW sZ, by rw [toI_len]; omega, fun qs bq G3 e3 => ?_⟩
      rw [toI_nat, toI_nat, toI_len, lW] at bq
      have e03 := e.trans e3
      obtain ⟨qs2, bq2, oq2⟩ := bl_ex (bq.sta.1) staZ (by omega)
      rw [lW] at bq2
      refine ⟨_, rfl, _, rfl, _, rfl, u, r, W, Z, qs2, n, rfl, hW.ex e03, hrG.ex e03, bq2, oq2, n64, fun G4 e4 => ⟨rfl, _, rfl, ifF (by rw [far_one _ (Nat.le_refl _) bq bq2, decide_eq_true rfl]; rfl) ?_⟩⟩
      obtain ⟨nf1, nf2⟩ := nb_far nb bl bq
      have e04 := e03.trans e4
      refine ⟨_, rfl, _, _, rfl, rfl, _, rfl, _, _, rfl, rfl, _, rfl, ifT (decide_eq_true (by show (base : Int) - 1 ≤ ((distS qs : Nat) : Int); omega)) ⟨_, rfl, _, _, rfl, rfl, _, _, rfl, rfl, _, rfl, ifF (by rw [decide_eq_true (show ((distS qs : Nat) : Int) ≤ (base : Int) + 1 by omega)]; rfl) ?_⟩⟩
      refine ⟨_, rfl, _, rfl, l, u, toI R, toI W, rfl, (hlG.ex e04).int, (hW.ex e04).int, fok sR sW, by rw [toI_len]; omega, fun ms bm G5 e5 => ⟨rfl, _, rfl, ifF ?_ ?_⟩⟩
      · rw [toI_nat, toI_nat, toI_len, lR] at bm
        rw [nb_one nb bm]
        rfl
      refine ⟨_, rfl, _, rfl, _, _, rfl, _, _, _, rfl, e04.trans e5, ?_, fun j v hj hv V hV rs br => ?_⟩
      · split <;> omega
      · have : (if ((distS qs : Nat) : Int) < lv then ((distS qs : Nat) : Int) else lv) ≤ lv ∧ (if ((distS qs : Nat) : Int) < lv then ((distS qs : Nat) : Int) else lv) ≤ ((distS qs : Nat) : Int) := by
          split <;> omega
        by_cases c : j = i
        · subst c
          rw [hui] at hv
          have := Option.some.inj hv
          subst this
          have eV : nI V = nI W := by
            have h1 : G u = some (.lst (nI V)) := hV
            have h2 : G u = some (.lst (nI W)) := hW
            rw [h1] at h2
            injection h2 with h2
            injection h2
          have : V = W := nI_inj eV
          subst this
          rw [far_one _ (Nat.le_refl _) br bq]
          omega
        · have := seen j v (by omega) hv V hV rs br
          omega
    rintro σ G2 ⟨v7, v8, lv, rfl, e, lo, seen⟩
    rw [List.length_map] at seen
    have e02 := (MH.trans (Mut.of_ex (b := b) e))
    have fin := k G2 (BG.ex e) e02
    have low : (n : Int) ≤ 9 → base ≠ 0 → lv = (base : Int) - 1 := fun sm nz => by
      obtain ⟨W, nb, hW⟩ := step_ex n64 sR bl of (by omega)
      obtain ⟨i, u, hu, hG⟩ := all2 sm W nb
      have il : i < us2.length := (List.getElem?_eq_some_iff.1 hu).1
      obtain ⟨qs, bq, _⟩ := bl_ex (faultS_no (st_fault nb.1).1).2 staZ (by rw [natI_len, (st_fault nb.1).2]; omega)
      rw [toI_nat, nb.1.len] at bq
      have h1 := seen i u il hu W hG qs bq
      have h2 := hW qs bq
      omega
    by_cases sm : (n : Int) ≤ 9
    · refine ⟨_, rfl, _, rfl, _, rfl, ?_⟩
      refine ifF (by rw [decide_eq_true sm]; rfl) ?_
      refine ⟨_, rfl, rfl, _, rfl, ?_⟩
      by_cases nz : base = 0
      · refine ifT (decide_eq_true (by rw [nz]; rfl)) ?_
        exact fin
      · refine ifF (decide_eq_false (fun z => by injection z with z; omega)) ?_
        refine ⟨_, rfl, _, rfl, _, _, rfl, rfl, rfl, ?_⟩
        rw [decide_eq_true (show V.int lv = V.int ((base : Int) - 1) from by rw [low sm nz])]
        exact fin
    · refine ⟨_, rfl, _, rfl, _, rfl, ?_⟩
      refine ifT (by rw [decide_eq_false sm]; rfl) ?_
      exact fin

end

section
variable {P : Program} {w : World} {K : PySem.W.Frag} {mg : Str → Option Value} {base : Heap} {A : Ad}
theorem ok_law_state (T : Txt K mg A)  (g_law_draw : Okd P w K mg base CX0 1 A.law_draw P_law_draw spDw) (g_law_shuffled : Okd P w K mg base CX0 2 A.law_shuffled P_law_shuffled spSf2) : Okd P w K mg base CX0 3 A.law_state P_law_state spSt2 := by
  obtain ⟨fd, F⟩ := T.d_law_state
  obtain ⟨fd_law_draw, G_law_draw, b_law_draw⟩ := g_law_draw
  obtain ⟨fd_law_shuffled, G_law_shuffled, b_law_shuffled⟩ := g_law_shuffled
  refine ⟨fd, F.ok sc_law_state (fun vs H Q E h => ?_) (fun cdv A' outer s H vs Q E hr h => ?_), F.binds fun _ _ _ _ _ _ us hl => match us, hl with | [_, _], _ => rfl⟩
  · obtain ⟨b, c, n, rfl, _⟩ := h
    rfl
  · obtain ⟨b, c, n, rfl, n64, B, k⟩ := h
    refine ⟨_, (pss_cons (ps_set (i := 2) sc_law_state.nd rfl (Or.inl rfl) (pe_call G_law_draw (hr.mono (by decide)) (by rfl) T.g_law_draw T.k_law_draw b_law_draw .nil pass0 (pa_cons (pv 0) (pa_cons pe_int pa_nil))))
      (pss_cons (ps_set (i := 3) sc_law_state.nd rfl (Or.inl rfl) (pe_call G_law_shuffled (hr.mono (by decide)) (by rfl) T.g_law_shuffled T.k_law_shuffled b_law_shuffled .nil pass0 (pa_cons (pv 0) (pa_cons (pe_listRg (by rfl) (by rfl) T.n_list (prg_1 (by rfl) T.n_range (pv 1))) pa_nil))))
      (pss_cons (ps_set (i := 4) sc_law_state.nd rfl (Or.inl rfl) (pe_listRg (by rfl) (by rfl) T.n_list (prg_1 (by rfl) T.n_range (pv 1))))
      (pss_cons (ps_set (i := 5) sc_law_state.nd rfl (Or.inl rfl) pe_int)
      (pss_cons (ps_for PassesOwn.never rfl (pi_range1 (by rfl) T.n_range (pa_cons (pv 1) pa_nil)) (pg_name (i := 6) sc_law_state.nd rfl (Or.inl rfl)) (pss_cons (ps_set (i := 7) sc_law_state.nd rfl (Or.inl rfl) (pe_call G_law_draw (hr.mono (by decide)) (by rfl) T.g_law_draw T.k_law_draw b_law_draw .nil pass0 (pa_cons (pv 0) (pa_cons pe_int pa_nil))))
      (pss_cut (ps_if (PW.pt (pw_and (pt_cmpR op_lt (pe_op op_add (pv 5) pe_int) (pv 1) (nomark _)) (pw_and1 (pt_cmpR op_lt (pv 7) (pv 2) (nomark _))))) (pss_cons (ps_asg (pe_ix ix_list (pv 3) (pe_op op_add (pv 5) pe_int) (fun _ _ => rfl)) (pg_sub (pv 4) (pe_ix ix_list (pv 3) (pv 5) (fun _ _ => rfl)) set_list))
      (pss_cons (ps_asg (pe_ix ix_list (pv 3) (pv 5) (fun _ _ => rfl)) (pg_sub (pv 4) (pe_ix ix_list (pv 3) (pe_op op_add (pv 5) pe_int) (fun _ _ => rfl)) set_list))
      (pss_one (ps_set (i := 5) sc_law_state.nd rfl (Or.inl rfl) (pe_op op_add (pv 5) pe_int))))) (pss_one (ps_set (i := 5) sc_law_state.nd rfl (Or.inl rfl) (pe_op op_add (pv 5) pe_int))))
      (pss_one (ps_if (pt_cmpR op_ge (pv 5) (pv 1) (nomark _)) (pss_one ps_break) pss_nil)))))
      (pss_one (ps_ret (pv 4)))))))), ?_⟩
    refine ⟨_, rfl, b, c, 4, rfl, by decide, by decide, B, fun d1 H1 hd1 B1 M1 => ?_⟩
    have er : rgV 0 (n : Int) = nI (List.range n) := by
      rw [rgV_map, List.map_map]
      rfl
    refine ⟨_, rfl, _, rfl, _, rfl, RgOk.of_le (by decide) (by omega) (by omega) (by omega), fun l hl => ?_⟩
    have eL := Ex.new (o := .lst (rgV 0 (n : Int))) hl
    have hL : upd H1 l (.lst (rgV 0 (n : Int))) l = some (.lst (nI (List.range n))) := by rw [upd_same, er]
    obtain ⟨nlb, nlc⟩ := B1.ne hl
    have B2 := B1.ex eL
    have M2 := M1.ext eL
    generalize upd H1 l (.lst (rgV 0 (n : Int))) = H2 at eL hL B2 M2 ⊢
    refine ⟨b, c, l, nI (List.range n), rfl, hL, by rw [nI_len, List.length_range]; omega, nlb, B2, fun o ys H3 ho B3 M3 hys pm => ?_⟩
    obtain ⟨O, rfl, pO⟩ := nats_of pm
    have M13 := M2.trans M3
    have lO : O.length = n := by rw [pO.length_eq, List.length_range]
    have nO : O.Nodup := pO.nodup_iff.mpr List.nodup_range
    have bO : ∀ q, q < n → gt O q < n := fun q h => by
      have : gt O q ∈ O := by
        unfold gt
        rw [List.getD_eq_getElem?_getD, List.getElem?_eq_getElem (by omega)]
        exact List.getElem_mem _
      exact List.mem_range.mp (pO.mem_iff.mp this)
    obtain ⟨nob, noc⟩ := B2.ne ho
    refine ⟨_, rfl, _, rfl, RgOk.of_le (by decide) (by omega) (by omega) (by omega), fun r hr => ?_⟩
    have eR := Ex.new (o := .lst (rgV 0 (n : Int))) hr
    have hR : ListN (upd H3 r (.lst (rgV 0 (n : Int)))) r (List.range n) := by
      show upd H3 r _ r = _
      rw [upd_same, er]
    obtain ⟨nrb, nrc⟩ := B3.ne hr
    have fr : H r = none := M13.free nrb hr
    have B4 := B3.ex eR
    have M4 := M13.ext eR
    have ho4 := eR _ _ hys
    have nor : o ≠ r := ne_of_none hys hr
    generalize upd H3 r (.lst (rgV 0 (n : Int))) = H4 at eR hR B4 M4 ho4 ⊢
    have at_ : ∀ q, q < n → atI (nI O) ((q : Nat) : Int) = some (V.int ((gt O q : Nat) : Int)) := fun q h => by
      refine atI_nat ?_
      unfold nI gt
      rw [List.getElem?_map, List.getElem?_eq_getElem (by omega), List.getD_eq_getElem?_getD, List.getElem?_eq_getElem (by omega)]
      rfl
    refine ⟨_, rfl, _, rfl, by omega, by omega, ?_⟩
    rw [Int.toNat_natCast]
    refine for_range (lo := 0) (n := n) (fun i σ G => ∃ (v6 v7 : Option V) (place : Nat) (R : List Nat), σ = [some (.ref b), some (.int (n : Int)), some (.int (d1 : Int)), some (.ref o), some (.ref r), some (.int (place : Int)), v6, v7] ∧ Bx G b c ∧ Mut b H G ∧ G o = some (.lst (nI O)) ∧ ListN G r R ∧ StN R n ∧ (i < n → place < n) ∧ ∀ q, place ≤ q → q < n → gt R (gt O q) = gt O q) ⟨none, none, 0, List.range n, rfl, B4, M4, ho4, hR, stN_range, fun h => h, fun q _ h => gtq_range (bO q h)⟩ ?_ ?_
    · rintro i σ G hi ⟨v6, v7, place, R, rfl, BG, MG, hoG, hrG, st, pl, un⟩
      have pl := pl hi
      refine ⟨_, rfl, b, c, 3, rfl, by decide, by decide, BG, fun d2 G1 hd2 BG1 MG1 => ?_⟩
      have ho1 := MG1 _ _ nob hoG
      have hr1 : ListN G1 r R := MG1 _ _ nrb hrG
      have M1' := MG.trans MG1
      refine ⟨fun σ G => ∃ (place : Nat) (R : List Nat), σ = [some (.ref b), some (.int (n : Int)), some (.int (d1 : Int)), some (.ref o), some (.ref r), some (.int (place : Int)), some (.int (0 + (i : Int))), some (.int (d2 : Int))] ∧ Bx G b c ∧ Mut b H G ∧ G o = some (.lst (nI O)) ∧ ListN G r R ∧ StN R n ∧ ∀ q, place ≤ q → q < n → gt R (gt O q) = gt O q, ?_, ?_⟩
      · have other : ∃ (p2 : Nat) (R : List Nat), [some (V.ref b), some (V.int (n : Int)), some (V.int (d1 : Int)), some (V.ref o), some (V.ref r), some (V.int ((place : Int) + 1)), some (V.int (0 + (i : Int))), some (V.int (d2 : Int))] = [some (.ref b), some (.int (n : Int)), some (.int (d1 : Int)), some (.ref o), some (.ref r), some (.int (p2 : Int)), some (.int (0 + (i : Int))), some (.int (d2 : Int))] ∧ Bx G1 b c ∧ Mut b H G1 ∧ G1 o = some (.lst (nI O)) ∧ ListN G1 r R ∧ StN R n ∧ ∀ q, p2 ≤ q → q < n → gt R (gt O q) = gt O q := ⟨place + 1, R, rfl, BG1, M1', ho1, hr1, st, fun q h1 h2 => un q (by omega) h2⟩
        refine ⟨_, rfl, _, _, rfl, rfl, _, rfl, _, _, rfl, rfl, _, rfl, ite_b (fun c1 => ?_) (fun _ => ?_)⟩
        rotate_left
        · exact iteF ⟨_, rfl, _, _, rfl, rfl, other⟩
        have c1 := of_decide_eq_true c1
        refine ⟨_, rfl, _, rfl, _, _, rfl, rfl, _, rfl, ite_b (fun _ => ?_) (fun _ => ⟨_, rfl, _, _, rfl, rfl, other⟩)⟩
        have p1 : place + 1 < n := by omega
        have ne : gt O place ≠ gt O (place + 1) := fun z => by
          have := nd_gt nO (by omega) (by omega) z
          omega
        refine ⟨_, rfl, _, rfl, _, _, rfl, rfl, o, _, _, _, rfl, rfl, SqL.of ho1, at_ (place + 1) p1, _, rfl, _, rfl, _, rfl, o, _, _, _, rfl, rfl, SqL.of ho1, at_ place pl, r, _, _, gt O place, rfl, rfl, hr1, Evl.ixN_nat (by rw [nI_len, st.len]; exact bO place pl), ?_⟩
        rw [show (nI R).set (gt O place) (V.int ((gt O (place + 1) : Nat) : Int)) = nI (R.set (gt O place) (gt O (place + 1))) from (List.map_set ..).symm]
        have hr2 : ListN (upd G1 r (.lst (nI (R.set (gt O place) (gt O (place + 1)))))) r (R.set (gt O place) (gt O (place + 1))) := upd_same
        have kp2 : ∀ x u, x ≠ r → G1 x = some u → upd G1 r (.lst (nI (R.set (gt O place) (gt O (place + 1))))) x = some u := fun x u nx h => by rw [upd_ne nx]; exact h
        generalize upd G1 r (.lst (nI (R.set (gt O place) (gt O (place + 1))))) = G2 at hr2 kp2 ⊢
        have ho2 := kp2 _ _ nor ho1
        refine ⟨_, rfl, _, rfl, o, _, _, _, rfl, rfl, SqL.of ho2, at_ place pl, _, rfl, _, rfl, _, rfl, _, _, rfl, rfl, o, _, _, _, rfl, rfl, SqL.of ho2, at_ (place + 1) p1, r, _, _, gt O (place + 1), rfl, rfl, hr2, Evl.ixN_nat (by rw [nI_len, List.length_set, st.len]; exact bO (place + 1) p1), ?_⟩
        rw [show (nI (R.set (gt O place) (gt O (place + 1)))).set (gt O (place + 1)) (V.int ((gt O place : Nat) : Int)) = nI ((R.set (gt O place) (gt O (place + 1))).set (gt O (place + 1)) (gt O place)) from (List.map_set ..).symm]
        refine ⟨_, rfl, _, _, rfl, rfl, place + 2, _, rfl, BG1.keep (fun u h => by rw [upd_ne nrb.symm]; exact kp2 _ _ nrb.symm h) (fun u h => by rw [upd_ne nrc.symm]; exact kp2 _ _ nrc.symm h), fun x u nx h => by rw [upd_ne (ne_of_none h fr)]; exact kp2 _ _ (ne_of_none h fr) (M1' _ _ nx h), by rw [upd_ne nor]; exact ho2, upd_same, set2_st st (bO place pl) (bO (place + 1) p1) ne (un place (Nat.le_refl _) pl) (un (place + 1) (by omega) p1), fun q h1 h2 => ?_⟩
        rw [set2_gt st (bO place pl) (bO (place + 1) p1), if_neg (fun z => by have := nd_gt nO (by omega) (by omega) z; omega), if_neg (fun z => by have := nd_gt nO (by omega) (by omega) z; omega)]
        exact un q (by omega) h2
      rintro σ G2 ⟨p2, R2, rfl, BG2, MG2, ho2, hr2, st2, un2⟩
      refine ⟨_, rfl, _, rfl, _, _, rfl, rfl, _, rfl, ite_b (fun _ => ?_) (fun c2 => ?_)⟩
      · exact ⟨_, rfl, k r R2 G2 fr BG2 MG2 hr2 st2⟩
      · have c2 := of_decide_eq_false c2
        exact ⟨_, _, p2, R2, rfl, BG2, MG2, ho2, hr2, st2, fun _ => by omega, un2⟩
    · rintro σ G ⟨v6, v7, place, R, rfl, BG, MG, hoG, hrG, st, pl, un⟩
      exact ⟨_, rfl, k r R G fr BG MG hrG st⟩

end

section
variable {P : Program} {w : World} {K : PySem.W.Frag} {mg : Str → Option Value} {base : Heap} {A : Ad}
theorem ok_law_size (T : Txt K mg A)  (g_law_draw : Okd P w K mg base CX0 1 A.law_draw P_law_draw spDw) : Okd P w K mg base CX0 2 A.law_size P_law_size spSz2 := by
  obtain ⟨fd, F⟩ := T.d_law_size
  obtain ⟨fd_law_draw, G_law_draw, b_law_draw⟩ := g_law_draw
  refine ⟨fd, F.ok sc_law_size (fun vs H Q E h => ?_) (fun cdv A' outer s H vs Q E hr h => ?_), F.binds fun _ _ _ _ _ _ us hl => match us, hl with | [_, _], _ => rfl⟩
  · obtain ⟨b, c, most, rfl, _⟩ := h
    rfl
  · obtain ⟨b, c, most, rfl, m64, B, k⟩ := h
    refine ⟨_, (pss_cons (ps_set (i := 2) sc_law_size.nd rfl (Or.inl rfl) (pe_call G_law_draw (hr.mono (by decide)) (by rfl) T.g_law_draw T.k_law_draw b_law_draw .nil pass0 (pa_cons (pv 0) (pa_cons pe_int pa_nil))))
      (pss_cons (ps_if (pt_cmpR op_eq (pv 2) pe_int (nomark _)) (pss_one (ps_ret (pe_op op_add pe_int (pe_call G_law_draw (hr.mono (by decide)) (by rfl) T.g_law_draw T.k_law_draw b_law_draw .nil pass0 (pa_cons (pv 0) (pa_cons pe_int pa_nil)))))) pss_nil)
      (pss_one (ps_ret (pe_call G_law_draw (hr.mono (by decide)) (by rfl) T.g_law_draw T.k_law_draw b_law_draw .nil pass0 (pa_cons (pv 0) (pa_cons (pe_op op_add (pv 1) pe_int) pa_nil))))))), ?_⟩
    refine ⟨_, rfl, b, c, 8, rfl, by decide, by decide, B, fun d1 H1 hd1 B1 M1 => ?_⟩
    refine ⟨_, rfl, rfl, _, rfl, ite_b (fun _ => ?_) (fun _ => ?_)⟩
    · refine ⟨_, rfl, b, c, 25, rfl, by decide, by decide, B1, fun d2 H2 hd2 B2 M2 => ⟨_, _, rfl, rfl, ?_⟩⟩
      have := k (d2 + 40) H2 (by omega) B2 (M1.trans M2)
      rw [show ((d2 + 40 : Nat) : Int) = 40 + (d2 : Int) by omega] at this
      exact this
    · refine ⟨_, rfl, _, rfl, _, _, rfl, rfl, b, c, (most : Int) + 1, rfl, by omega, by omega, B1, fun d2 H2 hd2 B2 M2 => ?_⟩
      exact k d2 H2 (by omega) B2 (M1.trans M2)

end

section
variable {P : Program} {w : World} {K : PySem.W.Frag} {mg : Str → Option Value} {base : Heap} {A : Ad}
theorem ok_law_table_due (T : Txt K mg A)   : Okd P w K mg base CX0 1 A.law_table_due P_law_table_due spTd := by
  obtain ⟨fd, F⟩ := T.d_law_table_due

  refine ⟨fd, F.ok sc_law_table_due (fun vs H Q E h => ?_) (fun cdv A' outer s H vs Q E hr h => ?_), F.binds fun _ _ _ _ _ _ us hl => match us, hl with | [_], _ => rfl⟩
  · obtain ⟨l, xs, rfl, _⟩ := h
    rfl
  · obtain ⟨l, xs, rfl, hl, x65, k1, k2, k0⟩ := h
    refine ⟨_, (pss_cons (ps_for PassesOwn.never rfl (pi_range1 (by rfl) T.n_range (pa_cons (pe_callB call_len_seq (by rfl) T.n_len PySem.boot_len (pa_cons (pv 0) pa_nil)) pa_nil)) (pg_name (i := 1) sc_law_table_due.nd rfl (Or.inl rfl)) (pss_one (ps_if (pt_not (pt_chain op_le op_lt pe_int (pe_ix ix_list (pv 0) (pv 1) (fun _ _ => rfl)) (pe_callB call_len_seq (by rfl) T.n_len PySem.boot_len (pa_cons (pv 0) pa_nil)))) (pss_one (ps_ret (pe_tup (pa_cons pe_str (pa_cons (pv 1) pa_nil))))) pss_nil)))
      (pss_cons (ps_for PassesOwn.never rfl (pi_range1 (by rfl) T.n_range (pa_cons (pe_callB call_len_seq (by rfl) T.n_len PySem.boot_len (pa_cons (pv 0) pa_nil)) pa_nil)) (pg_name (i := 1) sc_law_table_due.nd rfl (Or.inl rfl)) (pss_one (ps_if (pt_cmpR op_ne (pe_ix ix_list (pv 0) (pe_ix ix_list (pv 0) (pv 1) (fun _ _ => rfl)) (fun _ _ => rfl)) (pv 1) (nomark _)) (pss_one (ps_ret (pe_tup (pa_cons pe_str (pa_cons (pv 1) pa_nil))))) pss_nil)))
      (pss_one (ps_ret (pe_tup pa_nil))))), ?_⟩
    have gA : ∀ i, i < xs.length → atI (xs.map V.int) ((i : Nat) : Int) = some (V.int (xs.getD i 0)) := fun i h => atI_nat (by
      rw [List.getElem?_map, List.getElem?_eq_getElem h, List.getD_eq_getElem?_getD, List.getElem?_eq_getElem h]
      rfl)
    refine ⟨_, rfl, l, _, rfl, .inl (SqL.of hl), _, rfl, by rw [List.length_map]; omega, by rw [List.length_map]; omega, ?_⟩
    rw [List.length_map, Int.toNat_natCast]
    refine for_range (lo := 0) (n := xs.length) (fun i σ G => ∃ v1 : Option V, σ = [some (.ref l), v1] ∧ G = H ∧ ∀ j, j < i → badN xs j = false) ⟨none, rfl, rfl, fun j h => absurd h (Nat.not_lt_zero _)⟩ ?_ ?_
    · rintro i σ G hi ⟨v1, rfl, rfl, nb⟩
      rw [Int.zero_add]
      have bad : badN xs i = true → ∀ t, G t = none → Q (.ref t) (upd G t (.tup [.str "image", .int (i : Int)])) := fun hb t ht => k1 i (by unfold faultS strayI; rw [firstOf_some hi hb nb]) t _ (Ex.new ht) upd_same
      refine ⟨_, rfl, _, rfl, l, _, _, _, rfl, rfl, SqL.of hl, gA i hi, _, _, rfl, rfl, _, rfl, ?_⟩
      by_cases c1 : 0 ≤ xs.getD i 0
      · rw [decide_eq_true c1]
        refine iteT ⟨_, rfl, l, _, rfl, .inl (SqL.of hl), _, _, rfl, rfl, _, rfl, ?_⟩
        rw [List.length_map]
        by_cases c2 : xs.getD i 0 < (xs.length : Int)
        · rw [decide_eq_true c2]
          refine iteF ⟨_, rfl, rfl, fun j hj => ?_⟩
          by_cases z : j = i
          · rw [z]
            unfold badN
            rw [decide_eq_false (by omega), decide_eq_false (by omega)]
            rfl
          · exact nb j (by omega)
        · rw [decide_eq_false c2]
          refine iteT ⟨_, rfl, (by show 2 ≤ sizeLine; decide), fun t ht => bad ?_ t ht⟩
          unfold badN
          rw [decide_eq_true (show (xs.length : Int) ≤ xs.getD i 0 by omega), Bool.or_true]
      · rw [decide_eq_false c1]
        refine iteF ⟨_, rfl, iteT ⟨_, rfl, (by show 2 ≤ sizeLine; decide), fun t ht => bad ?_ t ht⟩⟩
        unfold badN
        rw [decide_eq_true (show xs.getD i 0 < 0 by omega), Bool.true_or]
    rintro σ G ⟨v1, rfl, rfl, nb⟩
    have h0 : strayI xs = none := firstOf_none nb
    have lN : ListN G l (natI xs) := by
      show G l = _
      rw [natI_map h0]
      exact hl
    have gN : ∀ i, i < xs.length → atI (nI (natI xs)) ((i : Nat) : Int) = some (V.int ((gt (natI xs) i : Nat) : Int)) := fun i h => atN (by rw [natI_len]; exact h)
    refine ⟨_, rfl, l, _, rfl, .inl (SqL.of lN), _, rfl, by rw [nI_len, natI_len]; omega, by rw [nI_len, natI_len]; omega, ?_⟩
    rw [nI_len, natI_len, Int.toNat_natCast]
    refine for_range (lo := 0) (n := xs.length) (fun i σ G' => ∃ v1 : Option V, σ = [some (.ref l), v1] ∧ G' = G ∧ ∀ j, j < i → gt (natI xs) (gt (natI xs) j) = j) ⟨v1, rfl, rfl, fun j h => absurd h (Nat.not_lt_zero _)⟩ ?_ ?_
    · rintro i σ G' hi ⟨v1, rfl, rfl, ub⟩
      rw [Int.zero_add]
      have hg : gt (natI xs) i < xs.length := (natI_at h0 hi).2
      refine ⟨_, rfl, _, rfl, _, rfl, l, _, _, _, rfl, rfl, SqL.of lN, gN i hi, l, _, _, _, rfl, rfl, SqL.of lN, gN _ hg, _, rfl, rfl, _, rfl, ?_⟩
      by_cases c : gt (natI xs) (gt (natI xs) i) = i
      · rw [c, decide_eq_true rfl]
        refine iteF ⟨_, rfl, rfl, fun j hj => ?_⟩
        by_cases z : j = i
        · rw [z]
          exact c
        · exact ub j (by omega)
      · rw [decide_eq_false (show ¬ V.int ((gt (natI xs) (gt (natI xs) i) : Nat) : Int) = V.int (i : Int) from fun h => by injection h with h; omega)]
        have un : unset (natI xs) = some i := firstOf_some (by rw [natI_len]; exact hi) (decide_eq_true c) fun j hj => decide_eq_false fun h => h (ub j hj)
        have fs : faultS xs = some (2, i) := by
          unfold faultS
          rw [h0]
          show (unset (natI xs)).map _ = _
          rw [un]
          rfl
        exact iteT ⟨_, rfl, (by show 2 ≤ sizeLine; decide), fun t ht => k2 i fs t _ (Ex.new ht) upd_same⟩
    rintro σ G' ⟨v1, rfl, rfl, ub⟩
    have un : unset (natI xs) = none := firstOf_none fun j hj => decide_eq_false fun h => h (ub j (by rw [natI_len] at hj; exact hj))
    have fs : faultS xs = none := by
      unfold faultS
      rw [h0]
      show (unset (natI xs)).map _ = _
      rw [un]
      rfl
    exact ⟨(by show 0 ≤ sizeLine; decide), fun t ht => k0 fs t _ (Ex.new ht) upd_same⟩

end

section
variable {P : Program} {w : World} {K : PySem.W.Frag} {mg : Str → Option Value} {base : Heap} {A : Ad}
theorem ok_law_told (T : Txt K mg A)  (g_law_met : Okd P w K mg base CX0 8 A.law_met P_law_met spMt1) (g_law_whole : Okd P w K mg base CX0 1 A.law_whole P_law_whole spWl) : Okd P w K mg base CX0 9 A.law_told P_law_told spTo1 := by
  obtain ⟨fd, F⟩ := T.d_law_told
  obtain ⟨fd_law_met, G_law_met, b_law_met⟩ := g_law_met
  obtain ⟨fd_law_whole, G_law_whole, b_law_whole⟩ := g_law_whole
  refine ⟨fd, F.ok sc_law_told (fun vs H Q E h => ?_) (fun cdv A' outer s H vs Q E hr h => ?_), F.binds fun _ _ _ _ _ _ us hl => match us, hl with | [_, _], _ => rfl⟩
  · obtain ⟨l, r, xs, zs, rfl, _⟩ := h
    rfl
  · obtain ⟨l, r, xs, zs, rfl, hl, hr0, hf, x64, k⟩ := h
    refine ⟨_, (pss_cons (ps_set (i := 2) sc_law_told.nd rfl (Or.inl rfl) (pe_lst (pa_cons (pe_callTy call_list_of (by rfl) T.n_list (by decide +kernel) (pa_cons (pv 0) pa_nil)) (pa_cons (pe_callTy call_list_of (by rfl) T.n_list (by decide +kernel) (pa_cons (pv 1) pa_nil)) pa_nil))))
      (pss_cons (ps_set (i := 3) sc_law_told.nd rfl (Or.inl rfl) (pe_call G_law_met (hr.mono (by decide)) (by rfl) T.g_law_met T.k_law_met b_law_met .nil pass0 (pa_cons (pe_ix ix_list (pv 2) pe_int (fun _ _ => rfl)) (pa_cons (pe_ix ix_list (pv 2) pe_int (fun _ _ => rfl)) pa_nil))))
      (pss_cons (ps_if (PW.pt (pw_or (pt_cmpR (op_neD hr.units) (pe_ix ix_list (pv 2) pe_int (fun _ _ => rfl)) (pv 0) (nomark _)) (pw_or1 (pt_cmpR (op_neD hr.units) (pe_ix ix_list (pv 2) pe_int (fun _ _ => rfl)) (pv 1) (nomark _))))) (pss_one (ps_ret (pe_un un_neg pe_int))) pss_nil)
      (pss_cons (ps_if (PW.pt (pw_or (pt_cmpR op_ne (pe_ix ix_tup (pv 3) pe_int (fun _ _ => rfl)) pe_str (nomark _)) (pw_or1 (pt_not (pt_val (pe_call G_law_whole (hr.mono (by decide)) (by rfl) T.g_law_whole T.k_law_whole b_law_whole .nil pass0 (pa_cons (pe_ix ix_tup (pv 3) pe_int (fun _ _ => rfl)) pa_nil))))))) (pss_one (ps_ret (pe_un un_neg pe_int))) pss_nil)
      (pss_one (ps_ret (pe_ix ix_tup (pv 3) pe_int (fun _ _ => rfl)))))))), ?_⟩
    obtain ⟨fx, fz, ll⟩ := faultF_no hf
    have z64 : zs.length ≤ 64 := by omega
    refine ⟨_, rfl, l, _, rfl, .inl (SqL.of hl), fun p hp => ?_⟩
    have e1 := Ex.new (o := .lst (xs.map V.int)) hp
    have fp : ListI (upd H p (.lst (xs.map V.int))) p xs := upd_same
    generalize upd H p (.lst (xs.map V.int)) = H1 at e1 fp ⊢
    refine ⟨_, rfl, r, _, rfl, .inl (SqL.of (e1 _ _ hr0)), fun q hq => ⟨(by show 2 ≤ sizeLine; decide), fun z hz => ?_⟩⟩
    have e2 := (Ex.new (o := .lst (zs.map V.int)) hq).trans (Ex.new (o := .lst [V.ref p, V.ref q]) hz)
    have gz : upd (upd H1 q (.lst (zs.map V.int))) z (.lst [V.ref p, V.ref q]) z = some (.lst [V.ref p, V.ref q]) := upd_same
    have gq : ListI (upd (upd H1 q (.lst (zs.map V.int))) z (.lst [V.ref p, V.ref q])) q zs := (Ex.new hz) _ _ upd_same
    have gp := e2 _ _ fp
    have e3 := e1.trans e2
    generalize upd (upd H1 q (.lst (zs.map V.int))) z (.lst [V.ref p, V.ref q]) = H3 at e2 e3 gz gq gp ⊢
    refine ⟨_, rfl, z, _, _, _, rfl, rfl, SqL.of gz, atI_nat (j := 0) rfl, _, rfl, z, _, _, _, rfl, rfl, SqL.of gz, atI_nat (j := 1) rfl, p, q, xs, zs, rfl, gp, gq, x64, z64, (fun f h => by rw [hf] at h; cases h), fun _ ps bl of t H4 e4 ht => ?_⟩
    have e04 := e3.trans e4
    have hl4 := (show ListI H l xs from hl).ex e04
    have hr4 := (show ListI H r zs from hr0).ex e04
    have gz4 := e4 _ _ gz
    have dx := eqv_dI xs xs
    rw [decide_eq_true rfl] at dx
    have dz := eqv_dI zs zs
    rw [decide_eq_true rfl] at dz
    refine ⟨_, rfl, z, _, _, _, rfl, rfl, SqL.of gz4, atI_nat (j := 0) rfl, _, rfl, dI xs, dI xs, dp_I (e4 _ _ gp), dp_I hl4, shaped_I _, shaped_I _, ?_⟩
    rw [dx]
    refine ⟨_, rfl, iteF ⟨_, rfl, z, _, _, _, rfl, rfl, SqL.of gz4, atI_nat (j := 1) rfl, _, rfl, dI zs, dI zs, dp_I (e4 _ _ gq), dp_I hr4, shaped_I _, shaped_I _, ?_⟩⟩
    rw [dz]
    refine ⟨_, rfl, iteF ⟨_, rfl, t, _, _, _, rfl, rfl, SqT.of ht, atI_nat (j := 0) rfl, rfl, _, rfl, ifF (by rw [decide_eq_true rfl]; rfl) ⟨_, rfl, t, _, _, _, rfl, rfl, SqT.of ht, atI_nat (j := 1) rfl, _, rfl, _, rfl, iteF ⟨_, rfl, t, _, _, _, rfl, rfl, SqT.of ht, atI_nat (j := 1) rfl, k ps bl H4 e04⟩⟩⟩⟩

end

section
variable {P : Program} {w : World} {K : PySem.W.Frag} {mg : Str → Option Value} {base : Heap} {A : Ad}
theorem ok_law_two_due (T : Txt K mg A)  (g_law_table_due : Okd P w K mg base CX0 1 A.law_table_due P_law_table_due spTd) : Okd P w K mg base CX0 2 A.law_two_due P_law_two_due spTwd := by
  obtain ⟨fd, F⟩ := T.d_law_two_due
  obtain ⟨fd_law_table_due, G_law_table_due, b_law_table_due⟩ := g_law_table_due
  refine ⟨fd, F.ok sc_law_two_due (fun vs H Q E h => ?_) (fun cdv A' outer s H vs Q E hr h => ?_), F.binds fun _ _ _ _ _ _ us hl => match us, hl with | [_, _], _ => rfl⟩
  · obtain ⟨l, r, xs, zs, rfl, _⟩ := h
    rfl
  · obtain ⟨l, r, xs, zs, rfl, hl, hr0, x65, z65, k⟩ := h
    refine ⟨_, (pss_cut (ps_set (i := 2) sc_law_two_due.nd rfl (Or.inl rfl) (pe_call G_law_table_due (hr.mono (by decide)) (by rfl) T.g_law_table_due T.k_law_table_due b_law_table_due .nil pass0 (pa_cons (pv 0) pa_nil)))
      (pss_cut (ps_if (pt_cmpR (op_eqD hr.units) (pv 2) (pe_tup pa_nil) (nomark _)) (pss_one (ps_set (i := 2) sc_law_two_due.nd rfl (Or.inl rfl) (pe_call G_law_table_due (hr.mono (by decide)) (by rfl) T.g_law_table_due T.k_law_table_due b_law_table_due .nil pass0 (pa_cons (pv 1) pa_nil)))) pss_nil)
      (pss_cons (ps_if (PW.pt (pw_and (pt_cmpR (op_eqD hr.units) (pv 2) (pe_tup pa_nil) (nomark _)) (pw_and1 (pt_cmpR op_ne (pe_callB call_len_seq (by rfl) T.n_len PySem.boot_len (pa_cons (pv 0) pa_nil)) (pe_callB call_len_seq (by rfl) T.n_len PySem.boot_len (pa_cons (pv 1) pa_nil)) (nomark _))))) (pss_one (ps_set (i := 2) sc_law_two_due.nd rfl (Or.inl rfl) (pe_tup (pa_cons pe_str (pa_cons pe_int pa_nil))))) pss_nil)
      (pss_one (ps_ret (pv 2)))))), ?_⟩
    have dat : ∀ (o : Option (Nat × Nat)) (t : Addr) (G : Hp), G t = some (.tup (dueT o)) → ∃ d, Dp K G (.ref t) d ∧ SeqAt.shaped d = true ∧ PyData.eqv d (.tuple []) = o.isNone := fun o t G h => by
      cases o with
      | none => exact ⟨.tuple [], .tup (SqT.of h) .nil, rfl, rfl⟩
      | some f => exact ⟨dW (wF f.1) f.2, dp_W h, (shaped_dW (wF_mem _) _).1, rfl⟩
    have of1 : ∀ k, faultS xs = some (1, k) → dueT (faultS xs) = [.str "image", .int (k : Int)] := fun k h => by rw [h]; rfl
    have of2 : ∀ k, faultS xs = some (2, k) → dueT (faultS xs) = [.str "unsettled", .int (k : Int)] := fun k h => by rw [h]; rfl
    refine ⟨fun σ G => ∃ t, σ = [some (.ref l), some (.ref r), some (.ref t)] ∧ Ex H G ∧ G t = some (.tup (dueT (faultS xs))), ?_, ?_⟩
    · exact ⟨_, rfl, l, xs, rfl, hl, x65, fun k hf t G e ht => ⟨t, rfl, e, by rw [of1 k hf]; exact ht⟩, fun k hf t G e ht => ⟨t, rfl, e, by rw [of2 k hf]; exact ht⟩, fun hf t G e ht => ⟨t, rfl, e, by rw [hf]; exact ht⟩⟩
    rintro σ G ⟨t, rfl, e, ht⟩
    refine ⟨fun σ G2 => ∃ t, σ = [some (.ref l), some (.ref r), some (.ref t)] ∧ Ex H G2 ∧ G2 t = some (.tup (dueT (match faultS xs with | some f => some f | none => faultS zs))), ?_, ?_⟩
    · refine ⟨_, rfl, (by show 0 ≤ sizeLine; decide), fun e0 he0 => ?_⟩
      have x1 := Ex.new (o := .tup []) he0
      obtain ⟨d, h1, h2, h3⟩ := dat _ t _ (x1 _ _ ht)
      refine ⟨d, .tuple [], h1, .tup (SqT.of upd_same) .nil, h2, rfl, ?_⟩
      rw [h3]
      refine ⟨_, rfl, ?_⟩
      have ee := e.trans x1
      cases q : faultS xs with
      | some f =>
        rw [q] at ht
        exact iteF ⟨t, rfl, ee, x1 _ _ ht⟩
      | none =>
        have f1 : ∀ k, faultS zs = some (1, k) → dueT (faultS zs) = [.str "image", .int (k : Int)] := fun k h => by rw [h]; rfl
        have f2 : ∀ k, faultS zs = some (2, k) → dueT (faultS zs) = [.str "unsettled", .int (k : Int)] := fun k h => by rw [h]; rfl
        refine iteT ⟨_, rfl, r, zs, rfl, ee _ _ hr0, z65, fun k hf t G e2 ht => ⟨t, rfl, ee.trans e2, ?_⟩, fun k hf t G e2 ht => ⟨t, rfl, ee.trans e2, ?_⟩, fun hf t G e2 ht => ⟨t, rfl, ee.trans e2, ?_⟩⟩
        · show _ = some (HO.tup (dueT (faultS zs)))
          rw [f1 k hf]; exact ht
        · show _ = some (HO.tup (dueT (faultS zs)))
          rw [f2 k hf]; exact ht
        · show _ = some (HO.tup (dueT (faultS zs)))
          rw [hf]; exact ht
    rintro σ G2 ⟨t, rfl, e, ht⟩
    refine ⟨_, rfl, (by show 0 ≤ sizeLine; decide), fun e0 he0 => ?_⟩
    have x1 := Ex.new (o := .tup []) he0
    have fin : (faultF xs zs) = (match (match faultS xs with | some f => some f | none => faultS zs) with | some f => some f | none => if xs.length ≠ zs.length then some (3, 0) else none) := by
      unfold faultF
      cases faultS xs with
      | some f => rfl
      | none =>
        cases q : faultS zs with
        | some f => simp only [q]
        | none => simp only [q]
    generalize (match faultS xs with | some f => some f | none => faultS zs) = o at ht fin
    obtain ⟨d, h1, h2, h3⟩ := dat _ t _ (x1 _ _ ht)
    have ee := e.trans x1
    refine ⟨d, .tuple [], h1, .tup (SqT.of upd_same) .nil, h2, rfl, ?_⟩
    rw [h3]
    refine ⟨_, rfl, ?_⟩
    cases o with
    | some f =>
      refine iteF ⟨_, rfl, k t _ ee (by rw [fin]; exact x1 _ _ ht)⟩
    | none =>
      refine iteT ⟨_, rfl, l, _, rfl, .inl (SqL.of (ee _ _ hl)), _, rfl, r, _, rfl, .inl (SqL.of (ee _ _ hr0)), rfl, _, rfl, ?_⟩
      rw [List.length_map, List.length_map]
      by_cases c : xs.length = zs.length
      · refine ifF (by rw [decide_eq_true (show V.int (xs.length : Int) = V.int (zs.length : Int) by rw [c])]; rfl) ⟨_, rfl, k t _ ee ?_⟩
        rw [fin]
        show _ = some (HO.tup (dueT (if xs.length ≠ zs.length then some (3, 0) else none)))
        rw [if_neg (fun h => h c)]
        exact x1 _ _ ht
      · refine ifT (by rw [decide_eq_false (show ¬ V.int (xs.length : Int) = V.int (zs.length : Int) from fun z => c (by injection z with z; exact Int.ofNat.inj z))]; rfl) ⟨(by show 2 ≤ sizeLine; decide), fun u hu => ⟨_, rfl, k u _ (ee.trans (Ex.new hu)) ?_⟩⟩
        rw [fin]
        show _ = some (HO.tup (dueT (if xs.length ≠ zs.length then some (3, 0) else none)))
        rw [if_pos c, upd_same]
        rfl

end

section
variable {P : Program} {w : World} {K : PySem.W.Frag} {mg : Str → Option Value} {base : Heap} {A : Ad}
theorem ok_law_two (T : Txt K mg A)  (g_law_draw : Okd P w K mg base CX0 1 A.law_draw P_law_draw spDw) (g_law_state : Okd P w K mg base CX0 3 A.law_state P_law_state spSt2) (g_law_built : Okd P w K mg base CX0 3 A.law_built P_law_built spTw) : Okd P w K mg base CX0 4 A.law_two P_law_two spTw := by
  obtain ⟨fd, F⟩ := T.d_law_two
  obtain ⟨fd_law_draw, G_law_draw, b_law_draw⟩ := g_law_draw
  obtain ⟨fd_law_state, G_law_state, b_law_state⟩ := g_law_state
  obtain ⟨fd_law_built, G_law_built, b_law_built⟩ := g_law_built
  refine ⟨fd, F.ok sc_law_two (fun vs H Q E h => ?_) (fun cdv A' outer s H vs Q E hr h => ?_), F.binds fun _ _ _ _ _ _ us hl => match us, hl with | [_, _], _ => rfl⟩
  · obtain ⟨b, c, n, rfl, _⟩ := h
    rfl
  · obtain ⟨b, c, n, rfl, n64, B, k⟩ := h
    refine ⟨_, (pss_cons (ps_set (i := 2) sc_law_two.nd rfl (Or.inl rfl) (pe_call G_law_draw (hr.mono (by decide)) (by rfl) T.g_law_draw T.k_law_draw b_law_draw .nil pass0 (pa_cons (pv 0) (pa_cons pe_int pa_nil))))
      (pss_cons (ps_if (pt_cmpR op_eq (pv 2) pe_int (nomark _)) (pss_cons (ps_set (i := 3) sc_law_two.nd rfl (Or.inl rfl) (pe_call G_law_state (hr.mono (by decide)) (by rfl) T.g_law_state T.k_law_state b_law_state .nil pass0 (pa_cons (pv 0) (pa_cons (pv 1) pa_nil))))
      (pss_one (ps_ret (pe_lst (pa_cons (pv 3) (pa_cons (pe_callTy call_list_of (by rfl) T.n_list (by decide +kernel) (pa_cons (pv 3) pa_nil)) pa_nil)))))) pss_nil)
      (pss_cons (ps_if (pt_cmpR op_lt (pv 2) pe_int (nomark _)) (pss_one (ps_ret (pe_lst (pa_cons (pe_call G_law_state (hr.mono (by decide)) (by rfl) T.g_law_state T.k_law_state b_law_state .nil pass0 (pa_cons (pv 0) (pa_cons (pv 1) pa_nil))) (pa_cons (pe_call G_law_state (hr.mono (by decide)) (by rfl) T.g_law_state T.k_law_state b_law_state .nil pass0 (pa_cons (pv 0) (pa_cons (pv 1) pa_nil))) pa_nil))))) pss_nil)
      (pss_one (ps_ret (pe_call G_law_built (hr.mono (by decide)) (by rfl) T.g_law_built T.k_law_built b_law_built .nil pass0 (pa_cons (pv 0) (pa_cons (pv 1) pa_nil)))))))), ?_⟩
    refine ⟨_, rfl, b, c, 8, rfl, by decide, by decide, B, fun d1 H1 hd1 B1 M1 => ⟨_, rfl, rfl, _, rfl, ite_b (fun c1 => ?_) (fun c1 => ?_)⟩⟩
    · refine ⟨_, rfl, _, rfl, b, c, n, rfl, n64, B1, fun u R H2 hu B2 M2 gu st => ?_⟩
      have M12 := M1.trans M2
      refine ⟨_, rfl, _, rfl, u, _, rfl, .inl (SqL.of gu), fun v hv => ⟨(by show 2 ≤ sizeLine; decide), fun p hp => ?_⟩⟩
      have x1 := Ex.new (o := .lst (nI R)) hv
      have x2 := Ex.new (o := .lst [V.ref u, V.ref v]) hp
      have fp : H p = none := (M12.ext x1).free ((B2.ex x1).ne hp).1 hp
      exact k p u v R R _ fp (B2.ex (x1.trans x2)) (M12.ext (x1.trans x2)) upd_same (x2 _ _ (x1 _ _ gu)) (x2 _ _ (show upd H2 v (.lst (nI R)) v = _ from upd_same)) st st
    refine ⟨_, rfl, _, _, rfl, rfl, _, rfl, ite_b (fun c2 => ?_) (fun c2 => ?_)⟩
    · refine ⟨_, rfl, _, rfl, b, c, n, rfl, n64, B1, fun u R H2 hu B2 M2 gu st => ?_⟩
      refine ⟨_, rfl, _, rfl, b, c, n, rfl, n64, B2, fun v R2 H3 hv B3 M3 gv st2 => ⟨(by show 2 ≤ sizeLine; decide), fun p hp => ?_⟩⟩
      have M13 := (M1.trans M2).trans M3
      have x2 := Ex.new (o := .lst [V.ref u, V.ref v]) hp
      have nub : u ≠ b := (B1.ne hu).1
      have fp : H p = none := M13.free (B3.ne hp).1 hp
      exact k p u v R R2 _ fp (B3.ex x2) (M13.ext x2) upd_same (x2 _ _ (M3 _ _ nub gu)) (x2 _ _ gv) st st2
    refine ⟨_, rfl, _, rfl, b, c, n, rfl, n64, B1, fun p u v R0 R1 H2 hp B2 M2 gp gu gv s0 s1 => ?_⟩
    exact k p u v R0 R1 H2 (M1.free (B1.ne hp).1 hp) B2 (M1.trans M2) gp gu gv s0 s1

end

section
variable {P : Program} {w : World} {K : PySem.W.Frag} {mg : Str → Option Value} {base : Heap} {A : Ad}
theorem ok_law_whole (T : Txt K mg A)   : Okd P w K mg base CX0 1 A.law_whole P_law_whole spWl := by
  obtain ⟨fd, F⟩ := T.d_law_whole

  refine ⟨fd, F.ok sc_law_whole (fun vs H Q E h => ?_) (fun cdv A' outer s H vs Q E hr h => ?_), F.binds fun _ _ _ _ _ _ us hl => match us, hl with | [_], _ => rfl⟩
  · obtain ⟨i, rfl, _⟩ := h
    rfl
  · obtain ⟨i, rfl, k⟩ := h
    refine ⟨_, (pss_one (ps_ret (pe_and (pe_callB call_isi (by rfl) T.n_isinstance (by decide +kernel) (pa_cons (pv 0) (pa_cons (pe_bltn (v := .ty "int") (u := .type "int") (by rfl) T.n_int (by decide +kernel) rfl) pa_nil))) (pe_one (pe_not (pe_callB call_isi (by rfl) T.n_isinstance (by decide +kernel) (pa_cons (pv 0) (pa_cons (pe_bltn (v := .ty "bool") (u := .type "bool") (by rfl) T.n_bool (by decide +kernel) rfl) pa_nil)))))))), ?_⟩
    refine ⟨_, rfl, _, _, _, _, true, rfl, ClsV.ty "int", TyX.base (TyOf.int _), kit_ty (by decide +kernel), ?_⟩
    refine ⟨true, rfl, iteT ?_⟩
    exact ⟨_, rfl, _, _, _, _, false, rfl, ClsV.ty "bool", TyX.base (TyOf.int _), kit_ty (by decide +kernel), false, rfl, k⟩

end

section
variable {P : Program} {w : World} {K : PySem.W.Frag} {mg : Str → Option Value} {base : Heap} {A : Ad}
theorem okh_law_whole (T : Txt K mg A)   : Okh P w K mg base CX0 1 A.law_whole P_law_whole spWl := by
  obtain ⟨fd, F⟩ := T.d_law_whole

  refine ⟨fd, F.okH sc_law_whole (fun vs H Q E h => ?_) (fun cdv A' outer s H vs Q E p hot hr h => ?_), F.binds fun _ _ _ _ _ _ us hl => match us, hl with | [_], _ => rfl⟩
  · obtain ⟨i, rfl, _⟩ := h
    rfl
  · obtain ⟨i, rfl, k⟩ := h
    refine ⟨_, (pss_one (ps_ret (pe_and (pe_callB call_isi (by rfl) T.n_isinstance (by decide +kernel) (pa_cons (pv 0) (pa_cons (pe_bltn (v := .ty "int") (u := .type "int") (by rfl) T.n_int (by decide +kernel) rfl) pa_nil))) (pe_one (pe_not (pe_callB call_isi (by rfl) T.n_isinstance (by decide +kernel) (pa_cons (pv 0) (pa_cons (pe_bltn (v := .ty "bool") (u := .type "bool") (by rfl) T.n_bool (by decide +kernel) rfl) pa_nil)))))))), ?_⟩
    refine ⟨_, rfl, _, _, _, _, true, rfl, ClsV.ty "int", TyX.base (TyOf.int _), kit_ty (by decide +kernel), ?_⟩
    refine ⟨true, rfl, iteT ?_⟩
    exact ⟨_, rfl, _, _, _, _, false, rfl, ClsV.ty "bool", TyX.base (TyOf.int _), kit_ty (by decide +kernel), false, rfl, k⟩

end

section
variable {P : Program} {w : World} {K : PySem.W.Frag} {mg : Str → Option Value} {base : Heap} {A : Ad}
def d2 (us ws : List Int) : PyData := .list [dI us, dI ws]
theorem lay_dI (xs : List Int) : PyData.canLay0 (dI xs) = true ∧ PyData.depth (dI xs) ≤ 10 ∧ PyData.plain (dI xs) = true := by
  have pl : ∀ xs : List Int, PyData.plainAll (xs.map PyData.int) = true := fun xs => by
    induction xs with
    | nil => rfl
    | cons x xs ih => exact ih
  refine ⟨canLay_I xs, ?_, pl xs⟩
  have := deep_I xs
  unfold dI
  simp only [PyData.depth]
  omega
theorem d2_self (us ws : List Int) : SeqAt.shaped (d2 us ws) = true ∧ PyData.eqv (d2 us ws) (d2 us ws) = true := by
  have h := lst_lay (f := dI) (n := 10) (cs := [us, ws]) fun x _ => lay_dI x
  exact ⟨shaped_of ⟨h.1, Nat.le_trans h.2.1 (by decide), h.2.2⟩, PySem.SeqAt.eqv_refl_plain _ h.2.2⟩
theorem dp_2 {K : PySem.W.Frag} {H : Hp} {z p q : Addr} {us ws : List Int} (h : H z = some (.lst [.ref p, .ref q])) (h1 : H p = some (.lst (us.map V.int))) (h2 : H q = some (.lst (ws.map V.int))) : Dp K H (.ref z) (d2 us ws) := .lst (SqL.of h) (.cons (dp_I h1) (.cons (dp_I h2) .nil))
theorem ok_law {fd : FuncData} (T : Txt K mg A) (F : Fun K "law" "law" s_law A.law fd)  (g_law_bag : Okd P w K mg base CX0 1 A.law_bag P_law_bag (spBg K)) (g_law_size : Okd P w K mg base CX0 2 A.law_size P_law_size spSz2) (g_law_two : Okd P w K mg base CX0 4 A.law_two P_law_two spTw) (g_law_far : Okd P w K mg base CX0 2 A.law_far P_law_far spFa) (g_law_told : Okd P w K mg base CX0 9 A.law_told P_law_told spTo1) (g_law_state : Okd P w K mg base CX0 3 A.law_state P_law_state spSt2) (g_law_steps_right : Okd P w K mg base CX0 10 A.law_steps_right P_law_steps_right spSp) (g_law_bent_two : Okd P w K mg base CX0 3 A.law_bent_two P_law_bent_two spBt2) (g_law_two_due : Okd P w K mg base CX0 2 A.law_two_due P_law_two_due spTwd) (g_law_met : Okd P w K mg base CX0 8 A.law_met P_law_met spMt1) (g_law_whole : Okd P w K mg base CX0 1 A.law_whole P_law_whole spWl) : FnOk P w K mg base CX0 12 A.law fd P_law (spLaw K) := by
  obtain ⟨fd_law_bag, G_law_bag, b_law_bag⟩ := g_law_bag
  obtain ⟨fd_law_size, G_law_size, b_law_size⟩ := g_law_size
  obtain ⟨fd_law_two, G_law_two, b_law_two⟩ := g_law_two
  obtain ⟨fd_law_far, G_law_far, b_law_far⟩ := g_law_far
  obtain ⟨fd_law_told, G_law_told, b_law_told⟩ := g_law_told
  obtain ⟨fd_law_state, G_law_state, b_law_state⟩ := g_law_state
  obtain ⟨fd_law_steps_right, G_law_steps_right, b_law_steps_right⟩ := g_law_steps_right
  obtain ⟨fd_law_bent_two, G_law_bent_two, b_law_bent_two⟩ := g_law_bent_two
  obtain ⟨fd_law_two_due, G_law_two_due, b_law_two_due⟩ := g_law_two_due
  obtain ⟨fd_law_met, G_law_met, b_law_met⟩ := g_law_met
  obtain ⟨fd_law_whole, G_law_whole, b_law_whole⟩ := g_law_whole
  refine F.ok sc_law (fun vs H Q E h => ?_) (fun cdv A' outer s H vs Q E hr h => ?_)
  · obtain ⟨a, ns, rfl, _⟩ := h
    rfl
  · obtain ⟨a, ns, rfl, hs, hlen, k⟩ := h
    refine ⟨_, (pss_cons (ps_set (i := 1) sc_law.nd rfl (Or.inl rfl) (pe_call G_law_bag (hr.mono (by decide)) (by rfl) T.g_law_bag T.k_law_bag b_law_bag .nil pass0 (pa_cons (pv 0) pa_nil)))
      (pss_cons (ps_set (i := 2) sc_law.nd rfl (Or.inl rfl) (pe_call G_law_two (hr.mono (by decide)) (by rfl) T.g_law_two T.k_law_two b_law_two .nil pass0 (pa_cons (pv 1) (pa_cons (pe_call G_law_size (hr.mono (by decide)) (by rfl) T.g_law_size T.k_law_size b_law_size .nil pass0 (pa_cons (pv 1) (pa_cons pe_int pa_nil))) pa_nil))))
      (pss_cons (ps_set (i := 3) sc_law.nd rfl (Or.inl rfl) (pe_ix ix_list (pv 2) pe_int (fun _ _ => rfl)))
      (pss_cons (ps_set (i := 4) sc_law.nd rfl (Or.inl rfl) (pe_ix ix_list (pv 2) pe_int (fun _ _ => rfl)))
      (pss_cons (ps_set (i := 5) sc_law.nd rfl (Or.inl rfl) (pe_call G_law_far (hr.mono (by decide)) (by rfl) T.g_law_far T.k_law_far b_law_far .nil pass0 (pa_cons (pv 3) (pa_cons (pv 4) pa_nil))))
      (pss_cons (ps_if (PW.pt (pw_or (pt_cmpR op_ne (pe_call G_law_told (hr.mono (by decide)) (by rfl) T.g_law_told T.k_law_told b_law_told .nil pass0 (pa_cons (pv 3) (pa_cons (pv 4) pa_nil))) (pv 5) (nomark _)) (pw_or1 (pt_cmpR op_ne (pe_call G_law_told (hr.mono (by decide)) (by rfl) T.g_law_told T.k_law_told b_law_told .nil pass0 (pa_cons (pv 4) (pa_cons (pv 3) pa_nil))) (pv 5) (nomark _))))) (pss_one (ps_ret pe_bl)) pss_nil)
      (pss_cons (ps_if (PW.pt (pw_or (pt_cmpR op_ne (pe_call G_law_told (hr.mono (by decide)) (by rfl) T.g_law_told T.k_law_told b_law_told .nil pass0 (pa_cons (pv 3) (pa_cons (pv 3) pa_nil))) pe_int (nomark _)) (pw_or1 (pt_cmpR op_ne (pe_cmpR op_eq (pv 5) pe_int (nomark _)) (pe_cmpR (op_eqD hr.units) (pv 3) (pv 4) (nomark _)) (nomark _))))) (pss_one (ps_ret pe_bl)) pss_nil)
      (pss_cons (ps_set (i := 6) sc_law.nd rfl (Or.inl rfl) (pe_call G_law_state (hr.mono (by decide)) (by rfl) T.g_law_state T.k_law_state b_law_state .nil pass0 (pa_cons (pv 1) (pa_cons (pe_callB call_len_seq (by rfl) T.n_len PySem.boot_len (pa_cons (pv 3) pa_nil)) pa_nil))))
      (pss_cons (ps_set (i := 7) sc_law.nd rfl (Or.inl rfl) (pe_call G_law_told (hr.mono (by decide)) (by rfl) T.g_law_told T.k_law_told b_law_told .nil pass0 (pa_cons (pv 3) (pa_cons (pv 6) pa_nil))))
      (pss_cons (ps_set (i := 8) sc_law.nd rfl (Or.inl rfl) (pe_call G_law_told (hr.mono (by decide)) (by rfl) T.g_law_told T.k_law_told b_law_told .nil pass0 (pa_cons (pv 6) (pa_cons (pv 4) pa_nil))))
      (pss_cons (ps_if (PW.pt (pw_or (pt_cmpR op_ne (pv 7) (pe_call G_law_far (hr.mono (by decide)) (by rfl) T.g_law_far T.k_law_far b_law_far .nil pass0 (pa_cons (pv 3) (pa_cons (pv 6) pa_nil))) (nomark _)) (pw_or (pt_cmpR op_ne (pv 8) (pe_call G_law_far (hr.mono (by decide)) (by rfl) T.g_law_far T.k_law_far b_law_far .nil pass0 (pa_cons (pv 6) (pa_cons (pv 4) pa_nil))) (nomark _)) (pw_or1 (pt_cmpR op_gt (pv 5) (pe_op op_add (pv 7) (pv 8)) (nomark _)))))) (pss_one (ps_ret pe_bl)) pss_nil)
      (pss_cons (ps_if (pt_not (pt_val (pe_call G_law_steps_right (hr.mono (by decide)) (by rfl) T.g_law_steps_right T.k_law_steps_right b_law_steps_right .nil pass0 (pa_cons (pv 1) (pa_cons (pv 3) (pa_cons (pv 4) (pa_cons (pv 5) pa_nil))))))) (pss_one (ps_ret pe_bl)) pss_nil)
      (pss_cons (ps_set (i := 9) sc_law.nd rfl (Or.inl rfl) (pe_call G_law_bent_two (hr.mono (by decide)) (by rfl) T.g_law_bent_two T.k_law_bent_two b_law_bent_two .nil pass0 (pa_cons (pv 1) (pa_cons (pv 3) (pa_cons (pv 4) pa_nil)))))
      (pss_cons (ps_set (i := 5) sc_law.nd rfl (Or.inl rfl) (pe_call G_law_two_due (hr.mono (by decide)) (by rfl) T.g_law_two_due T.k_law_two_due b_law_two_due .nil pass0 (pa_cons (pe_ix ix_list (pv 9) pe_int (fun _ _ => rfl)) (pa_cons (pe_ix ix_list (pv 9) pe_int (fun _ _ => rfl)) pa_nil))))
      (pss_cons (ps_set (i := 10) sc_law.nd rfl (Or.inl rfl) (pe_lst (pa_cons (pe_callTy call_list_of (by rfl) T.n_list (by decide +kernel) (pa_cons (pe_ix ix_list (pv 9) pe_int (fun _ _ => rfl)) pa_nil)) (pa_cons (pe_callTy call_list_of (by rfl) T.n_list (by decide +kernel) (pa_cons (pe_ix ix_list (pv 9) pe_int (fun _ _ => rfl)) pa_nil)) pa_nil))))
      (pss_cons (ps_set (i := 11) sc_law.nd rfl (Or.inl rfl) (pe_call G_law_met (hr.mono (by decide)) (by rfl) T.g_law_met T.k_law_met b_law_met .nil pass0 (pa_cons (pe_ix ix_list (pv 10) pe_int (fun _ _ => rfl)) (pa_cons (pe_ix ix_list (pv 10) pe_int (fun _ _ => rfl)) pa_nil))))
      (pss_cons (ps_if (pt_cmpR (op_neD hr.units) (pv 10) (pv 9) (nomark _)) (pss_one (ps_ret pe_bl)) pss_nil)
      (pss_cons (ps_if (pt_cmpR (op_eqD hr.units) (pv 5) (pe_tup pa_nil) (nomark _)) (pss_one (ps_ret (pe_and (pe_cmpR op_eq (pe_ix ix_tup (pv 11) pe_int (fun _ _ => rfl)) pe_str (nomark _)) (pe_and (pe_call G_law_whole (hr.mono (by decide)) (by rfl) T.g_law_whole T.k_law_whole b_law_whole .nil pass0 (pa_cons (pe_ix ix_tup (pv 11) pe_int (fun _ _ => rfl)) pa_nil)) (pe_one (pe_cmpR op_eq (pe_ix ix_tup (pv 11) pe_int (fun _ _ => rfl)) (pe_call G_law_far (hr.mono (by decide)) (by rfl) T.g_law_far T.k_law_far b_law_far .nil pass0 (pa_cons (pe_ix ix_list (pv 9) pe_int (fun _ _ => rfl)) (pa_cons (pe_ix ix_list (pv 9) pe_int (fun _ _ => rfl)) pa_nil))) (nomark _))))))) pss_nil)
      (pss_one (ps_ret (pe_cmpR (op_eqD hr.units) (pv 11) (pv 5) (nomark _)))))))))))))))))))))), ?_⟩
    refine ⟨_, rfl, a, ns, rfl, hs, hlen, fun b c H1 hb hc e1 B1 => ?_⟩
    refine ⟨_, rfl, _, rfl, b, c, 10, rfl, by decide, B1, fun n H2 hn B2 M2 => ?_⟩
    refine ⟨b, c, n, rfl, hn, B2, fun p u v R0 R1 H4 hp B4 M4 gp gu gv s0 s1 => ?_⟩
    refine ⟨_, rfl, p, _, _, _, rfl, rfl, SqL.of gp, atI_nat (j := 0) rfl, _, rfl, p, _, _, _, rfl, rfl, SqL.of gp, atI_nat (j := 1) rfl, ?_⟩
    have fok : ∀ {A B : List Nat}, StN A n → StN B n → faultF (toI A) (toI B) = none := fun {A B} a b => by
      obtain ⟨f0, l0⟩ := st_fault a
      obtain ⟨f1, l1⟩ := st_fault b
      unfold faultF
      rw [f0, f1]
      simp [l0, l1]
    have st : ∀ {A : List Nat}, StN A n → Sta A := fun {A} s => ⟨fun x h => by rw [s.len] at h ⊢; exact s.lt x h, fun x h => s.bk x (by rw [← s.len]; exact h)⟩
    have blx : ∀ {A B : List Nat}, StN A n → StN B n → ∃ ps, Bl A B 0 ps n ∧ ∀ q ∈ ps, PcOf A B q := fun {A B} a b => by
      obtain ⟨ps, bl, of⟩ := bl_ex (st a) (st b) (by rw [a.len, b.len])
      rw [a.len] at bl
      exact ⟨ps, bl, of⟩
    have nub := B4.neI gu.int
    have nvb := B4.neI gv.int
    obtain ⟨ps, bl, of⟩ := blx s0 s1
    obtain ⟨qs, blq, ofq⟩ := blx s1 s0
    obtain ⟨zs, blz, ofz⟩ := blx s0 s0
    have sym := dist_sym hn bl blq
    have z0 := (dist0 blz).2 rfl
    refine ⟨_, rfl, _, rfl, u, v, R0, R1, ps, n, rfl, gu, gv, bl, of, hn, fun H5 e5 => ?_⟩
    have gu5 := gu.ex e5
    have gv5 := gv.ex e5
    refine ⟨_, rfl, _, rfl, u, v, toI R0, toI R1, rfl, gu5.int, gv5.int, fok s0 s1, by rw [toI_len, s0.len]; exact hn, fun p1 b1 H6 e6 => ?_⟩
    rw [toI_nat, toI_nat, toI_len, s0.len] at b1
    rw [far_one _ (Nat.le_refl _) b1 bl]
    refine ⟨_, rfl, rfl, _, rfl, ifF (by rw [decide_eq_true rfl]; rfl) ?_⟩
    have gu6 := gu5.ex e6
    have gv6 := gv5.ex e6
    refine ⟨_, rfl, _, rfl, v, u, toI R1, toI R0, rfl, gv6.int, gu6.int, fok s1 s0, by rw [toI_len, s1.len]; exact hn, fun p2 b2 H7 e7 => ?_⟩
    rw [toI_nat, toI_nat, toI_len, s1.len] at b2
    rw [far_one _ (Nat.le_refl _) b2 blq, sym]
    refine ⟨_, rfl, rfl, _, rfl, ifF (by rw [decide_eq_true rfl]; rfl) ?_⟩
    have gu7 := gu6.ex e7
    have gv7 := gv6.ex e7
    refine ⟨_, rfl, _, rfl, u, u, toI R0, toI R0, rfl, gu7.int, gu7.int, fok s0 s0, by rw [toI_len, s0.len]; exact hn, fun p3 b3 H8 e8 => ?_⟩
    rw [toI_nat, toI_len, s0.len] at b3
    rw [far_one _ (Nat.le_refl _) b3 blz, z0]
    refine ⟨rfl, _, rfl, ifF rfl ?_⟩
    have gu8 := gu7.ex e8
    have gv8 := gv7.ex e8
    refine ⟨_, rfl, rfl, _, rfl, _, rfl, dI (toI R0), dI (toI R1), dp_I gu8.int, dp_I gv8.int, shaped_I _, shaped_I _, ?_⟩
    rw [eqv_dI]
    refine ⟨rfl, _, rfl, ifF ?_ ?_⟩
    · have e : decide (V.int ((distS ps : Nat) : Int) = V.int 0) = decide (toI R0 = toI R1) := by
        rw [decide_eq_decide]
        constructor
        · intro h
          injection h with h
          rw [(dist0 bl).1 (by omega)]
        · intro h
          have h2 := congrArg natI h
          rw [toI_nat, toI_nat] at h2
          rw [(dist0 bl).2 h2]
          rfl
      rw [e]
      exact ne_self _
    have e08 := e5.trans (e6.trans (e7.trans e8))
    have B8 := B4.ex e08
    refine ⟨_, rfl, _, rfl, u, _, rfl, .inl (SqL.of gu8), b, c, n, (by rw [nI_len, s0.len]; rfl), hn, B8, fun q R2 H9 hq B9 M9 g9 s2 => ?_⟩
    have gu9 := M9 _ _ nub gu8
    have gv9 := M9 _ _ nvb gv8
    obtain ⟨p02, bl02, of02⟩ := blx s0 s2
    obtain ⟨p21, bl21, of21⟩ := blx s2 s1
    refine ⟨_, rfl, _, rfl, u, q, toI R0, toI R2, rfl, ListN.int gu9, g9.int, fok s0 s2, by rw [toI_len, s0.len]; exact hn, fun p4 b4 H10 e10 => ?_⟩
    rw [toI_nat, toI_nat, toI_len, s0.len] at b4
    rw [far_one _ (Nat.le_refl _) b4 bl02]
    refine ⟨_, rfl, _, rfl, q, v, toI R2, toI R1, rfl, (g9.ex e10).int, ((show ListN H9 v R1 from gv9).ex e10).int, fok s2 s1, by rw [toI_len, s2.len]; exact hn, fun p5 b5 H11 e11 => ?_⟩
    rw [toI_nat, toI_nat, toI_len, s2.len] at b5
    rw [far_one _ (Nat.le_refl _) b5 bl21]
    have e911 := e10.trans e11
    refine ⟨_, rfl, _, rfl, _, rfl, u, q, R0, R2, p02, n, rfl, (show ListN H9 u R0 from gu9).ex e911, g9.ex e911, bl02, of02, hn, fun H12 e12 => ⟨rfl, _, rfl, ifF (by rw [decide_eq_true rfl]; rfl) ?_⟩⟩
    have e912 := e911.trans e12
    refine ⟨_, rfl, _, rfl, _, rfl, q, v, R2, R1, p21, n, rfl, g9.ex e912, (show ListN H9 v R1 from gv9).ex e912, bl21, of21, hn, fun H13 e13 => ⟨rfl, _, rfl, ifF (by rw [decide_eq_true rfl]; rfl) ?_⟩⟩
    have e913 := e912.trans e13
    have tri := dist_tri hn bl02 of02 bl21 bl
    refine ⟨_, rfl, _, rfl, _, rfl, _, _, rfl, rfl, _, _, rfl, rfl, _, rfl, ifF (decide_eq_false (by omega)) ?_⟩
    have gu13 := (show ListN H9 u R0 from gu9).ex e913
    have gv13 := (show ListN H9 v R1 from gv9).ex e913
    refine ⟨_, rfl, _, rfl, _, rfl, _, rfl, b, c, u, v, R0, R1, n, distS ps, rfl, B9.ex e913, gu13, nub, gv13, nvb, s0, s1, hn, fun qs bq => far_one _ (Nat.le_refl _) bl bq, fun H14 B14 M14 => ⟨_, rfl, iteF ?_⟩⟩
    have gu14 := M14 _ _ nub gu13
    have gv14 := M14 _ _ nvb gv13
    refine ⟨_, rfl, _, rfl, _, rfl, b, c, u, v, toI R0, toI R1, rfl, B14, ListN.int gu14, ListN.int gv14, by rw [toI_len, s0.len]; exact hn, by rw [toI_len, s1.len]; exact hn, fun p6 u6 v6 us ws H15 hp6 B15 M15 fp hu hv u64 v64 => ?_⟩
    clear gu gv gu5 gv5 gu6 gv6 gu7 gv7 gu8 gv8 gu9 gv9 gu13 gv13 gu14 gv14
    refine ⟨_, rfl, p6, _, _, _, rfl, rfl, SqL.of fp, atI_nat (j := 0) rfl, _, rfl, p6, _, _, _, rfl, rfl, SqL.of fp, atI_nat (j := 1) rfl, u6, v6, us, ws, rfl, hu, hv, by omega, by omega, fun t H16 e16 ht => ?_⟩
    have fp1 := e16 _ _ fp
    refine ⟨_, rfl, p6, _, _, _, rfl, rfl, SqL.of fp1, atI_nat (j := 0) rfl, u6, _, rfl, .inl (SqL.of (e16 _ _ hu)), fun q1 h1 => ?_⟩
    have w1 := Ex.new (o := .lst (us.map V.int)) h1
    have g1 : ListI (upd H16 q1 (.lst (us.map V.int))) q1 us := upd_same
    generalize upd H16 q1 (.lst (us.map V.int)) = J1 at w1 g1 ⊢
    have fp2 := w1 _ _ fp1
    have e1 := e16.trans w1
    refine ⟨_, rfl, p6, _, _, _, rfl, rfl, SqL.of fp2, atI_nat (j := 1) rfl, v6, _, rfl, .inl (SqL.of (e1 _ _ hv)), fun q2 h2 => ⟨(by show 2 ≤ sizeLine; decide), fun z hz => ?_⟩⟩
    have w2 := (Ex.new (o := .lst (ws.map V.int)) h2).trans (Ex.new (o := .lst [V.ref q1, V.ref q2]) hz)
    have gz : upd (upd J1 q2 (.lst (ws.map V.int))) z (.lst [V.ref q1, V.ref q2]) z = some (.lst [V.ref q1, V.ref q2]) := upd_same
    have g2 : ListI (upd (upd J1 q2 (.lst (ws.map V.int))) z (.lst [V.ref q1, V.ref q2])) q2 ws := (Ex.new hz) _ _ upd_same
    have g1 := w2 _ _ g1
    generalize upd (upd J1 q2 (.lst (ws.map V.int))) z (.lst [V.ref q1, V.ref q2]) = J2 at w2 gz g1 g2 ⊢
    have e2 := e1.trans w2
    have fp3 := e2 _ _ fp
    have hu3 := e2 _ _ hu
    have hv3 := e2 _ _ hv
    have ht3 := w2 _ _ (w1 _ _ ht)
    have two := d2_self us ws
    refine ⟨_, rfl, z, _, _, _, rfl, rfl, SqL.of gz, atI_nat (j := 0) rfl, _, rfl, z, _, _, _, rfl, rfl, SqL.of gz, atI_nat (j := 1) rfl, q1, q2, us, ws, rfl, g1, g2, u64, v64, (fun f hf t2 J3 e3 ht2 => ?_), fun hf bs blb ofb t2 J3 e3 ht2 => ?_⟩
    · refine ⟨_, rfl, _, rfl, d2 us ws, d2 us ws, dp_2 (e3 _ _ gz) (e3 _ _ g1) (e3 _ _ g2), dp_2 (e3 _ _ fp3) (e3 _ _ hu3) (e3 _ _ hv3), two.1, two.1, ?_⟩
      rw [two.2]
      refine ⟨_, rfl, iteF ?_⟩
      refine ⟨_, rfl, (by show 0 ≤ sizeLine; decide), fun e0 he0 => ?_⟩
      have x1 := Ex.new (o := .tup []) he0
      have fe : upd J3 e0 (.tup []) e0 = some (.tup []) := upd_same
      generalize upd J3 e0 (.tup []) = J4 at x1 fe ⊢
      have hw := wF_mem f.1
      rw [hf] at ht3
      have ht4 : J4 t = some (.tup [.str (wF f.1), .int (f.2 : Int)]) := x1 _ _ (e3 _ _ ht3)
      have sh := shaped_dW hw (f.2 : Int)
      refine ⟨dW (wF f.1) f.2, .tuple [], dp_W ht4, .tup (SqT.of fe) .nil, sh.1, rfl, ?_⟩
      rw [show PyData.eqv (dW (wF f.1) (f.2 : Int)) (.tuple []) = false from rfl]
      refine ⟨_, rfl, iteF ⟨_, rfl, _, rfl, dW (wF f.1) f.2, dW (wF f.1) f.2, dp_W (x1 _ _ ht2), dp_W ht4, sh.1, sh.1, ?_⟩⟩
      rw [sh.2]
      exact k J4
    · refine ⟨_, rfl, _, rfl, d2 us ws, d2 us ws, dp_2 (e3 _ _ gz) (e3 _ _ g1) (e3 _ _ g2), dp_2 (e3 _ _ fp3) (e3 _ _ hu3) (e3 _ _ hv3), two.1, two.1, ?_⟩
      rw [two.2]
      refine ⟨_, rfl, iteF ?_⟩
      refine ⟨_, rfl, (by show 0 ≤ sizeLine; decide), fun e0 he0 => ?_⟩
      have x1 := Ex.new (o := .tup []) he0
      have fe : upd J3 e0 (.tup []) e0 = some (.tup []) := upd_same
      generalize upd J3 e0 (.tup []) = J4 at x1 fe ⊢
      rw [hf] at ht3
      have ht4 : J4 t = some (.tup []) := x1 _ _ (e3 _ _ ht3)
      have ht5 := x1 _ _ ht2
      have e4 := e3.trans x1
      have fp5 := e4 _ _ fp3
      have hu5 : ListI J4 u6 us := e4 _ _ hu3
      have hv5 : ListI J4 v6 ws := e4 _ _ hv3
      obtain ⟨fx, fz, ll⟩ := faultF_no hf
      refine ⟨.tuple [], .tuple [], .tup (SqT.of ht4) .nil, .tup (SqT.of fe) .nil, rfl, rfl, ?_⟩
      rw [show PyData.eqv (.tuple []) (.tuple []) = true from rfl]
      refine ⟨_, rfl, iteT ⟨_, rfl, t2, _, _, _, rfl, rfl, SqT.of ht5, atI_nat (j := 0) rfl, rfl, _, rfl, ifT (decide_eq_true rfl) ⟨_, rfl, t2, _, _, _, rfl, rfl, SqT.of ht5, atI_nat (j := 1) rfl, _, rfl, _, rfl, ifT rfl ⟨_, rfl, t2, _, _, _, rfl, rfl, SqT.of ht5, atI_nat (j := 1) rfl, _, rfl, p6, _, _, _, rfl, rfl, SqL.of fp5, atI_nat (j := 0) rfl, _, rfl, p6, _, _, _, rfl, rfl, SqL.of fp5, atI_nat (j := 1) rfl, u6, v6, natI us, natI ws, bs, us.length, rfl, hu5.nat (faultS_no fx).1, hv5.nat (faultS_no fz).1, blb, ofb, u64, fun H5 e5 => ⟨rfl, ?_⟩⟩⟩⟩⟩
      rw [decide_eq_true rfl]
      exact k H5

end
end Pv
namespace Pv
open PySem L2 Evl
theorem all_mk {l : PySem.W.OpenLaw} {w : World} {K : PySem.W.Frag} {h : Heap} {mg : Str → Option Value} {fa f_check_image f_check_state f_check_pair f_parts f_part_of f_walk f_distance f_part_distance f_law_whole f_law_bag f_law_draw f_law_shuffled f_law_size f_law_state f_law_built f_law_two f_law_lots f_law_far f_law_relinked f_law_near f_law_alone f_law_refusal f_law_bent_row f_law_table_due f_law_bent_two f_law_two_due f_law_met f_law_told f_law_steps_right f_law c_MendError N_MendError_ c_InvalidImage N_InvalidImage_ i_InvalidImage c_NotState N_NotState_ i_NotState c_Busy N_Busy_ i_Busy c_UnequalSizes N_UnequalSizes_ c_InvalidChange N_InvalidChange_ : Addr}
    {od_check_image an_check_image od_check_state an_check_state od_check_pair an_check_pair od_parts an_parts od_part_of an_part_of od_walk an_walk od_distance an_distance od_part_distance an_part_distance od_law_whole an_law_whole od_law_bag an_law_bag od_law_draw an_law_draw od_law_shuffled an_law_shuffled od_law_size an_law_size od_law_state an_law_state od_law_built an_law_built od_law_two an_law_two od_law_lots an_law_lots od_law_far an_law_far od_law_relinked an_law_relinked od_law_near an_law_near od_law_alone an_law_alone od_law_refusal an_law_refusal od_law_bent_row an_law_bent_row od_law_table_due an_law_table_due od_law_bent_two an_law_bent_two od_law_two_due an_law_two_due od_law_met an_law_met od_law_told an_law_told od_law_steps_right an_law_steps_right od_law an_law dd_MendError dd_InvalidImage od_i_InvalidImage an_i_InvalidImage dd_NotState od_i_NotState an_i_NotState dd_Busy od_i_Busy an_i_Busy dd_UnequalSizes dd_InvalidChange : Option Addr}
    {sl_check_image sl_check_state sl_check_pair sl_parts sl_part_of sl_walk sl_distance sl_part_distance sl_law_whole sl_law_bag sl_law_draw sl_law_shuffled sl_law_size sl_law_state sl_law_built sl_law_two sl_law_lots sl_law_far sl_law_relinked sl_law_near sl_law_alone sl_law_refusal sl_law_bent_row sl_law_table_due sl_law_bent_two sl_law_two_due sl_law_met sl_law_told sl_law_steps_right sl_law sl_i_InvalidImage sl_i_NotState sl_i_Busy : Array (Option Value)}
    {oc_check_image doc_check_image pm_check_image cd_check_image ct_check_image kV_check_image oc_check_state doc_check_state pm_check_state cd_check_state ct_check_state kV_check_state oc_check_pair doc_check_pair pm_check_pair cd_check_pair ct_check_pair kV_check_pair oc_parts doc_parts pm_parts cd_parts ct_parts kV_parts oc_part_of doc_part_of pm_part_of cd_part_of ct_part_of kV_part_of oc_walk doc_walk pm_walk cd_walk ct_walk kV_walk oc_distance doc_distance pm_distance cd_distance ct_distance kV_distance oc_part_distance doc_part_distance pm_part_distance cd_part_distance ct_part_distance kV_part_distance oc_law_whole doc_law_whole pm_law_whole cd_law_whole ct_law_whole kV_law_whole oc_law_bag doc_law_bag pm_law_bag cd_law_bag ct_law_bag kV_law_bag oc_law_draw doc_law_draw pm_law_draw cd_law_draw ct_law_draw kV_law_draw oc_law_shuffled doc_law_shuffled pm_law_shuffled cd_law_shuffled ct_law_shuffled kV_law_shuffled oc_law_size doc_law_size pm_law_size cd_law_size ct_law_size kV_law_size oc_law_state doc_law_state pm_law_state cd_law_state ct_law_state kV_law_state oc_law_built doc_law_built pm_law_built cd_law_built ct_law_built kV_law_built oc_law_two doc_law_two pm_law_two cd_law_two ct_law_two kV_law_two oc_law_lots doc_law_lots pm_law_lots cd_law_lots ct_law_lots kV_law_lots oc_law_far doc_law_far pm_law_far cd_law_far ct_law_far kV_law_far oc_law_relinked doc_law_relinked pm_law_relinked cd_law_relinked ct_law_relinked kV_law_relinked oc_law_near doc_law_near pm_law_near cd_law_near ct_law_near kV_law_near oc_law_alone doc_law_alone pm_law_alone cd_law_alone ct_law_alone kV_law_alone oc_law_refusal doc_law_refusal pm_law_refusal cd_law_refusal ct_law_refusal kV_law_refusal oc_law_bent_row doc_law_bent_row pm_law_bent_row cd_law_bent_row ct_law_bent_row kV_law_bent_row oc_law_table_due doc_law_table_due pm_law_table_due cd_law_table_due ct_law_table_due kV_law_table_due oc_law_bent_two doc_law_bent_two pm_law_bent_two cd_law_bent_two ct_law_bent_two kV_law_bent_two oc_law_two_due doc_law_two_due pm_law_two_due cd_law_two_due ct_law_two_due kV_law_two_due oc_law_met doc_law_met pm_law_met cd_law_met ct_law_met kV_law_met oc_law_told doc_law_told pm_law_told cd_law_told ct_law_told kV_law_told oc_law_steps_right doc_law_steps_right pm_law_steps_right cd_law_steps_right ct_law_steps_right kV_law_steps_right oc_law doc_law pm_law cd_law ct_law kV_law oc_i_InvalidImage kV_i_InvalidImage doc_i_InvalidImage pm_i_InvalidImage cd_i_InvalidImage ct_i_InvalidImage oc_i_NotState kV_i_NotState doc_i_NotState pm_i_NotState cd_i_NotState ct_i_NotState oc_i_Busy kV_i_Busy doc_i_Busy pm_i_Busy cd_i_Busy ct_i_Busy : Value}
    {nm_MendError q_MendError nm_InvalidImage q_InvalidImage nm_NotState q_NotState nm_Busy q_Busy nm_UnequalSizes q_UnequalSizes nm_InvalidChange q_InvalidChange : Str}
    {bs_MendError sub_MendError bm_MendError bs_InvalidImage sub_InvalidImage bs_NotState sub_NotState bs_Busy sub_Busy bs_UnequalSizes sub_UnequalSizes bs_InvalidChange sub_InvalidChange : List Value}
    {sn_MendError sn_InvalidImage sn_NotState sn_Busy sn_UnequalSizes sn_InvalidChange : List Str}
    {ab_MendError ab_InvalidImage ab_NotState ab_Busy ab_UnequalSizes ab_InvalidChange : Bool}
    {col_MendError col_InvalidImage col_NotState col_Busy col_UnequalSizes col_InvalidChange : Option Bool}
    {k0_MendError k1_MendError k2_MendError k3_MendError k5_MendError k0_InvalidImage k1_InvalidImage k2_InvalidImage k3_InvalidImage k5_InvalidImage k0_NotState k1_NotState k2_NotState k3_NotState k5_NotState k0_Busy k1_Busy k2_Busy k3_Busy k5_Busy k0_UnequalSizes k1_UnequalSizes k2_UnequalSizes k3_UnequalSizes k5_UnequalSizes k0_InvalidChange k1_InvalidChange k2_InvalidChange k3_InvalidChange k5_InvalidChange : Option Value}
    (X : K.In h) (G : h.Ns mainGlobals mg) (hfa : mg "law" = some (.ref fa))
    (a_check_image : PySem.W.nsIn K mainGlobals "check_image" = some (some (.ref f_check_image)))
    (l_check_image : K.lookup f_check_image = some ⟨oc_check_image, od_check_image, .func (PySem.W.fnOf "check_image" "check_image" (defArgs s_check_image) (defBody s_check_image) (defScope s_check_image) .none kV_check_image doc_check_image pm_check_image an_check_image cd_check_image ct_check_image), sl_check_image⟩)
    (cd_is_check_image : PySem.W.codeIn K cd_check_image "check_image" = true)
    (k_check_image : PySem.W.keepIn K (.ref f_check_image) = true)
    (a_check_state : PySem.W.nsIn K mainGlobals "check_state" = some (some (.ref f_check_state)))
    (l_check_state : K.lookup f_check_state = some ⟨oc_check_state, od_check_state, .func (PySem.W.fnOf "check_state" "check_state" (defArgs s_check_state) (defBody s_check_state) (defScope s_check_state) .none kV_check_state doc_check_state pm_check_state an_check_state cd_check_state ct_check_state), sl_check_state⟩)
    (cd_is_check_state : PySem.W.codeIn K cd_check_state "check_state" = true)
    (k_check_state : PySem.W.keepIn K (.ref f_check_state) = true)
    (a_check_pair : PySem.W.nsIn K mainGlobals "check_pair" = some (some (.ref f_check_pair)))
    (l_check_pair : K.lookup f_check_pair = some ⟨oc_check_pair, od_check_pair, .func (PySem.W.fnOf "check_pair" "check_pair" (defArgs s_check_pair) (defBody s_check_pair) (defScope s_check_pair) .none kV_check_pair doc_check_pair pm_check_pair an_check_pair cd_check_pair ct_check_pair), sl_check_pair⟩)
    (cd_is_check_pair : PySem.W.codeIn K cd_check_pair "check_pair" = true)
    (k_check_pair : PySem.W.keepIn K (.ref f_check_pair) = true)
    (a_parts : PySem.W.nsIn K mainGlobals "parts" = some (some (.ref f_parts)))
    (l_parts : K.lookup f_parts = some ⟨oc_parts, od_parts, .func (PySem.W.fnOf "parts" "parts" (defArgs s_parts) (defBody s_parts) (defScope s_parts) .none kV_parts doc_parts pm_parts an_parts cd_parts ct_parts), sl_parts⟩)
    (cd_is_parts : PySem.W.codeIn K cd_parts "parts" = true)
    (k_parts : PySem.W.keepIn K (.ref f_parts) = true)
    (a_part_of : PySem.W.nsIn K mainGlobals "_part_of" = some (some (.ref f_part_of)))
    (l_part_of : K.lookup f_part_of = some ⟨oc_part_of, od_part_of, .func (PySem.W.fnOf "_part_of" "_part_of" (defArgs s_part_of) (defBody s_part_of) (defScope s_part_of) .none kV_part_of doc_part_of pm_part_of an_part_of cd_part_of ct_part_of), sl_part_of⟩)
    (cd_is_part_of : PySem.W.codeIn K cd_part_of "_part_of" = true)
    (k_part_of : PySem.W.keepIn K (.ref f_part_of) = true)
    (a_walk : PySem.W.nsIn K mainGlobals "_walk" = some (some (.ref f_walk)))
    (l_walk : K.lookup f_walk = some ⟨oc_walk, od_walk, .func (PySem.W.fnOf "_walk" "_walk" (defArgs s_walk) (defBody s_walk) (defScope s_walk) .none kV_walk doc_walk pm_walk an_walk cd_walk ct_walk), sl_walk⟩)
    (cd_is_walk : PySem.W.codeIn K cd_walk "_walk" = true)
    (k_walk : PySem.W.keepIn K (.ref f_walk) = true)
    (a_distance : PySem.W.nsIn K mainGlobals "distance" = some (some (.ref f_distance)))
    (l_distance : K.lookup f_distance = some ⟨oc_distance, od_distance, .func (PySem.W.fnOf "distance" "distance" (defArgs s_distance) (defBody s_distance) (defScope s_distance) .none kV_distance doc_distance pm_distance an_distance cd_distance ct_distance), sl_distance⟩)
    (cd_is_distance : PySem.W.codeIn K cd_distance "distance" = true)
    (k_distance : PySem.W.keepIn K (.ref f_distance) = true)
    (a_part_distance : PySem.W.nsIn K mainGlobals "_part_distance" = some (some (.ref f_part_distance)))
    (l_part_distance : K.lookup f_part_distance = some ⟨oc_part_distance, od_part_distance, .func (PySem.W.fnOf "_part_distance" "_part_distance" (defArgs s_part_distance) (defBody s_part_distance) (defScope s_part_distance) .none kV_part_distance doc_part_distance pm_part_distance an_part_distance cd_part_distance ct_part_distance), sl_part_distance⟩)
    (cd_is_part_distance : PySem.W.codeIn K cd_part_distance "_part_distance" = true)
    (k_part_distance : PySem.W.keepIn K (.ref f_part_distance) = true)
    (a_law_whole : PySem.W.nsIn K mainGlobals "_law_whole" = some (some (.ref f_law_whole)))
    (l_law_whole : K.lookup f_law_whole = some ⟨oc_law_whole, od_law_whole, .func (PySem.W.fnOf "_law_whole" "_law_whole" (defArgs s_law_whole) (defBody s_law_whole) (defScope s_law_whole) .none kV_law_whole doc_law_whole pm_law_whole an_law_whole cd_law_whole ct_law_whole), sl_law_whole⟩)
    (cd_is_law_whole : PySem.W.codeIn K cd_law_whole "_law_whole" = true)
    (k_law_whole : PySem.W.keepIn K (.ref f_law_whole) = true)
    (a_law_bag : PySem.W.nsIn K mainGlobals "_law_bag" = some (some (.ref f_law_bag)))
    (l_law_bag : K.lookup f_law_bag = some ⟨oc_law_bag, od_law_bag, .func (PySem.W.fnOf "_law_bag" "_law_bag" (defArgs s_law_bag) (defBody s_law_bag) (defScope s_law_bag) .none kV_law_bag doc_law_bag pm_law_bag an_law_bag cd_law_bag ct_law_bag), sl_law_bag⟩)
    (cd_is_law_bag : PySem.W.codeIn K cd_law_bag "_law_bag" = true)
    (k_law_bag : PySem.W.keepIn K (.ref f_law_bag) = true)
    (a_law_draw : PySem.W.nsIn K mainGlobals "_law_draw" = some (some (.ref f_law_draw)))
    (l_law_draw : K.lookup f_law_draw = some ⟨oc_law_draw, od_law_draw, .func (PySem.W.fnOf "_law_draw" "_law_draw" (defArgs s_law_draw) (defBody s_law_draw) (defScope s_law_draw) .none kV_law_draw doc_law_draw pm_law_draw an_law_draw cd_law_draw ct_law_draw), sl_law_draw⟩)
    (cd_is_law_draw : PySem.W.codeIn K cd_law_draw "_law_draw" = true)
    (k_law_draw : PySem.W.keepIn K (.ref f_law_draw) = true)
    (a_law_shuffled : PySem.W.nsIn K mainGlobals "_law_shuffled" = some (some (.ref f_law_shuffled)))
    (l_law_shuffled : K.lookup f_law_shuffled = some ⟨oc_law_shuffled, od_law_shuffled, .func (PySem.W.fnOf "_law_shuffled" "_law_shuffled" (defArgs s_law_shuffled) (defBody s_law_shuffled) (defScope s_law_shuffled) .none kV_law_shuffled doc_law_shuffled pm_law_shuffled an_law_shuffled cd_law_shuffled ct_law_shuffled), sl_law_shuffled⟩)
    (cd_is_law_shuffled : PySem.W.codeIn K cd_law_shuffled "_law_shuffled" = true)
    (k_law_shuffled : PySem.W.keepIn K (.ref f_law_shuffled) = true)
    (a_law_size : PySem.W.nsIn K mainGlobals "_law_size" = some (some (.ref f_law_size)))
    (l_law_size : K.lookup f_law_size = some ⟨oc_law_size, od_law_size, .func (PySem.W.fnOf "_law_size" "_law_size" (defArgs s_law_size) (defBody s_law_size) (defScope s_law_size) .none kV_law_size doc_law_size pm_law_size an_law_size cd_law_size ct_law_size), sl_law_size⟩)
    (cd_is_law_size : PySem.W.codeIn K cd_law_size "_law_size" = true)
    (k_law_size : PySem.W.keepIn K (.ref f_law_size) = true)
    (a_law_state : PySem.W.nsIn K mainGlobals "_law_state" = some (some (.ref f_law_state)))
    (l_law_state : K.lookup f_law_state = some ⟨oc_law_state, od_law_state, .func (PySem.W.fnOf "_law_state" "_law_state" (defArgs s_law_state) (defBody s_law_state) (defScope s_law_state) .none kV_law_state doc_law_state pm_law_state an_law_state cd_law_state ct_law_state), sl_law_state⟩)
    (cd_is_law_state : PySem.W.codeIn K cd_law_state "_law_state" = true)
    (k_law_state : PySem.W.keepIn K (.ref f_law_state) = true)
    (a_law_built : PySem.W.nsIn K mainGlobals "_law_built" = some (some (.ref f_law_built)))
    (l_law_built : K.lookup f_law_built = some ⟨oc_law_built, od_law_built, .func (PySem.W.fnOf "_law_built" "_law_built" (defArgs s_law_built) (defBody s_law_built) (defScope s_law_built) .none kV_law_built doc_law_built pm_law_built an_law_built cd_law_built ct_law_built), sl_law_built⟩)
    (cd_is_law_built : PySem.W.codeIn K cd_law_built "_law_built" = true)
    (k_law_built : PySem.W.keepIn K (.ref f_law_built) = true)
    (a_law_two : PySem.W.nsIn K mainGlobals "_law_two" = some (some (.ref f_law_two)))
    (l_law_two : K.lookup f_law_two = some ⟨oc_law_two, od_law_two, .func (PySem.W.fnOf "_law_two" "_law_two" (defArgs s_law_two) (defBody s_law_two) (defScope s_law_two) .none kV_law_two doc_law_two pm_law_two an_law_two cd_law_two ct_law_two), sl_law_two⟩)
    (cd_is_law_two : PySem.W.codeIn K cd_law_two "_law_two" = true)
    (k_law_two : PySem.W.keepIn K (.ref f_law_two) = true)
    (a_law_lots : PySem.W.nsIn K mainGlobals "_law_lots" = some (some (.ref f_law_lots)))
    (l_law_lots : K.lookup f_law_lots = some ⟨oc_law_lots, od_law_lots, .func (PySem.W.fnOf "_law_lots" "_law_lots" (defArgs s_law_lots) (defBody s_law_lots) (defScope s_law_lots) .none kV_law_lots doc_law_lots pm_law_lots an_law_lots cd_law_lots ct_law_lots), sl_law_lots⟩)
    (cd_is_law_lots : PySem.W.codeIn K cd_law_lots "_law_lots" = true)
    (k_law_lots : PySem.W.keepIn K (.ref f_law_lots) = true)
    (a_law_far : PySem.W.nsIn K mainGlobals "_law_far" = some (some (.ref f_law_far)))
    (l_law_far : K.lookup f_law_far = some ⟨oc_law_far, od_law_far, .func (PySem.W.fnOf "_law_far" "_law_far" (defArgs s_law_far) (defBody s_law_far) (defScope s_law_far) .none kV_law_far doc_law_far pm_law_far an_law_far cd_law_far ct_law_far), sl_law_far⟩)
    (cd_is_law_far : PySem.W.codeIn K cd_law_far "_law_far" = true)
    (k_law_far : PySem.W.keepIn K (.ref f_law_far) = true)
    (a_law_relinked : PySem.W.nsIn K mainGlobals "_law_relinked" = some (some (.ref f_law_relinked)))
    (l_law_relinked : K.lookup f_law_relinked = some ⟨oc_law_relinked, od_law_relinked, .func (PySem.W.fnOf "_law_relinked" "_law_relinked" (defArgs s_law_relinked) (defBody s_law_relinked) (defScope s_law_relinked) .none kV_law_relinked doc_law_relinked pm_law_relinked an_law_relinked cd_law_relinked ct_law_relinked), sl_law_relinked⟩)
    (cd_is_law_relinked : PySem.W.codeIn K cd_law_relinked "_law_relinked" = true)
    (k_law_relinked : PySem.W.keepIn K (.ref f_law_relinked) = true)
    (a_law_near : PySem.W.nsIn K mainGlobals "_law_near" = some (some (.ref f_law_near)))
    (l_law_near : K.lookup f_law_near = some ⟨oc_law_near, od_law_near, .func (PySem.W.fnOf "_law_near" "_law_near" (defArgs s_law_near) (defBody s_law_near) (defScope s_law_near) .none kV_law_near doc_law_near pm_law_near an_law_near cd_law_near ct_law_near), sl_law_near⟩)
    (cd_is_law_near : PySem.W.codeIn K cd_law_near "_law_near" = true)
    (k_law_near : PySem.W.keepIn K (.ref f_law_near) = true)
    (a_law_alone : PySem.W.nsIn K mainGlobals "_law_alone" = some (some (.ref f_law_alone)))
    (l_law_alone : K.lookup f_law_alone = some ⟨oc_law_alone, od_law_alone, .func (PySem.W.fnOf "_law_alone" "_law_alone" (defArgs s_law_alone) (defBody s_law_alone) (defScope s_law_alone) .none kV_law_alone doc_law_alone pm_law_alone an_law_alone cd_law_alone ct_law_alone), sl_law_alone⟩)
    (cd_is_law_alone : PySem.W.codeIn K cd_law_alone "_law_alone" = true)
    (k_law_alone : PySem.W.keepIn K (.ref f_law_alone) = true)
    (a_law_refusal : PySem.W.nsIn K mainGlobals "_law_refusal" = some (some (.ref f_law_refusal)))
    (l_law_refusal : K.lookup f_law_refusal = some ⟨oc_law_refusal, od_law_refusal, .func (PySem.W.fnOf "_law_refusal" "_law_refusal" (defArgs s_law_refusal) (defBody s_law_refusal) (defScope s_law_refusal) .none kV_law_refusal doc_law_refusal pm_law_refusal an_law_refusal cd_law_refusal ct_law_refusal), sl_law_refusal⟩)
    (cd_is_law_refusal : PySem.W.codeIn K cd_law_refusal "_law_refusal" = true)
    (k_law_refusal : PySem.W.keepIn K (.ref f_law_refusal) = true)
    (a_law_bent_row : PySem.W.nsIn K mainGlobals "_law_bent_row" = some (some (.ref f_law_bent_row)))
    (l_law_bent_row : K.lookup f_law_bent_row = some ⟨oc_law_bent_row, od_law_bent_row, .func (PySem.W.fnOf "_law_bent_row" "_law_bent_row" (defArgs s_law_bent_row) (defBody s_law_bent_row) (defScope s_law_bent_row) .none kV_law_bent_row doc_law_bent_row pm_law_bent_row an_law_bent_row cd_law_bent_row ct_law_bent_row), sl_law_bent_row⟩)
    (cd_is_law_bent_row : PySem.W.codeIn K cd_law_bent_row "_law_bent_row" = true)
    (k_law_bent_row : PySem.W.keepIn K (.ref f_law_bent_row) = true)
    (a_law_table_due : PySem.W.nsIn K mainGlobals "_law_table_due" = some (some (.ref f_law_table_due)))
    (l_law_table_due : K.lookup f_law_table_due = some ⟨oc_law_table_due, od_law_table_due, .func (PySem.W.fnOf "_law_table_due" "_law_table_due" (defArgs s_law_table_due) (defBody s_law_table_due) (defScope s_law_table_due) .none kV_law_table_due doc_law_table_due pm_law_table_due an_law_table_due cd_law_table_due ct_law_table_due), sl_law_table_due⟩)
    (cd_is_law_table_due : PySem.W.codeIn K cd_law_table_due "_law_table_due" = true)
    (k_law_table_due : PySem.W.keepIn K (.ref f_law_table_due) = true)
    (a_law_bent_two : PySem.W.nsIn K mainGlobals "_law_bent_two" = some (some (.ref f_law_bent_two)))
    (l_law_bent_two : K.lookup f_law_bent_two = some ⟨oc_law_bent_two, od_law_bent_two, .func (PySem.W.fnOf "_law_bent_two" "_law_bent_two" (defArgs s_law_bent_two) (defBody s_law_bent_two) (defScope s_law_bent_two) .none kV_law_bent_two doc_law_bent_two pm_law_bent_two an_law_bent_two cd_law_bent_two ct_law_bent_two), sl_law_bent_two⟩)
    (cd_is_law_bent_two : PySem.W.codeIn K cd_law_bent_two "_law_bent_two" = true)
    (k_law_bent_two : PySem.W.keepIn K (.ref f_law_bent_two) = true)
    (a_law_two_due : PySem.W.nsIn K mainGlobals "_law_two_due" = some (some (.ref f_law_two_due)))
    (l_law_two_due : K.lookup f_law_two_due = some ⟨oc_law_two_due, od_law_two_due, .func (PySem.W.fnOf "_law_two_due" "_law_two_due" (defArgs s_law_two_due) (defBody s_law_two_due) (defScope s_law_two_due) .none kV_law_two_due doc_law_two_due pm_law_two_due an_law_two_due cd_law_two_due ct_law_two_due), sl_law_two_due⟩)
    (cd_is_law_two_due : PySem.W.codeIn K cd_law_two_due "_law_two_due" = true)
    (k_law_two_due : PySem.W.keepIn K (.ref f_law_two_due) = true)
    (a_law_met : PySem.W.nsIn K mainGlobals "_law_met" = some (some (.ref f_law_met)))
    (l_law_met : K.lookup f_law_met = some ⟨oc_law_met, od_law_met, .func (PySem.W.fnOf "_law_met" "_law_met" (defArgs s_law_met) (defBody s_law_met) (defScope s_law_met) .none kV_law_met doc_law_met pm_law_met an_law_met cd_law_met ct_law_met), sl_law_met⟩)
    (cd_is_law_met : PySem.W.codeIn K cd_law_met "_law_met" = true)
    (k_law_met : PySem.W.keepIn K (.ref f_law_met) = true)
    (a_law_told : PySem.W.nsIn K mainGlobals "_law_told" = some (some (.ref f_law_told)))
    (l_law_told : K.lookup f_law_told = some ⟨oc_law_told, od_law_told, .func (PySem.W.fnOf "_law_told" "_law_told" (defArgs s_law_told) (defBody s_law_told) (defScope s_law_told) .none kV_law_told doc_law_told pm_law_told an_law_told cd_law_told ct_law_told), sl_law_told⟩)
    (cd_is_law_told : PySem.W.codeIn K cd_law_told "_law_told" = true)
    (k_law_told : PySem.W.keepIn K (.ref f_law_told) = true)
    (a_law_steps_right : PySem.W.nsIn K mainGlobals "_law_steps_right" = some (some (.ref f_law_steps_right)))
    (l_law_steps_right : K.lookup f_law_steps_right = some ⟨oc_law_steps_right, od_law_steps_right, .func (PySem.W.fnOf "_law_steps_right" "_law_steps_right" (defArgs s_law_steps_right) (defBody s_law_steps_right) (defScope s_law_steps_right) .none kV_law_steps_right doc_law_steps_right pm_law_steps_right an_law_steps_right cd_law_steps_right ct_law_steps_right), sl_law_steps_right⟩)
    (cd_is_law_steps_right : PySem.W.codeIn K cd_law_steps_right "_law_steps_right" = true)
    (k_law_steps_right : PySem.W.keepIn K (.ref f_law_steps_right) = true)
    (a_law : PySem.W.nsIn K mainGlobals "law" = some (some (.ref f_law)))
    (l_law : K.lookup f_law = some ⟨oc_law, od_law, .func (PySem.W.fnOf "law" "law" (defArgs s_law) (defBody s_law) (defScope s_law) .none kV_law doc_law pm_law an_law cd_law ct_law), sl_law⟩)
    (cd_is_law : PySem.W.codeIn K cd_law "law" = true)
    (k_law : PySem.W.keepIn K (.ref f_law) = true)
    (a_MendError : PySem.W.nsIn K mainGlobals "MendError" = some (some (.ref c_MendError)))
    (x_MendError : K.lookup c_MendError = some (excClassObj nm_MendError q_MendError c_MendError N_MendError_ bs_MendError bm_MendError true sn_MendError sub_MendError ab_MendError col_MendError dd_MendError k0_MendError k1_MendError k2_MendError k3_MendError k5_MendError "ValueError.__new__"))
    (a_InvalidImage : PySem.W.nsIn K mainGlobals "InvalidImage" = some (some (.ref c_InvalidImage)))
    (x_InvalidImage : K.lookup c_InvalidImage = some (excClassObj nm_InvalidImage q_InvalidImage c_InvalidImage N_InvalidImage_ bs_InvalidImage [.ref c_MendError, .type "ValueError", .type "Exception", .type "BaseException", .type "object"] true sn_InvalidImage sub_InvalidImage ab_InvalidImage col_InvalidImage dd_InvalidImage k0_InvalidImage k1_InvalidImage k2_InvalidImage k3_InvalidImage k5_InvalidImage "ValueError.__new__"))
    (kc_InvalidImage : PySem.W.keepIn K (.ref c_InvalidImage) = true)
    (sa_InvalidImage : PySem.W.findIn K (.ref c_InvalidImage) "__setattr__" = some (some (.builtin "object.__setattr__")))
    (ga_InvalidImage : PySem.W.findIn K (.ref c_InvalidImage) "__getattribute__" = some (some (.builtin "BaseException.__getattribute__")))
    (gg_InvalidImage : PySem.W.findIn K (.ref c_InvalidImage) "__getattr__" = some none)
    (ca_InvalidImage : PySem.W.findIn K (.ref c_InvalidImage) "__class__" = some (some (.builtin "object.__class__")))
    (i_is_InvalidImage : PySem.W.findIn K (.ref c_InvalidImage) "__init__" = some (some (.ref i_InvalidImage)))
    (t_InvalidImage : PySem.W.typeIn K (.ref i_InvalidImage) = some (.type "function"))
    (nf_InvalidImage : PySem.W.findIn K (.ref c_InvalidImage) "record" = some none)
    (l_i_InvalidImage : K.lookup i_InvalidImage = some ⟨oc_i_InvalidImage, od_i_InvalidImage, .func (PySem.W.fnOf "__init__" "InvalidImage.__init__" (defArgs s_InvalidImage) (defBody s_InvalidImage) (defScope s_InvalidImage) .none kV_i_InvalidImage doc_i_InvalidImage pm_i_InvalidImage an_i_InvalidImage cd_i_InvalidImage ct_i_InvalidImage), sl_i_InvalidImage⟩)
    (cd_is_i_InvalidImage : PySem.W.codeIn K cd_i_InvalidImage "InvalidImage.__init__" = true)
    (k_i_InvalidImage : PySem.W.keepIn K (.ref i_InvalidImage) = true)
    (a_NotState : PySem.W.nsIn K mainGlobals "NotState" = some (some (.ref c_NotState)))
    (x_NotState : K.lookup c_NotState = some (excClassObj nm_NotState q_NotState c_NotState N_NotState_ bs_NotState [.ref c_MendError, .type "ValueError", .type "Exception", .type "BaseException", .type "object"] true sn_NotState sub_NotState ab_NotState col_NotState dd_NotState k0_NotState k1_NotState k2_NotState k3_NotState k5_NotState "ValueError.__new__"))
    (kc_NotState : PySem.W.keepIn K (.ref c_NotState) = true)
    (sa_NotState : PySem.W.findIn K (.ref c_NotState) "__setattr__" = some (some (.builtin "object.__setattr__")))
    (ga_NotState : PySem.W.findIn K (.ref c_NotState) "__getattribute__" = some (some (.builtin "BaseException.__getattribute__")))
    (gg_NotState : PySem.W.findIn K (.ref c_NotState) "__getattr__" = some none)
    (ca_NotState : PySem.W.findIn K (.ref c_NotState) "__class__" = some (some (.builtin "object.__class__")))
    (i_is_NotState : PySem.W.findIn K (.ref c_NotState) "__init__" = some (some (.ref i_NotState)))
    (t_NotState : PySem.W.typeIn K (.ref i_NotState) = some (.type "function"))
    (nf_NotState : PySem.W.findIn K (.ref c_NotState) "record" = some none)
    (l_i_NotState : K.lookup i_NotState = some ⟨oc_i_NotState, od_i_NotState, .func (PySem.W.fnOf "__init__" "NotState.__init__" (defArgs s_NotState) (defBody s_NotState) (defScope s_NotState) .none kV_i_NotState doc_i_NotState pm_i_NotState an_i_NotState cd_i_NotState ct_i_NotState), sl_i_NotState⟩)
    (cd_is_i_NotState : PySem.W.codeIn K cd_i_NotState "NotState.__init__" = true)
    (k_i_NotState : PySem.W.keepIn K (.ref i_NotState) = true)
    (a_Busy : PySem.W.nsIn K mainGlobals "Busy" = some (some (.ref c_Busy)))
    (x_Busy : K.lookup c_Busy = some (excClassObj nm_Busy q_Busy c_Busy N_Busy_ bs_Busy [.ref c_MendError, .type "ValueError", .type "Exception", .type "BaseException", .type "object"] true sn_Busy sub_Busy ab_Busy col_Busy dd_Busy k0_Busy k1_Busy k2_Busy k3_Busy k5_Busy "ValueError.__new__"))
    (kc_Busy : PySem.W.keepIn K (.ref c_Busy) = true)
    (sa_Busy : PySem.W.findIn K (.ref c_Busy) "__setattr__" = some (some (.builtin "object.__setattr__")))
    (ga_Busy : PySem.W.findIn K (.ref c_Busy) "__getattribute__" = some (some (.builtin "BaseException.__getattribute__")))
    (gg_Busy : PySem.W.findIn K (.ref c_Busy) "__getattr__" = some none)
    (ca_Busy : PySem.W.findIn K (.ref c_Busy) "__class__" = some (some (.builtin "object.__class__")))
    (i_is_Busy : PySem.W.findIn K (.ref c_Busy) "__init__" = some (some (.ref i_Busy)))
    (t_Busy : PySem.W.typeIn K (.ref i_Busy) = some (.type "function"))
    (nf_Busy : PySem.W.findIn K (.ref c_Busy) "record" = some none)
    (l_i_Busy : K.lookup i_Busy = some ⟨oc_i_Busy, od_i_Busy, .func (PySem.W.fnOf "__init__" "Busy.__init__" (defArgs s_Busy) (defBody s_Busy) (defScope s_Busy) .none kV_i_Busy doc_i_Busy pm_i_Busy an_i_Busy cd_i_Busy ct_i_Busy), sl_i_Busy⟩)
    (cd_is_i_Busy : PySem.W.codeIn K cd_i_Busy "Busy.__init__" = true)
    (k_i_Busy : PySem.W.keepIn K (.ref i_Busy) = true)
    (a_UnequalSizes : PySem.W.nsIn K mainGlobals "UnequalSizes" = some (some (.ref c_UnequalSizes)))
    (x_UnequalSizes : K.lookup c_UnequalSizes = some (excClassObj nm_UnequalSizes q_UnequalSizes c_UnequalSizes N_UnequalSizes_ bs_UnequalSizes [.ref c_MendError, .type "ValueError", .type "Exception", .type "BaseException", .type "object"] true sn_UnequalSizes sub_UnequalSizes ab_UnequalSizes col_UnequalSizes dd_UnequalSizes k0_UnequalSizes k1_UnequalSizes k2_UnequalSizes k3_UnequalSizes k5_UnequalSizes "ValueError.__new__"))
    (kc_UnequalSizes : PySem.W.keepIn K (.ref c_UnequalSizes) = true)
    (sa_UnequalSizes : PySem.W.findIn K (.ref c_UnequalSizes) "__setattr__" = some (some (.builtin "object.__setattr__")))
    (ga_UnequalSizes : PySem.W.findIn K (.ref c_UnequalSizes) "__getattribute__" = some (some (.builtin "BaseException.__getattribute__")))
    (gg_UnequalSizes : PySem.W.findIn K (.ref c_UnequalSizes) "__getattr__" = some none)
    (ca_UnequalSizes : PySem.W.findIn K (.ref c_UnequalSizes) "__class__" = some (some (.builtin "object.__class__")))
    (q_is_UnequalSizes : PySem.W.excIn K c_UnequalSizes [.type "ValueError", .type "Exception", .type "BaseException", .type "object"] "ValueError.__new__" = true)
    (a_InvalidChange : PySem.W.nsIn K mainGlobals "InvalidChange" = some (some (.ref c_InvalidChange)))
    (x_InvalidChange : K.lookup c_InvalidChange = some (excClassObj nm_InvalidChange q_InvalidChange c_InvalidChange N_InvalidChange_ bs_InvalidChange [.ref c_MendError, .type "ValueError", .type "Exception", .type "BaseException", .type "object"] true sn_InvalidChange sub_InvalidChange ab_InvalidChange col_InvalidChange dd_InvalidChange k0_InvalidChange k1_InvalidChange k2_InvalidChange k3_InvalidChange k5_InvalidChange "ValueError.__new__"))
    (kc_InvalidChange : PySem.W.keepIn K (.ref c_InvalidChange) = true)
    (sa_InvalidChange : PySem.W.findIn K (.ref c_InvalidChange) "__setattr__" = some (some (.builtin "object.__setattr__")))
    (ga_InvalidChange : PySem.W.findIn K (.ref c_InvalidChange) "__getattribute__" = some (some (.builtin "BaseException.__getattribute__")))
    (gg_InvalidChange : PySem.W.findIn K (.ref c_InvalidChange) "__getattr__" = some none)
    (ca_InvalidChange : PySem.W.findIn K (.ref c_InvalidChange) "__class__" = some (some (.builtin "object.__class__")))
    (q_is_InvalidChange : PySem.W.excIn K c_InvalidChange [.type "ValueError", .type "Exception", .type "BaseException", .type "object"] "ValueError.__new__" = true)
    (cn : PySem.W.specialIn K (.builtin "object.__class__") "__get__" = some (some (.builtin "getset_descriptor.__get__")))
    (ct : PySem.W.takesIn K (.builtin "object.__class__") = some true)
    (nd : [c_MendError, c_InvalidImage, c_NotState, c_Busy, c_UnequalSizes, c_InvalidChange].Nodup)
    (z_ValueError : PySem.W.nsIn K mainGlobals "ValueError" = some none)
    (z_int : PySem.W.nsIn K mainGlobals "int" = some none)
    (z_bool : PySem.W.nsIn K mainGlobals "bool" = some none)
    (z_str : PySem.W.nsIn K mainGlobals "str" = some none)
    (z_list : PySem.W.nsIn K mainGlobals "list" = some none)
    (z_tuple : PySem.W.nsIn K mainGlobals "tuple" = some none)
    (z_len : PySem.W.nsIn K mainGlobals "len" = some none)
    (z_range : PySem.W.nsIn K mainGlobals "range" = some none)
    (z_enumerate : PySem.W.nsIn K mainGlobals "enumerate" = some none)
    (z_isinstance : PySem.W.nsIn K mainGlobals "isinstance" = some none)
    (z_min : PySem.W.nsIn K mainGlobals "min" = some none)
    (z_abs : PySem.W.nsIn K mainGlobals "abs" = some none)
    (z_sorted : PySem.W.nsIn K mainGlobals "sorted" = some none)
    (z_all : PySem.W.nsIn K mainGlobals "all" = some none)
    (z_sum : PySem.W.nsIn K mainGlobals "sum" = some none)
    (z_zip : PySem.W.nsIn K mainGlobals "zip" = some none)
    (z_reversed : PySem.W.nsIn K mainGlobals "reversed" = some none)
    (z_max : PySem.W.nsIn K mainGlobals "max" = some none)
    (z_set : PySem.W.nsIn K mainGlobals "set" = some none)
    : ∃ fd : FuncData, (∀ (s : Shared) (v : Value), BindsTo s fd ⟨[v], []⟩ [("script", v)]) ∧ ∀ base : Heap, K.In base → base.Ns mainGlobals mg → FnOk l.prog w K mg base CX0 12 fa fd ["script"] (spLaw K) := by
  have e := hfa.symm.trans (PySem.W.mg_of X G a_law)
  cases e
  obtain ⟨A, hA⟩ : ∃ A : Ad, A = ⟨f_check_image, f_check_state, f_check_pair, f_parts, f_part_of, f_walk, f_distance, f_part_distance, f_law_whole, f_law_bag, f_law_draw, f_law_shuffled, f_law_size, f_law_state, f_law_built, f_law_two, f_law_lots, f_law_far, f_law_relinked, f_law_near, f_law_alone, f_law_refusal, f_law_bent_row, f_law_table_due, f_law_bent_two, f_law_two_due, f_law_met, f_law_told, f_law_steps_right, fa, c_MendError, c_InvalidImage, c_NotState, c_Busy, c_UnequalSizes, c_InvalidChange, i_InvalidImage, i_NotState, i_Busy⟩ := ⟨_, rfl⟩
  have T : Txt K mg A := {
    g_check_image := by rw [hA]; exact PySem.W.mg_of X G a_check_image,
    k_check_image := by rw [hA]; exact k_check_image,
    d_check_image := by rw [hA]; exact ⟨_, fun_mk (st := s_check_image) l_check_image cd_is_check_image k_check_image⟩,
    g_check_state := by rw [hA]; exact PySem.W.mg_of X G a_check_state,
    k_check_state := by rw [hA]; exact k_check_state,
    d_check_state := by rw [hA]; exact ⟨_, fun_mk (st := s_check_state) l_check_state cd_is_check_state k_check_state⟩,
    g_check_pair := by rw [hA]; exact PySem.W.mg_of X G a_check_pair,
    k_check_pair := by rw [hA]; exact k_check_pair,
    d_check_pair := by rw [hA]; exact ⟨_, fun_mk (st := s_check_pair) l_check_pair cd_is_check_pair k_check_pair⟩,
    g_parts := by rw [hA]; exact PySem.W.mg_of X G a_parts,
    k_parts := by rw [hA]; exact k_parts,
    d_parts := by rw [hA]; exact ⟨_, fun_mk (st := s_parts) l_parts cd_is_parts k_parts⟩,
    g_part_of := by rw [hA]; exact PySem.W.mg_of X G a_part_of,
    k_part_of := by rw [hA]; exact k_part_of,
    d_part_of := by rw [hA]; exact ⟨_, fun_mk (st := s_part_of) l_part_of cd_is_part_of k_part_of⟩,
    g_walk := by rw [hA]; exact PySem.W.mg_of X G a_walk,
    k_walk := by rw [hA]; exact k_walk,
    d_walk := by rw [hA]; exact ⟨_, fun_mk (st := s_walk) l_walk cd_is_walk k_walk⟩,
    g_distance := by rw [hA]; exact PySem.W.mg_of X G a_distance,
    k_distance := by rw [hA]; exact k_distance,
    d_distance := by rw [hA]; exact ⟨_, fun_mk (st := s_distance) l_distance cd_is_distance k_distance⟩,
    g_part_distance := by rw [hA]; exact PySem.W.mg_of X G a_part_distance,
    k_part_distance := by rw [hA]; exact k_part_distance,
    d_part_distance := by rw [hA]; exact ⟨_, fun_mk (st := s_part_distance) l_part_distance cd_is_part_distance k_part_distance⟩,
    g_law_whole := by rw [hA]; exact PySem.W.mg_of X G a_law_whole,
    k_law_whole := by rw [hA]; exact k_law_whole,
    d_law_whole := by rw [hA]; exact ⟨_, fun_mk (st := s_law_whole) l_law_whole cd_is_law_whole k_law_whole⟩,
    g_law_bag := by rw [hA]; exact PySem.W.mg_of X G a_law_bag,
    k_law_bag := by rw [hA]; exact k_law_bag,
    d_law_bag := by rw [hA]; exact ⟨_, fun_mk (st := s_law_bag) l_law_bag cd_is_law_bag k_law_bag⟩,
    g_law_draw := by rw [hA]; exact PySem.W.mg_of X G a_law_draw,
    k_law_draw := by rw [hA]; exact k_law_draw,
    d_law_draw := by rw [hA]; exact ⟨_, fun_mk (st := s_law_draw) l_law_draw cd_is_law_draw k_law_draw⟩,
    g_law_shuffled := by rw [hA]; exact PySem.W.mg_of X G a_law_shuffled,
    k_law_shuffled := by rw [hA]; exact k_law_shuffled,
    d_law_shuffled := by rw [hA]; exact ⟨_, fun_mk (st := s_law_shuffled) l_law_shuffled cd_is_law_shuffled k_law_shuffled⟩,
    g_law_size := by rw [hA]; exact PySem.W.mg_of X G a_law_size,
    k_law_size := by rw [hA]; exact k_law_size,
    d_law_size := by rw [hA]; exact ⟨_, fun_mk (st := s_law_size) l_law_size cd_is_law_size k_law_size⟩,
    g_law_state := by rw [hA]; exact PySem.W.mg_of X G a_law_state,
    k_law_state := by rw [hA]; exact k_law_state,
    d_law_state := by rw [hA]; exact ⟨_, fun_mk (st := s_law_state) l_law_state cd_is_law_state k_law_state⟩,
    g_law_built := by rw [hA]; exact PySem.W.mg_of X G a_law_built,
    k_law_built := by rw [hA]; exact k_law_built,
    d_law_built := by rw [hA]; exact ⟨_, fun_mk (st := s_law_built) l_law_built cd_is_law_built k_law_built⟩,
    g_law_two := by rw [hA]; exact PySem.W.mg_of X G a_law_two,
    k_law_two := by rw [hA]; exact k_law_two,
    d_law_two := by rw [hA]; exact ⟨_, fun_mk (st := s_law_two) l_law_two cd_is_law_two k_law_two⟩,
    g_law_lots := by rw [hA]; exact PySem.W.mg_of X G a_law_lots,
    k_law_lots := by rw [hA]; exact k_law_lots,
    d_law_lots := by rw [hA]; exact ⟨_, fun_mk (st := s_law_lots) l_law_lots cd_is_law_lots k_law_lots⟩,
    g_law_far := by rw [hA]; exact PySem.W.mg_of X G a_law_far,
    k_law_far := by rw [hA]; exact k_law_far,
    d_law_far := by rw [hA]; exact ⟨_, fun_mk (st := s_law_far) l_law_far cd_is_law_far k_law_far⟩,
    g_law_relinked := by rw [hA]; exact PySem.W.mg_of X G a_law_relinked,
    k_law_relinked := by rw [hA]; exact k_law_relinked,
    d_law_relinked := by rw [hA]; exact ⟨_, fun_mk (st := s_law_relinked) l_law_relinked cd_is_law_relinked k_law_relinked⟩,
    g_law_near := by rw [hA]; exact PySem.W.mg_of X G a_law_near,
    k_law_near := by rw [hA]; exact k_law_near,
    d_law_near := by rw [hA]; exact ⟨_, fun_mk (st := s_law_near) l_law_near cd_is_law_near k_law_near⟩,
    g_law_alone := by rw [hA]; exact PySem.W.mg_of X G a_law_alone,
    k_law_alone := by rw [hA]; exact k_law_alone,
    d_law_alone := by rw [hA]; exact ⟨_, fun_mk (st := s_law_alone) l_law_alone cd_is_law_alone k_law_alone⟩,
    g_law_refusal := by rw [hA]; exact PySem.W.mg_of X G a_law_refusal,
    k_law_refusal := by rw [hA]; exact k_law_refusal,
    d_law_refusal := by rw [hA]; exact ⟨_, fun_mk (st := s_law_refusal) l_law_refusal cd_is_law_refusal k_law_refusal⟩,
    g_law_bent_row := by rw [hA]; exact PySem.W.mg_of X G a_law_bent_row,
    k_law_bent_row := by rw [hA]; exact k_law_bent_row,
    d_law_bent_row := by rw [hA]; exact ⟨_, fun_mk (st := s_law_bent_row) l_law_bent_row cd_is_law_bent_row k_law_bent_row⟩,
    g_law_table_due := by rw [hA]; exact PySem.W.mg_of X G a_law_table_due,
    k_law_table_due := by rw [hA]; exact k_law_table_due,
    d_law_table_due := by rw [hA]; exact ⟨_, fun_mk (st := s_law_table_due) l_law_table_due cd_is_law_table_due k_law_table_due⟩,
    g_law_bent_two := by rw [hA]; exact PySem.W.mg_of X G a_law_bent_two,
    k_law_bent_two := by rw [hA]; exact k_law_bent_two,
    d_law_bent_two := by rw [hA]; exact ⟨_, fun_mk (st := s_law_bent_two) l_law_bent_two cd_is_law_bent_two k_law_bent_two⟩,
    g_law_two_due := by rw [hA]; exact PySem.W.mg_of X G a_law_two_due,
    k_law_two_due := by rw [hA]; exact k_law_two_due,
    d_law_two_due := by rw [hA]; exact ⟨_, fun_mk (st := s_law_two_due) l_law_two_due cd_is_law_two_due k_law_two_due⟩,
    g_law_met := by rw [hA]; exact PySem.W.mg_of X G a_law_met,
    k_law_met := by rw [hA]; exact k_law_met,
    d_law_met := by rw [hA]; exact ⟨_, fun_mk (st := s_law_met) l_law_met cd_is_law_met k_law_met⟩,
    g_law_told := by rw [hA]; exact PySem.W.mg_of X G a_law_told,
    k_law_told := by rw [hA]; exact k_law_told,
    d_law_told := by rw [hA]; exact ⟨_, fun_mk (st := s_law_told) l_law_told cd_is_law_told k_law_told⟩,
    g_law_steps_right := by rw [hA]; exact PySem.W.mg_of X G a_law_steps_right,
    k_law_steps_right := by rw [hA]; exact k_law_steps_right,
    d_law_steps_right := by rw [hA]; exact ⟨_, fun_mk (st := s_law_steps_right) l_law_steps_right cd_is_law_steps_right k_law_steps_right⟩,
    g_law := by rw [hA]; exact PySem.W.mg_of X G a_law,
    k_law := by rw [hA]; exact k_law,
    d_law := by rw [hA]; exact ⟨_, fun_mk (st := s_law) l_law cd_is_law k_law⟩,
    e_MendError := by rw [hA]; exact ⟨PySem.W.mg_of X G a_MendError, ⟨_, _, _, _, _, _, _, _, _, _, _, _, _, _, _, x_MendError⟩⟩,
    e_InvalidImage := by rw [hA]; exact ⟨PySem.W.mg_of X G a_InvalidImage, kc_InvalidImage, ⟨_, _, _, _, _, _, _, _, _, _, _, _, _, _, x_InvalidImage⟩, sa_InvalidImage, ga_InvalidImage, gg_InvalidImage, ca_InvalidImage⟩,
    f_InvalidImage := by rw [hA]; exact ⟨i_is_InvalidImage, t_InvalidImage, nf_InvalidImage, ⟨_, fun_mk (st := s_InvalidImage) l_i_InvalidImage cd_is_i_InvalidImage k_i_InvalidImage⟩⟩,
    e_NotState := by rw [hA]; exact ⟨PySem.W.mg_of X G a_NotState, kc_NotState, ⟨_, _, _, _, _, _, _, _, _, _, _, _, _, _, x_NotState⟩, sa_NotState, ga_NotState, gg_NotState, ca_NotState⟩,
    f_NotState := by rw [hA]; exact ⟨i_is_NotState, t_NotState, nf_NotState, ⟨_, fun_mk (st := s_NotState) l_i_NotState cd_is_i_NotState k_i_NotState⟩⟩,
    e_Busy := by rw [hA]; exact ⟨PySem.W.mg_of X G a_Busy, kc_Busy, ⟨_, _, _, _, _, _, _, _, _, _, _, _, _, _, x_Busy⟩, sa_Busy, ga_Busy, gg_Busy, ca_Busy⟩,
    f_Busy := by rw [hA]; exact ⟨i_is_Busy, t_Busy, nf_Busy, ⟨_, fun_mk (st := s_Busy) l_i_Busy cd_is_i_Busy k_i_Busy⟩⟩,
    e_UnequalSizes := by rw [hA]; exact ⟨PySem.W.mg_of X G a_UnequalSizes, kc_UnequalSizes, ⟨_, _, _, _, _, _, _, _, _, _, _, _, _, _, x_UnequalSizes⟩, sa_UnequalSizes, ga_UnequalSizes, gg_UnequalSizes, ca_UnequalSizes⟩,
    q_UnequalSizes := by rw [hA]; exact q_is_UnequalSizes,
    e_InvalidChange := by rw [hA]; exact ⟨PySem.W.mg_of X G a_InvalidChange, kc_InvalidChange, ⟨_, _, _, _, _, _, _, _, _, _, _, _, _, _, x_InvalidChange⟩, sa_InvalidChange, ga_InvalidChange, gg_InvalidChange, ca_InvalidChange⟩,
    q_InvalidChange := by rw [hA]; exact q_is_InvalidChange,
    cn := cn,
    ct := ct,
    nd := by rw [hA]; exact nd,
    n_ValueError := PySem.W.mg_none_of X G z_ValueError,
    n_int := PySem.W.mg_none_of X G z_int,
    n_bool := PySem.W.mg_none_of X G z_bool,
    n_str := PySem.W.mg_none_of X G z_str,
    n_list := PySem.W.mg_none_of X G z_list,
    n_tuple := PySem.W.mg_none_of X G z_tuple,
    n_len := PySem.W.mg_none_of X G z_len,
    n_range := PySem.W.mg_none_of X G z_range,
    n_enumerate := PySem.W.mg_none_of X G z_enumerate,
    n_isinstance := PySem.W.mg_none_of X G z_isinstance,
    n_min := PySem.W.mg_none_of X G z_min,
    n_abs := PySem.W.mg_none_of X G z_abs,
    n_sorted := PySem.W.mg_none_of X G z_sorted,
    n_all := PySem.W.mg_none_of X G z_all,
    n_sum := PySem.W.mg_none_of X G z_sum,
    n_zip := PySem.W.mg_none_of X G z_zip,
    n_reversed := PySem.W.mg_none_of X G z_reversed,
    n_max := PySem.W.mg_none_of X G z_max,
    n_set := PySem.W.mg_none_of X G z_set }
  have FL := fun_mk (st := s_law) l_law cd_is_law k_law
  have eL : A.law = fa := by rw [hA]
  refine ⟨PySem.W.fnOf "law" "law" (defArgs s_law) (defBody s_law) (defScope s_law) .none kV_law doc_law pm_law an_law cd_law ct_law, fun s v => .of_eq rfl, fun base _ _ => ?_⟩
  rw [← eL] at FL ⊢
  have g_law_bag := ok_law_bag (P := l.prog) (w := w) (base := base) T 
  have g_law_draw := ok_law_draw (P := l.prog) (w := w) (base := base) T 
  have g_law_shuffled := ok_law_shuffled (P := l.prog) (w := w) (base := base) T g_law_draw
  have g_law_built := ok_law_built (P := l.prog) (w := w) (base := base) T g_law_draw g_law_shuffled
  have g_law_bent_row := ok_law_bent_row (P := l.prog) (w := w) (base := base) T g_law_draw
  have g_law_bent_two := ok_law_bent_two (P := l.prog) (w := w) (base := base) T g_law_draw g_law_bent_row
  have g_Busy := ok_Busy (P := l.prog) (w := w) (base := base) T 
  have g_InvalidImage := ok_InvalidImage (P := l.prog) (w := w) (base := base) T 
  have g_NotState := ok_NotState (P := l.prog) (w := w) (base := base) T 
  have g_check_image := ok_check_image (P := l.prog) (w := w) (base := base) T g_InvalidImage
  have g_check_state := ok_check_state (P := l.prog) (w := w) (base := base) T g_check_image g_NotState
  have g_check_pair := ok_check_pair (P := l.prog) (w := w) (base := base) T g_check_state
  have g_walk := ok_walk (P := l.prog) (w := w) (base := base) T 
  have g_part_of := ok_part_of (P := l.prog) (w := w) (base := base) T g_walk
  have g_parts := ok_parts (P := l.prog) (w := w) (base := base) T g_check_pair g_part_of
  have g_part_distance := ok_part_distance (P := l.prog) (w := w) (base := base) T 
  have g_distance := ok_distance (P := l.prog) (w := w) (base := base) T g_parts g_part_distance
  have g_law_lots := ok_law_lots (P := l.prog) (w := w) (base := base) T 
  have g_law_far := ok_law_far (P := l.prog) (w := w) (base := base) T g_law_lots
  have g_law_alone := oke_law_alone (P := l.prog) (w := w) (base := base) T 
  have h_law_whole := okh_law_whole (P := l.prog) (w := w) (base := base) T 
  have g_law_refusal := oke_law_refusal (P := l.prog) (w := w) (base := base) T g_law_alone h_law_whole
  have g_law_met := ok_law_met (P := l.prog) (w := w) (base := base) T g_distance g_law_refusal
  have g_law_relinked := ok_law_relinked (P := l.prog) (w := w) (base := base) T 
  have g_law_near := ok_law_near (P := l.prog) (w := w) (base := base) T g_law_relinked
  have g_law_whole := ok_law_whole (P := l.prog) (w := w) (base := base) T 
  have g_law_told := ok_law_told (P := l.prog) (w := w) (base := base) T g_law_met g_law_whole
  have g_law_steps_right := ok_law_steps_right (P := l.prog) (w := w) (base := base) T g_law_near g_law_draw g_law_told g_law_far
  have g_law_state := ok_law_state (P := l.prog) (w := w) (base := base) T g_law_draw g_law_shuffled
  have g_law_size := ok_law_size (P := l.prog) (w := w) (base := base) T g_law_draw
  have g_law_table_due := ok_law_table_due (P := l.prog) (w := w) (base := base) T 
  have g_law_two_due := ok_law_two_due (P := l.prog) (w := w) (base := base) T g_law_table_due
  have g_law_two := ok_law_two (P := l.prog) (w := w) (base := base) T g_law_draw g_law_state g_law_built
  exact ok_law T FL g_law_bag g_law_size g_law_two g_law_far g_law_told g_law_state g_law_steps_right g_law_bent_two g_law_two_due g_law_met g_law_whole
theorem walk {l : PySem.W.OpenLaw} {q : Program} {loose : List Str} {XP : (Str → Option Value) → Heap → Prop} {YP : World → Heap → Prop} {d : DefRec} {K : Params → PySem.W.Frag} (hn : l.most = some 63) (hdf : d.params.defaults = [])
    (hY : ∀ (w : World) (h : Heap), YP w h → (K w.params).In h)
    (F : ∀ (w : World) (mg : Str → Option Value) (fa : Addr) (h : Heap), (K w.params).In h → h.Ns mainGlobals mg → mg d.name = some (.ref fa) →
      ∃ fd : FuncData, (∀ (s : Shared) (u : Value), BindsTo s fd ⟨[u], []⟩ [("script", u)]) ∧ ∀ base : Heap, (K w.params).In base → base.Ns mainGlobals mg → FnOk l.prog w (K w.params) mg base CX0 12 fa fd ["script"] (spLaw (K w.params))) :
    PySem.W.WalkO q loose XP YP l.row.toRowW d [] (fun f vs => PySem.call f vs) :=
  L2.walk_of (n := 63) (k := 12) (x := "script") (CX := fun _ => CX0) (sp := fun w => spLaw (K w.params)) hn (by decide) hdf ⟨rfl, by decide, by decide⟩ hY F (fun _ _ a ns hl _ hS => ⟨a, ns, rfl, hS, hl, fun _ => rfl⟩) fun _ _ _ _ _ z => z
end Pv

open PySem PySem.W PyProof.Rows
set_option maxRecDepth 100000 in
set_option maxHeartbeats 0 in
theorem PySem.Challenge.cw_peermend_k21_whole_distance_holds : PySem.Challenge.rw_peermend_k21_whole_distance.Holds := by
  w_on; o_law; k_head; (case hw => w_witness2)
  k_fill
  refine Pv.walk (l := PySem.Challenge.rw_peermend_k21_whole_distance) rfl rfl (fun w h Y => PySem.W.kIn_of Y) ?F
  case F =>
    intro w mg fa h KX G hmg
    refine' Pv.all_mk KX G hmg ?qa_check_image ?ql_check_image ?qcd_is_check_image ?qk_check_image ?qa_check_state ?ql_check_state ?qcd_is_check_state ?qk_check_state ?qa_check_pair ?ql_check_pair ?qcd_is_check_pair ?qk_check_pair ?qa_parts ?ql_parts ?qcd_is_parts ?qk_parts ?qa_part_of ?ql_part_of ?qcd_is_part_of ?qk_part_of ?qa_walk ?ql_walk ?qcd_is_walk ?qk_walk ?qa_distance ?ql_distance ?qcd_is_distance ?qk_distance ?qa_part_distance ?ql_part_distance ?qcd_is_part_distance ?qk_part_distance ?qa_law_whole ?ql_law_whole ?qcd_is_law_whole ?qk_law_whole ?qa_law_bag ?ql_law_bag ?qcd_is_law_bag ?qk_law_bag ?qa_law_draw ?ql_law_draw ?qcd_is_law_draw ?qk_law_draw ?qa_law_shuffled ?ql_law_shuffled ?qcd_is_law_shuffled ?qk_law_shuffled ?qa_law_size ?ql_law_size ?qcd_is_law_size ?qk_law_size ?qa_law_state ?ql_law_state ?qcd_is_law_state ?qk_law_state ?qa_law_built ?ql_law_built ?qcd_is_law_built ?qk_law_built ?qa_law_two ?ql_law_two ?qcd_is_law_two ?qk_law_two ?qa_law_lots ?ql_law_lots ?qcd_is_law_lots ?qk_law_lots ?qa_law_far ?ql_law_far ?qcd_is_law_far ?qk_law_far ?qa_law_relinked ?ql_law_relinked ?qcd_is_law_relinked ?qk_law_relinked ?qa_law_near ?ql_law_near ?qcd_is_law_near ?qk_law_near ?qa_law_alone ?ql_law_alone ?qcd_is_law_alone ?qk_law_alone ?qa_law_refusal ?ql_law_refusal ?qcd_is_law_refusal ?qk_law_refusal ?qa_law_bent_row ?ql_law_bent_row ?qcd_is_law_bent_row ?qk_law_bent_row ?qa_law_table_due ?ql_law_table_due ?qcd_is_law_table_due ?qk_law_table_due ?qa_law_bent_two ?ql_law_bent_two ?qcd_is_law_bent_two ?qk_law_bent_two ?qa_law_two_due ?ql_law_two_due ?qcd_is_law_two_due ?qk_law_two_due ?qa_law_met ?ql_law_met ?qcd_is_law_met ?qk_law_met ?qa_law_told ?ql_law_told ?qcd_is_law_told ?qk_law_told ?qa_law_steps_right ?ql_law_steps_right ?qcd_is_law_steps_right ?qk_law_steps_right ?qa_law ?ql_law ?qcd_is_law ?qk_law ?qa_MendError ?qx_MendError ?qa_InvalidImage ?qx_InvalidImage ?qkc_InvalidImage ?qsa_InvalidImage ?qga_InvalidImage ?qgg_InvalidImage ?qca_InvalidImage ?qi_is_InvalidImage ?qt_InvalidImage ?qnf_InvalidImage ?ql_i_InvalidImage ?qcd_is_i_InvalidImage ?qk_i_InvalidImage ?qa_NotState ?qx_NotState ?qkc_NotState ?qsa_NotState ?qga_NotState ?qgg_NotState ?qca_NotState ?qi_is_NotState ?qt_NotState ?qnf_NotState ?ql_i_NotState ?qcd_is_i_NotState ?qk_i_NotState ?qa_Busy ?qx_Busy ?qkc_Busy ?qsa_Busy ?qga_Busy ?qgg_Busy ?qca_Busy ?qi_is_Busy ?qt_Busy ?qnf_Busy ?ql_i_Busy ?qcd_is_i_Busy ?qk_i_Busy ?qa_UnequalSizes ?qx_UnequalSizes ?qkc_UnequalSizes ?qsa_UnequalSizes ?qga_UnequalSizes ?qgg_UnequalSizes ?qca_UnequalSizes ?qq_is_UnequalSizes ?qa_InvalidChange ?qx_InvalidChange ?qkc_InvalidChange ?qsa_InvalidChange ?qga_InvalidChange ?qgg_InvalidChange ?qca_InvalidChange ?qq_is_InvalidChange ?qcn ?qct ?qnd ?qz_ValueError ?qz_int ?qz_bool ?qz_str ?qz_list ?qz_tuple ?qz_len ?qz_range ?qz_enumerate ?qz_isinstance ?qz_min ?qz_abs ?qz_sorted ?qz_all ?qz_sum ?qz_zip ?qz_reversed ?qz_max ?qz_set
    (case qa_check_image => k_is)
    (case ql_check_image => k_is)
    (case qcd_is_check_image => k_is)
    (case qk_check_image => k_is)
    (case qa_check_state => k_is)
    (case ql_check_state => k_is)
    (case qcd_is_check_state => k_is)
    (case qk_check_state => k_is)
    (case qa_check_pair => k_is)
    (case ql_check_pair => k_is)
    (case qcd_is_check_pair => k_is)
    (case qk_check_pair => k_is)
    (case qa_parts => k_is)
    (case ql_parts => k_is)
    (case qcd_is_parts => k_is)
    (case qk_parts => k_is)
    (case qa_part_of => k_is)
    (case ql_part_of => k_is)
    (case qcd_is_part_of => k_is)
    (case qk_part_of => k_is)
    (case qa_walk => k_is)
    (case ql_walk => k_is)
    (case qcd_is_walk => k_is)
    (case qk_walk => k_is)
    (case qa_distance => k_is)
    (case ql_distance => k_is)
    (case qcd_is_distance => k_is)
    (case qk_distance => k_is)
    (case qa_part_distance => k_is)
    (case ql_part_distance => k_is)
    (case qcd_is_part_distance => k_is)
    (case qk_part_distance => k_is)
    (case qa_law_whole => k_is)
    (case ql_law_whole => k_is)
    (case qcd_is_law_whole => k_is)
    (case qk_law_whole => k_is)
    (case qa_law_bag => k_is)
    (case ql_law_bag => k_is)
    (case qcd_is_law_bag => k_is)
    (case qk_law_bag => k_is)
    (case qa_law_draw => k_is)
    (case ql_law_draw => k_is)
    (case qcd_is_law_draw => k_is)
    (case qk_law_draw => k_is)
    (case qa_law_shuffled => k_is)
    (case ql_law_shuffled => k_is)
    (case qcd_is_law_shuffled => k_is)
    (case qk_law_shuffled => k_is)
    (case qa_law_size => k_is)
    (case ql_law_size => k_is)
    (case qcd_is_law_size => k_is)
    (case qk_law_size => k_is)
    (case qa_law_state => k_is)
    (case ql_law_state => k_is)
    (case qcd_is_law_state => k_is)
    (case qk_law_state => k_is)
    (case qa_law_built => k_is)
    (case ql_law_built => k_is)
    (case qcd_is_law_built => k_is)
    (case qk_law_built => k_is)
    (case qa_law_two => k_is)
    (case ql_law_two => k_is)
    (case qcd_is_law_two => k_is)
    (case qk_law_two => k_is)
    (case qa_law_lots => k_is)
    (case ql_law_lots => k_is)
    (case qcd_is_law_lots => k_is)
    (case qk_law_lots => k_is)
    (case qa_law_far => k_is)
    (case ql_law_far => k_is)
    (case qcd_is_law_far => k_is)
    (case qk_law_far => k_is)
    (case qa_law_relinked => k_is)
    (case ql_law_relinked => k_is)
    (case qcd_is_law_relinked => k_is)
    (case qk_law_relinked => k_is)
    (case qa_law_near => k_is)
    (case ql_law_near => k_is)
    (case qcd_is_law_near => k_is)
    (case qk_law_near => k_is)
    (case qa_law_alone => k_is)
    (case ql_law_alone => k_is)
    (case qcd_is_law_alone => k_is)
    (case qk_law_alone => k_is)
    (case qa_law_refusal => k_is)
    (case ql_law_refusal => k_is)
    (case qcd_is_law_refusal => k_is)
    (case qk_law_refusal => k_is)
    (case qa_law_bent_row => k_is)
    (case ql_law_bent_row => k_is)
    (case qcd_is_law_bent_row => k_is)
    (case qk_law_bent_row => k_is)
    (case qa_law_table_due => k_is)
    (case ql_law_table_due => k_is)
    (case qcd_is_law_table_due => k_is)
    (case qk_law_table_due => k_is)
    (case qa_law_bent_two => k_is)
    (case ql_law_bent_two => k_is)
    (case qcd_is_law_bent_two => k_is)
    (case qk_law_bent_two => k_is)
    (case qa_law_two_due => k_is)
    (case ql_law_two_due => k_is)
    (case qcd_is_law_two_due => k_is)
    (case qk_law_two_due => k_is)
    (case qa_law_met => k_is)
    (case ql_law_met => k_is)
    (case qcd_is_law_met => k_is)
    (case qk_law_met => k_is)
    (case qa_law_told => k_is)
    (case ql_law_told => k_is)
    (case qcd_is_law_told => k_is)
    (case qk_law_told => k_is)
    (case qa_law_steps_right => k_is)
    (case ql_law_steps_right => k_is)
    (case qcd_is_law_steps_right => k_is)
    (case qk_law_steps_right => k_is)
    (case qa_law => k_is)
    (case ql_law => k_is)
    (case qcd_is_law => k_is)
    (case qk_law => k_is)
    (case qa_MendError => k_is)
    (case qx_MendError => k_is)
    (case qa_InvalidImage => k_is)
    (case qx_InvalidImage => k_is)
    (case qkc_InvalidImage => k_is)
    (case qsa_InvalidImage => k_is)
    (case qga_InvalidImage => k_is)
    (case qgg_InvalidImage => k_is)
    (case qca_InvalidImage => k_is)
    (case qi_is_InvalidImage => k_is)
    (case qt_InvalidImage => k_is)
    (case qnf_InvalidImage => k_is)
    (case ql_i_InvalidImage => k_is)
    (case qcd_is_i_InvalidImage => k_is)
    (case qk_i_InvalidImage => k_is)
    (case qa_NotState => k_is)
    (case qx_NotState => k_is)
    (case qkc_NotState => k_is)
    (case qsa_NotState => k_is)
    (case qga_NotState => k_is)
    (case qgg_NotState => k_is)
    (case qca_NotState => k_is)
    (case qi_is_NotState => k_is)
    (case qt_NotState => k_is)
    (case qnf_NotState => k_is)
    (case ql_i_NotState => k_is)
    (case qcd_is_i_NotState => k_is)
    (case qk_i_NotState => k_is)
    (case qa_Busy => k_is)
    (case qx_Busy => k_is)
    (case qkc_Busy => k_is)
    (case qsa_Busy => k_is)
    (case qga_Busy => k_is)
    (case qgg_Busy => k_is)
    (case qca_Busy => k_is)
    (case qi_is_Busy => k_is)
    (case qt_Busy => k_is)
    (case qnf_Busy => k_is)
    (case ql_i_Busy => k_is)
    (case qcd_is_i_Busy => k_is)
    (case qk_i_Busy => k_is)
    (case qa_UnequalSizes => k_is)
    (case qx_UnequalSizes => k_is)
    (case qkc_UnequalSizes => k_is)
    (case qsa_UnequalSizes => k_is)
    (case qga_UnequalSizes => k_is)
    (case qgg_UnequalSizes => k_is)
    (case qca_UnequalSizes => k_is)
    (case qq_is_UnequalSizes => k_exc)
    (case qa_InvalidChange => k_is)
    (case qx_InvalidChange => k_is)
    (case qkc_InvalidChange => k_is)
    (case qsa_InvalidChange => k_is)
    (case qga_InvalidChange => k_is)
    (case qgg_InvalidChange => k_is)
    (case qca_InvalidChange => k_is)
    (case qq_is_InvalidChange => k_exc)
    (case qcn => k_is)
    (case qct => k_is)
    (case qnd => decide)
    (case qz_ValueError => k_is)
    (case qz_int => k_is)
    (case qz_bool => k_is)
    (case qz_str => k_is)
    (case qz_list => k_is)
    (case qz_tuple => k_is)
    (case qz_len => k_is)
    (case qz_range => k_is)
    (case qz_enumerate => k_is)
    (case qz_isinstance => k_is)
    (case qz_min => k_is)
    (case qz_abs => k_is)
    (case qz_sorted => k_is)
    (case qz_all => k_is)
    (case qz_sum => k_is)
    (case qz_zip => k_is)
    (case qz_reversed => k_is)
    (case qz_max => k_is)
    (case qz_set => k_is)
