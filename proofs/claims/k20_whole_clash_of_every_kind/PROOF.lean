import PyProof.Rows.All
import Wide.All
import OpenK.AllK
import Wide.FinOn
import KE.KIsAll
import KE.KExcIs
import HandS.ForMost
import HandS.ForExc
import HandS.TryMany
import HandS.ExcInit
import HandS.ExcValue
import HandS.ExcField
import HandS.IsInst
import HandS.ExcIs
import HandS.Small
import HandS.Wide
import HandS.Flow
import HandS.Evl
import HandS.Conv
import HandS.Walk
import KE.KDictKeyed
import KE.KDictList
import KE.KDictDisplayH
import HandS.SetKeys
import HandS.DictComp
import HandS.NoneIn
import HandS.SortInts
import HandS.SortOrd
import HandS.TupAny
import HandS.ListItems
import HandS.SortRule
import HandS.ExcCtx
import HandS.HotCalls
import HandS.ExcInitHot
import HandS.TupSets
import HandS.SetFor
import HandS.Deep
import PyProof.WalkInts
import PyProof.WalksMore
import KE.GoesMore
import HandS.Zip
import HandS.Style
import HandS.HeadHook3
import HandS.Star
import HandS.MakeKwOnly
import HandS.CallLocal
import HandS.ClsMeth
import HandS.ExcOwn
import HandS.Property
import HandS.More
import HandS.SlotsOwn
import HandS.Defaults
import HandS.Rev
import KE.GoesEnum
import HandS.List
import KE.KRevSl
import KE.SortData
import KE.DataCmp
import PyProof.TupleOfSeq
import HandS.FStr
import PySem.Challenge.RW_peermend_k20_whole_clash_of_every_kind
set_option Elab.async false
set_option linter.all false
set_option maxRecDepth 100000
set_option maxHeartbeats 4000000
namespace L2
open PySem PySem.Spec PyProof.Rows

/-- an error object held as a value: without a dict, or with one that holds fields -/
def ErrT (H : Hp) (a C : Addr) : Prop := H a = some (ExO (.ref C) a) ∨ ∃ (dx : Addr) (fs : List (Str × V)), H a = some (exo a C (some dx)) ∧ H dx = some (exd dx fs)
/-- isinstance of such a value -/
def rIsX (K : PySem.W.Frag) : List V → Hp → VK → Prop := fun xs H Q => ∃ (a C : Addr) (c : V) (u : Value) (b : Bool), xs = [.ref a, c] ∧ ErrT H a C ∧ ExcC K C ∧ ClsV c u ∧ PySem.W.kitOne K (.ref C) u = some b ∧ Q (.bl b) H
theorem clsIn_some {K : PySem.W.Frag} {C : Addr} (h : PySem.W.hasDictIn K C = true) : (PySem.W.clsIn K C).isSome = true := by
  obtain ⟨cd, hc, _⟩ := PySem.W.any_some h
  rw [hc]
  rfl
theorem kitX_err {K : PySem.W.Frag} {C a : Addr} {oe : Obj} {od : Option Obj} (D : ExcC K C) : PySem.W.KitX K (.ref a) (.ref C) (fun h => PySem.W.InstAt h a oe C od) :=
  PySem.W.kitx_exc (clsIn_some D.hd) D.hg D.hk D.hs D.ha D.hn D.ht D.hm
theorem call_isX {X : Cx} : CallR X (.builtin "isinstance") (rIsX X.K) := by
  intro pins s σ H xs us Q I r h
  obtain ⟨a, C, c, u, b, rfl, T, D, k, e, q⟩ := h
  obtain ⟨u1, u2, rfl, r1, r2⟩ := vals2 r
  have e2 := k.eq r2
  subst e2
  cases (show u1 = Value.ref a from r1)
  rcases T with ea | ⟨dx, fs, ea, ed⟩
  · have x : ObjOk X.prog X.w H s.heap a (ExO (.ref C) a) := I.hok a _ ea
    obtain ⟨⟨oe, vs, ho, hz, hd, _⟩, _, _⟩ := x
    obtain ⟨oc, odi, oda, osl⟩ := oe
    obtain ⟨h1, h2⟩ := hz
    dsimp only at h1 h2 hd
    subst h1 h2 hd
    exact PySem.W.kia_one (kitX_err (od := none) D) I.kIn ⟨ho, rfl, rfl, trivial⟩ e (fun z => nomatch z) fun tk => ⟨.bl b, H, I.tok tk, rfl, q⟩
  · obtain ⟨t1, ho⟩ := exo_at I.hok ea
    obtain ⟨mA, hns, _⟩ := exd_at I.hok ed
    obtain ⟨od, ho2, _⟩ := lookIn_ns hns
    exact PySem.W.kia_one (kitX_err (od := some od) D) I.kIn ⟨ho, rfl, rfl, ho2⟩ e (fun z => nomatch z) fun tk => ⟨.bl b, H, I.tok tk, rfl, q⟩
/-- isinstance(e, c), e the exception that the suite holds, with its dict -/
def rIsS (K : PySem.W.Frag) (a : Addr) (cls : Value) (d : Option Addr) : List V → Hp → VK → Prop := fun xs H Q => ∃ (C dd : Addr) (fs : List (Str × V)) (c : V) (u : Value) (b : Bool), xs = [.ref a, c] ∧ cls = .ref C ∧ d = some dd ∧ H dd = some (.xd fs) ∧
  ExcC K C ∧ ClsV c u ∧ PySem.W.kitOne K (.ref C) u = some b ∧ Q (.bl b) H
theorem call_isS {X : Cx} {K : PySem.W.Frag} {a : Addr} {cls : Value} {d : Option Addr} {oe : Obj} {pn : List (Addr × Obj)} (hK : X.K = K) (hz : Zc cls d oe) (hf : ∃ vs, oe.data = .fields vs) : CallR (X.suite a ((a, oe) :: pn)) (.builtin "isinstance") (rIsS K a cls d) := by
  subst hK
  intro pins s σ H xs us Q I r h
  obtain ⟨C, dd, fs, c, u, b, rfl, rfl, rfl, ea, D, k, e, q⟩ := h
  obtain ⟨u1, u2, rfl, r1, r2⟩ := vals2 r
  have e2 := k.eq r2
  subst e2
  cases (show u1 = Value.ref a from r1)
  obtain ⟨hget, _⟩ := I.pin (a, oe) (List.mem_append.mpr (.inl List.mem_cons_self))
  obtain ⟨vs, hv⟩ := hf
  have hx : ObjOk X.prog X.w H s.heap dd (.xd fs) := I.hok dd _ ea
  obtain ⟨mA, hns, hr⟩ := hx
  obtain ⟨od, ho, hl⟩ := lookIn_ns hns
  have J : PySem.W.InstAt s.heap a oe C (some od) := ⟨hget, hz.1, by unfold PySem.W.notCls; rw [hv] <;> rfl, by rw [hz.2]; exact ho⟩
  exact PySem.W.kia_one (kitX_err D) I.kIn J e (fun z => nomatch z) fun tk => ⟨.bl b, H, I.kept (t' := tk) fun _ _ z => z, rfl, q⟩

section
variable {X : Cx} {C : Addr} {bmB : List Value} {B newId initId : String} {x : Str} {p pos : Pos}
/-- X(), raised: an own exception class without own __init__ -/
theorem pmk_own0 (F : ExcBaseFacts B newId initId bmB) (q : PySem.W.excIn X.K C bmB newId = true) (gC : X.mg x = some (.ref C)) (kC : PySem.W.keepIn X.K (.ref C) = true) (r : Raises X (.ref C)) (hg : Gl X x)
    (hdb : (x == ("__debug__" : Str)) = false := by decide) : PMk X (.Call (.Name x p) [] [] pos) (fun _ H Q => Q (.ref C) none H) := by
  intro pins s σ H Q I h
  refine wpAny_Call_Name_kw (ld_glob I hg gC ?_ hdb)
  refine PySem.W.callWith_K0 I.kIn kC ?_
  obtain ⟨bm, N, nm, qn, bs, hdct, sn, sub, ab, col, dd, k0, k1, k2, k3, k5, mN, hC, hN, hni, T⟩ := exc_obj I.kIn q
  refine wpAny_call_exc_subT F T hC hN hni (fun h' e hm => ?_) (Nat.zero_le _)
  exact mk_of I hm r h (I.hok.gone hm.new)
/-- X(), as a value -/
theorem pe_exc0 (F : ExcBaseFacts B newId initId bmB) (q : PySem.W.excIn X.K C bmB newId = true) (gC : X.mg x = some (.ref C)) (kC : PySem.W.keepIn X.K (.ref C) = true) (hg : Gl X x)
    (hdb : (x == ("__debug__" : Str)) = false := by decide) : PE X (.Call (.Name x p) [] [] pos) (fun _ H Q => ∀ a, H a = none → Q (.ref a) (upd H a (ExO (.ref C) a))) := by
  refine ⟨fun pins s σ H Q I h => ?_⟩
  refine wpAny_Call_Name_kw (ld_glob I hg gC ?_ hdb)
  refine PySem.W.callWith_K0 I.kIn kC ?_
  obtain ⟨bm, N, nm, qn, bs, hdct, sn, sub, ab, col, dd, k0, k1, k2, k3, k5, mN, hC, hN, hni, T⟩ := exc_obj I.kIn q
  refine wpAny_call_exc_subT F T hC hN hni (fun h' a hm => ?_) (Nat.zero_le _)
  have hn : H a = none := I.hok.gone hm.new
  obtain ⟨t, ht, _, _⟩ := hm.there
  exact ⟨.ref a, upd H a (ExO (.ref C) a), I.laidN hm.keeps hm.new hn (exO_ok ht ⟨rfl, rfl⟩ rfl rfl rfl (show 4 < 6 by decide)), rfl, h a hn⟩
end
/-- X(e, ..) as a value, its own __init__ keeping sp -/
def tMkV (C : Addr) (sp : Sp) (ta : TA) : TE := fun σ H Q => ta σ H fun vs H1 => vs.length ≤ 1000 ∧ ∀ a, H1 a = none → sp (.ref a :: vs) (upd H1 a (exo a C none)) (fun v H2 => v = .non ∧ Q (.ref a) H2) (fun _ _ _ => False)
section
variable {X : Cx} {e : Expr} {es : List Expr} {ta : TA} {p pos : Pos}
theorem pe_oexV {CX : CXT} {x : Str} {C fI : Addr} {k : Nat} {fd : FuncData} {ps : List Str} {sp : Sp} (T : OexC X.K C) (iC : PySem.W.findIn X.K (.ref C) "__init__" = some (some (.ref fI))) (tI : PySem.W.typeIn X.K (.ref fI) = some (.type "function"))
    (F1 : FnOk X.prog X.w X.K X.mg X.base CX k fI fd ps sp) (hr : Room (k + 1) X.A) (hb : Binds X.K fd ps []) (hx : Passes CX X (fun _ _ _ => False)) (hg : Gl X x) (hm : X.mg x = some (.ref C)) (ha : PA X (e :: es) ta)
    (hdb : (x == ("__debug__" : Str)) = false := by decide) (he : starEach (e :: es) X.env = (false, eval e X.env) :: starEach es X.env := by rfl) (hpl : (backTo pos (starEach es X.env)).any (·.1) = false := by rfl) :
    PE X (.Call (.Name x p) (e :: es) [] pos) (tMkV C sp ta) := by
  refine ⟨fun pins s σ H Q I h => ?_⟩
  obtain ⟨nm, q, N, bs, bm, sn, sub, ab, col, dd, k0, k1, k2, k3, k5, hC, hmro⟩ := T.cls
  refine wpAny_Call_Name_kw (ld_glob I hg hm ?_ hdb)
  refine PySem.W.callWith_K (h₀ := X.base) I.ok.mod.kin T.kC (thn (ha.run pos pins s σ H _ I h) fun us s1 ⟨vs, H1, I1, r1, hz, q1⟩ => ⟨I1.kIn, ?_⟩) he hpl
  show wpAny _ _ (call (.ref C) us) _ _ _
  obtain ⟨hh, g, dw, tc, ow⟩ := s1
  have hgt : hh.objs.size ≤ hh.objs.size + 1 := Nat.le_succ _
  have fr1 : H1 (hh.objs.size + 1) = none := I1.hok.fresh hgt
  have pr1 := q1 (hh.objs.size + 1) fr1
  have kp1 : ∀ b o, hh.get? b = some o → ((hh.push (PySem.W.kdv_tup us)).push (PySem.HandSPX.excO C hh.objs.size)).get? b = some o := fun b o e => Heap.get?_push_of_some _ (Heap.get?_push_of_some _ e)
  have ob1 : ((hh.push (PySem.W.kdv_tup us)).push (PySem.HandSPX.excO C hh.objs.size)).get? (hh.objs.size + 1) = some (PySem.HandSPX.excO C hh.objs.size) := by heap_get
  have Iv2 : Inv X pins σ (upd H1 (hh.objs.size + 1) (exo (hh.objs.size + 1) C none)) ⟨(hh.push (PySem.W.kdv_tup us)).push (PySem.HandSPX.excO C hh.objs.size), g, dw, tc, ow⟩ :=
    I1.laid (t' := tc) (a := hh.objs.size + 1) (o := exo (hh.objs.size + 1) C none) (h' := (hh.push (PySem.W.kdv_tup us)).push (PySem.HandSPX.excO C hh.objs.size)) kp1 hgt (exo_ok ob1)
  have rl2 : Vals (V.ref (hh.objs.size + 1) :: vs) (Value.ref (hh.objs.size + 1) :: us) := .cons rfl r1
  have ln1 : (Value.ref (hh.objs.size + 1) :: us).length = ps.length := by
    have e := rl2.length
    rw [F1.len _ _ _ _ pr1] at e
    exact e.symm
  have ln2 : us.length ≤ sizeLine := by
    rw [← Paired.length r1, sizeLine_eq]
    omega
  have b0 := hb ⟨(hh.push (PySem.W.kdv_tup us)).push (PySem.HandSPX.excO C hh.objs.size), g, dw, tc, ow⟩ (Value.ref (hh.objs.size + 1) :: us) Iv2.kIn (by rw [List.append_nil]; exact ln1)
  rw [List.append_nil] at b0
  refine wpAny_call (PySem.HandSPX.call_own F.excBase_ValueError (fun Y => PySem.HandSPX.refsVE_contains Y bm hmro) (I1.kIn _ _ hC) (PySem.W.looks_findIn I1.kIn iC) (fun self => PySem.W.bind_fn I1.kIn self tI) ln2
    (codeAny_mono (F1.run _ X.stack _ _ ⟨Value.ref (hh.objs.size + 1) :: us, []⟩ (Value.ref (hh.objs.size + 1) :: us) _ _ (fun _ _ _ => False) (hr.make C us []) (Iv2.env0.make C us []) b0 rl2 pr1) fun r s' hq' => ?_))
  cases r with
  | error er => exact hx pins σ _ _ er s' Iv2 hq'
  | ok fl =>
    cases fl with
    | ret u =>
      obtain ⟨v, H2, os2, bare2, un2, hok2, rv, ev, q2⟩ := hq'
      subst ev
      exact ⟨rv, .ref (hh.objs.size + 1), H2, Iv2.call' (ch := []) os2 un2 hok2 bare2 (fun b z => absurd z (by simp)), rfl, q2⟩
    | next => exact False.elim hq'
    | brk => exact False.elim hq'
    | cont => exact False.elim hq'
/-- err.f, err an error held as a value -/
def tXa (K : PySem.W.Frag) (f : Str) (te : TE) : TE := fun σ H Q => te σ H fun x H1 => ∃ (a C dx : Addr) (fs : List (Str × V)) (v : V), x = .ref a ∧ H1 a = some (exo a C (some dx)) ∧ H1 dx = some (exd dx fs) ∧ XfC K C ∧ PySem.W.findIn K (.ref C) f = some none ∧ fs.lookup f = some v ∧ Q v H1
theorem pe_xa {te : TE} {n : Str} (he : PE X e te) (hb : attributeBase e n X.env (eval e X.env) = eval e X.env := by rfl) : PE X (.Attribute e n pos) (tXa X.K n te) := by
  refine ⟨fun pins s σ H Q I h => ?_⟩
  refine attr_of hb (thn (he.run pins s σ H _ I h) fun u s1 hh => ?_)
  obtain ⟨x, H1, I1, rx, a, C, dx, fs, v, ex, ea, ed, T, hno, l, q⟩ := hh
  subst ex
  obtain rfl : u = Value.ref a := rx
  obtain ⟨t1, ho⟩ := exo_at I1.hok ea
  obtain ⟨mA, hns, hr⟩ := exd_at I1.hok ed
  obtain ⟨od, ho2, ln1⟩ := lookIn_ns hns
  obtain ⟨u, hu, ru⟩ := RelO.some_of (v := v) (o := mA n) (by rw [← l]; exact hr n)
  have J : PySem.W.InstAt s1.heap a _ C (some od) := ⟨ho, rfl, rfl, ho2⟩
  exact HandSPX.exc_get I1.kIn J T.ga T.gg T.exC (PySem.W.findObj_own T.hdC hno rfl (by rw [ln1, hu])) (handed_of ru) ⟨v, H1, I1.tok _, ru, q⟩
end
theorem ix_listK {X : Cx} {K : PySem.W.Frag} (h : X.K = K) : IxR X (rIxL K) := by
  subst h
  exact ix_list
theorem ix_tupK {X : Cx} {K : PySem.W.Frag} (h : X.K = K) : IxR X (rIxT K) := by
  subst h
  exact ix_tup
/-! several except clauses, some with names -/
/-- what is behind a suite with (slot i) or without a name -/
def goneD (oi : Option Nat) (D : Ends) : Ends := match oi with
  | none => D
  | some i => { nx := fun σ' H' => D.nx (σ'.set i none) H', rt := D.rt, bk := fun σ' H' => D.bk (σ'.set i none) H', ct := fun σ' H' => D.ct (σ'.set i none) H' }
def hadS (oi : Option Nat) (a : Addr) (σ : St) : St := match oi with
  | none => σ
  | some i => σ.set i (some (.ref a))
def wManyN (K : PySem.W.Frag) (Wout : WX) (D : Ends) : List (Value × Option Nat × (Addr → Value → Option Addr → TS)) → WX
  | [] => Wout
  | (c, oi, ts) :: r => fun cls d σ H => ∃ b, PySem.W.exmOne K cls c = some b ∧ (b = true → ∀ a, H a = none → ts a cls d (goneD oi D) (hadS oi a σ) H) ∧ (b = false → wManyN K Wout D r cls d σ H)
inductive HdsN (X : Cx) : List ExceptHandler → List (Value × Option Nat × (Addr → Value → Option Addr → TS)) → Prop
  | nil : HdsN X [] []
  | cons {x : Str} {c : Value} {ts : Addr → Value → Option Addr → TS} {b₀ : Stmt} {suite : List Stmt} {np pos' : Pos} {hds : List ExceptHandler} {l : List (Value × Option Nat × (Addr → Value → Option Addr → TS))} (hc : Names X x c)
      (hsu : ∀ (a : Addr) (oe : Obj) (cls : Value) (d : Option Addr) (pn : List (Addr × Obj)), Zc cls d oe → (∃ vs, oe.data = .fields vs) → PSs (X.suite a ((a, oe) :: pn)) (b₀ :: suite) (ts a cls d)) (r : HdsN X hds l) :
      HdsN X (.ExceptHandler (some (.Name x np)) none (b₀ :: suite) pos' :: hds) ((c, none, ts) :: l)
  | consN {x n : Str} {i : Nat} {c : Value} {ts : Addr → Value → Option Addr → TS} {b₀ : Stmt} {suite : List Stmt} {np pos' : Pos} {hds : List ExceptHandler} {l : List (Value × Option Nat × (Addr → Value → Option Addr → TS))} (hN : X.N.Nodup) (hi : X.N[i]? = some n) (hln : X.env.kindOf n = some .local) (hc : Names X x c)
      (hsu : ∀ (a : Addr) (oe : Obj) (cls : Value) (d : Option Addr) (pn : List (Addr × Obj)), Zc cls d oe → (∃ vs, oe.data = .fields vs) → PSs (X.suite a ((a, oe) :: pn)) (b₀ :: suite) (ts a cls d)) (r : HdsN X hds l) :
      HdsN X (.ExceptHandler (some (.Name x np)) (some n) (b₀ :: suite) pos' :: hds) ((c, some i, ts) :: l)
section
variable {X : Cx} {body : List Stmt} {h₀ : ExceptHandler} {hds : List ExceptHandler} {l : List (Value × Option Nat × (Addr → Value → Option Addr → TS))} {pos : Pos} {tb : WX → TS} {Wout : WX}
theorem ps_try_manyN (hs : X.stack = X.env :: X.outer) (hf : X.env.frame = some X.env.locals) (tk : Takes X Wout)
    (hb : ∀ (W : WX) (pn : List (Addr × Obj)) (xe : Value → Shared → Prop), Takes (X.tr pn xe) W → PassesOwn (model X.prog X.w) X.A X.env xe → PSs (X.tr pn xe) body (tb W))
    (hh : HdsN X (h₀ :: hds) l) : PS X (.Try body (h₀ :: hds) [] [] pos) (fun D σ H => tb (wManyN X.K Wout D l) D σ H) := by
  refine ⟨fun pins s σ H D I h => ?_⟩
  have ok := I.ok
  have frA : X.A.frames = some (X.env :: X.outer) := by rw [ok.frames, hs]
  refine wpAny_Try_except ?_
  refine wpAny_mono ((hb (wManyN X.K Wout D l) (X.pn ++ pins) (fun e s₁ => wpAny (model X.prog X.w) X.A (noteFrame e X.env) (fun _ s₂ => wpAny (model X.prog X.w) X.A (setFlight e none) (fun _ s₃ =>
    wpAny (model X.prog X.w) X.A (handleBy e X.env (h₀ :: hds)) (SP X pins D) X.xe s₃) X.xe s₂) X.xe s₁) (fun u s' xx => ?_) PassesOwn.looking).run [] s σ H D (I.toTry _) h) (fun f s1 back => ?_) (fun e s1 he => he)
  · -- the catch
    obtain ⟨a, B, sI, pins', σ', H', cls, d, rfl, J', nb, up, sky, na, os, ag, w⟩ := xx
    have J : Inv X pins σ' H' sI := J'.ofTry ok
    have skyE : Sky B (X.env :: X.outer) a (Zc cls d) X.env.locals s'.heap := by rw [← hs]; exact sky
    show wpAny (model X.prog X.w) X.A (noteFrame (.ref a) X.env) _ _ _
    refine Sky.land Zc.steady frA hf skyE fun h3 fz3 ut3 => ?_
    have Jn3 : Inv X pins σ' H' { s' with heap := h3 } := J.landed nb fz3.1 (up.trans ut3) os ag
    obtain ⟨ox3, xs3, ob3, zc3, dt3⟩ := fz3.there
    have aside : ∀ {h : Heap} {o : Obj} {vs : Array Value}, h.FunFrames B (X.env :: X.outer) → h.get? a = some o → o.data = .fields vs → a ∉ frs (X.env :: X.outer) := fun {h o vs} ff e dd hm => by
      obtain ⟨_, o', e', hnf⟩ := ff.mem hm
      rw [e] at e'; cases e'
      exact hnf _ dd
    have offF := aside fz3.2.2.1 ob3 dt3
    have offL : a ≠ X.env.locals := fun z => offF (List.mem_filterMap.mpr ⟨X.env, List.mem_cons_self, by rw [hf, z]⟩)
    have offS : a ∉ X.fs := fun hm => by
      obtain ⟨e, he, q⟩ := List.mem_filterMap.mp hm
      exact offF (List.mem_filterMap.mpr ⟨e, List.mem_cons_of_mem _ he, q⟩)
    have In3 := Jn3.suite ob3 dt3 na offL offS
    have go : ∀ {hds' : List ExceptHandler} {l' : List (Value × Option Nat × (Addr → Value → Option Addr → TS))}, HdsN X hds' l' → wManyN X.K Wout D l' cls d σ' H' →
        wpAny (model X.prog X.w) X.A (handleBy (.ref a) X.env hds') (SP X pins D) X.xe { s' with heap := h3 } := by
      intro hds' l' hk
      induction hk with
      | nil =>
        intro w
        refine wpAny_handleBy_nil ?_
        obtain ⟨k1, k2, k3, oe, vs, T, oT, ts', he, hz, hd, h1, hr⟩ := id fz3
        unfold PySem.passOn
        refine wpAny_bind (wpAny_field he hd h1 ?_)
        rw [if_neg (show ¬ ((Value.ref T == Value.none) = true) from by simp)]
        have fin : wpAny (model X.prog X.w) X.A (setFlight (.ref a) X.env.frame) (fun _ s4 => wpAny (model X.prog X.w) X.A (throw (.ref a) : Sem Flow) (SP X pins D) X.xe s4) X.xe { s' with heap := h3 } := by
          rw [hf]
          refine HandSPX.setFlight_upZ fz3 fun h4 hh4 ut4 => wpAny_throw (tk _ _ ?_)
          exact ⟨a, B, sI, pins, σ', H', cls, d, rfl, J, nb, (up.trans ut3).trans ut4, .inr (.inr (by rw [hs]; exact hh4)), na, os, ag, w⟩
        first
          | exact wpAny_bind (wpAny_pure (wpAny_bind fin))
          | exact wpAny_bind fin
      | @cons x c ts b₀ suite np pos' hds2 l2 hc hsu r ih =>
        intro w
        obtain ⟨b, hx1, yes, nay⟩ := w
        refine wpAny_handleBy_cons (codeAny_handlers_test ?_) (by intro q; cases q)
        have lkT : PySem.W.Looks (model X.prog X.w) h3 (typeOf (.ref a)) cls := fun A Q E s k q => wpAny_typeOf_ref (k _ _ ob3) (by rw [zc3.1]; exact q)
        have lkM := PySem.W.exm_one (M := model X.prog X.w) (Jn3.kIn) lkT hx1
        have test : ∀ {Q : Value → Shared → Prop} {E : Value → Shared → Prop}, Q c { s' with heap := h3 } → wpAny (model X.prog X.w) (X.A.mark (some (.ref a))) (eval (.Name x np) X.env) Q E { s' with heap := h3 } := fun {Q E} q => by
          obtain ⟨hg, hdbg, hm | ⟨hm, hv, hnn⟩⟩ := hc
          · exact ld_glob (X := X.suite a ((a, ox3) :: (X.pn ++ pins))) In3 hg hm q hdbg
          · exact ld_blt (X := X.suite a ((a, ox3) :: (X.pn ++ pins))) In3 hg hm hv q hnn hdbg
        refine test (lkM.here ?_)
        cases b with
        | true =>
          refine codeAny_handlers_suite ?_
          refine HandSPX.lands_againZ fz3 fun h4 fz4 ut4 => ?_
          have Jn4 : Inv X pins σ' H' { s' with heap := h4 } := J.landed nb fz4.1 ((up.trans ut3).trans ut4) os ag
          obtain ⟨ox4, xs4, ob4, zc4, dt4⟩ := fz4.there
          have In4 := Jn4.suite ob4 dt4 na offL offS
          refine wpAny_mono ((hsu a ox4 cls d (X.pn ++ pins) zc4 ⟨_, dt4⟩).run [] _ _ H' _ In4 (yes rfl a na)) (fun f t6 back => ?_) (fun _ _ z => False.elim z)
          cases f with
          | next =>
            obtain ⟨σb, Hb, Inb, qb⟩ := back
            exact ⟨_, _, Inb.unsuite ok, qb⟩
          | brk =>
            obtain ⟨σb, Hb, Inb, qb⟩ := back
            exact ⟨_, _, Inb.unsuite ok, qb⟩
          | cont =>
            obtain ⟨σb, Hb, Inb, qb⟩ := back
            exact ⟨_, _, Inb.unsuite ok, qb⟩
          | ret u =>
            obtain ⟨vb, σb, Hb, Inb, rb, qb⟩ := back
            exact ⟨_, _, _, Inb.unsuite ok, rb, qb⟩
        | false =>
          show wpAny _ X.A (handleBy (.ref a) X.env hds2) _ _ _
          exact ih (nay rfl)
      | @consN x n i c ts b₀ suite np pos' hds2 l2 hN hi hln hc hsu r ih =>
        intro w
        obtain ⟨b, hx1, yes, nay⟩ := w
        have hloc : Loc X.env.scope n := .inl hln
        refine wpAny_handleBy_cons (codeAny_handlers_test ?_) (by intro q; cases q)
        have lkT : PySem.W.Looks (model X.prog X.w) h3 (typeOf (.ref a)) cls := fun A Q E s k q => wpAny_typeOf_ref (k _ _ ob3) (by rw [zc3.1]; exact q)
        have lkM := PySem.W.exm_one (M := model X.prog X.w) (Jn3.kIn) lkT hx1
        have test : ∀ {Q : Value → Shared → Prop} {E : Value → Shared → Prop}, Q c { s' with heap := h3 } → wpAny (model X.prog X.w) (X.A.mark (some (.ref a))) (eval (.Name x np) X.env) Q E { s' with heap := h3 } := fun {Q E} q => by
          obtain ⟨hg, hdbg, hm | ⟨hm, hv, hnn⟩⟩ := hc
          · exact ld_glob (X := X.suite a ((a, ox3) :: (X.pn ++ pins))) In3 hg hm q hdbg
          · exact ld_blt (X := X.suite a ((a, ox3) :: (X.pn ++ pins))) In3 hg hm hv q hnn hdbg
        refine test (lkM.here ?_)
        cases b with
        | true =>
          refine codeAny_handlers_suite_as ?_
          refine HandSPX.lands_againZ fz3 fun h4 fz4 ut4 => ?_
          have Jn4 : Inv X pins σ' H' { s' with heap := h4 } := J.landed nb fz4.1 ((up.trans ut3).trans ut4) os ag
          obtain ⟨ox4, xs4, ob4, zc4, dt4⟩ := fz4.there
          have In4 := Jn4.suite ob4 dt4 na offL offS
          refine store_ok (X := X.suite a ((a, ox4) :: (X.pn ++ pins))) (v := .ref a) In4 hN hi hloc rfl (fun t5 In5 => ?_) (.inr hln)
          refine wpAny_mono ((hsu a ox4 cls d (X.pn ++ pins) zc4 ⟨_, dt4⟩).run [] t5 _ H' _ In5 (yes rfl a na)) (fun f t6 back => ?_) (fun _ _ z => False.elim z)
          have gone : ∀ {σb : St} {Hb : Hp} {Q : Shared → Prop}, Inv (X.suite a ((a, ox4) :: (X.pn ++ pins))) [] σb Hb t6 → (∀ s7, Inv X pins (σb.set i none) Hb s7 → Q s7) →
              wpAny (model X.prog X.w) X.A (do bindName X.env n .none; unbindBehindTheSuite X.env n pos') (fun _ s7 => Q s7) X.xe t6 := fun {σb Hb Q} Inb hq => gone_ok (Inb.unsuite ok) hN hi hln hq
          cases f with
          | next =>
            obtain ⟨σb, Hb, Inb, qb⟩ := back
            exact gone Inb fun s7 J7 => ⟨_, _, J7, qb⟩
          | brk =>
            obtain ⟨σb, Hb, Inb, qb⟩ := back
            exact gone Inb fun s7 J7 => ⟨_, _, J7, qb⟩
          | cont =>
            obtain ⟨σb, Hb, Inb, qb⟩ := back
            exact gone Inb fun s7 J7 => ⟨_, _, J7, qb⟩
          | ret u =>
            obtain ⟨vb, σb, Hb, Inb, rb, qb⟩ := back
            exact gone Inb fun s7 J7 => ⟨_, _, _, J7, rb, qb⟩
        | false =>
          show wpAny _ X.A (handleBy (.ref a) X.env hds2) _ _ _
          exact ih (nay rfl)
    exact go hh w
  · cases f with
    | next =>
      obtain ⟨σ', H', J', q⟩ := back
      exact wpAny_execs_nil ⟨σ', H', J'.ofTry ok, q⟩
    | brk =>
      obtain ⟨σ', H', J', q⟩ := back
      exact ⟨σ', H', J'.ofTry ok, q⟩
    | cont =>
      obtain ⟨σ', H', J', q⟩ := back
      exact ⟨σ', H', J'.ofTry ok, q⟩
    | ret u =>
      obtain ⟨v, σ', H', J', r, q⟩ := back
      exact ⟨v, σ', H', J'.ofTry ok, r, q⟩
end
end L2

namespace Pm
/-! ### forms and blocks -/
def form : Nat → List Nat
  | 0 => [0] | 1 => [1, 0] | 2 => [1, 1] | 3 => [1, 2, 1] | 4 => [1, 2, 2] | 5 => [1, 2, 1, 2] | 6 => [1, 2, 3, 2] | _ => [1, 2, 3, 0]
abbrev Bk := Nat × List Nat
structure Blk (ys : List Nat) (b : Bk) : Prop where
  w : b.1 < 8
  len : b.2.length = (form b.1).length
  sh : ∀ k, k < b.2.length → ys.getD (b.2.getD k 0) 0 = b.2.getD ((form b.1).getD k 0) 0
structure Built (ys : List Nat) (bs : List Bk) : Prop where
  blk : ∀ b ∈ bs, Blk ys b
  perm : (bs.flatMap (·.2)).Perm (List.range ys.length)
theorem form_len (w : Nat) : 0 < (form w).length := by
  unfold form
  split <;> decide
theorem form_lt (w k : Nat) (h : k < (form w).length) : (form w).getD k 0 < (form w).length := by
  unfold form at h ⊢
  split at h <;> (simp at h ⊢; rcases k with _ | _ | _ | _ | k <;> simp at h ⊢ <;> omega)
/-- the least of a list -/
def mn : List Nat → Nat
  | [] => 0
  | [a] => a
  | a :: b :: l => min a (mn (b :: l))
theorem mn_mem : ∀ {l : List Nat}, l ≠ [] → mn l ∈ l
  | [], h => absurd rfl h
  | [a], _ => by simp [mn]
  | a :: b :: l, _ => by
    have ih := mn_mem (l := b :: l) (by simp)
    unfold mn
    by_cases h : a ≤ mn (b :: l)
    · rw [Nat.min_eq_left h]; exact List.mem_cons_self ..
    · rw [Nat.min_eq_right (by omega)]; exact List.mem_cons_of_mem _ ih
theorem mn_le : ∀ {l : List Nat} {x : Nat}, x ∈ l → mn l ≤ x
  | [a], x, h => by
    rw [List.mem_singleton.mp h]
    exact Nat.le_refl _
  | a :: b :: l, x, h => by
    unfold mn
    rcases List.mem_cons.mp h with e | h
    · rw [e]; exact Nat.min_le_left _ _
    · exact Nat.le_trans (Nat.min_le_right _ _) (mn_le h)
theorem uniq : ∀ {bs : List Bk} {b c : Bk} {x : Nat}, (bs.flatMap (·.2)).Nodup → b ∈ bs → c ∈ bs → x ∈ b.2 → x ∈ c.2 → b = c
  | a :: bs, b, c, x, nd, hb, hc, xb, xc => by
    rw [List.flatMap_cons, List.nodup_append] at nd
    rcases List.mem_cons.mp hb with e1 | hb
    · rcases List.mem_cons.mp hc with e2 | hc
      · rw [e1, e2]
      · exact absurd rfl (nd.2.2 x (e1 ▸ xb) x (List.mem_flatMap.mpr ⟨c, hc, xc⟩))
    · rcases List.mem_cons.mp hc with e2 | hc
      · exact absurd rfl (nd.2.2 x (e2 ▸ xc) x (List.mem_flatMap.mpr ⟨b, hb, xb⟩))
      · exact uniq nd.2.1 hb hc xb xc
theorem nd_of : ∀ {bs : List Bk} {b : Bk}, (bs.flatMap (·.2)).Nodup → b ∈ bs → b.2.Nodup
  | a :: bs, b, nd, hb => by
    rw [List.flatMap_cons, List.nodup_append] at nd
    rcases List.mem_cons.mp hb with e1 | hb
    · rw [e1]; exact nd.1
    · exact nd_of nd.2.1 hb
def beta (bs : List Bk) (x : Nat) : Nat := match bs.find? (fun b => b.2.contains x) with
  | some b => mn b.2
  | none => x
section
variable {ys : List Nat} {bs : List Bk}
theorem Built.nd (B : Built ys bs) : (bs.flatMap (·.2)).Nodup := B.perm.nodup_iff.mpr List.nodup_range
theorem Built.lt (B : Built ys bs) {b : Bk} (hb : b ∈ bs) {x : Nat} (hx : x ∈ b.2) : x < ys.length :=
  List.mem_range.mp (B.perm.mem_iff.mp (List.mem_flatMap.mpr ⟨b, hb, hx⟩))
theorem Built.of (B : Built ys bs) {x : Nat} (hx : x < ys.length) : ∃ b ∈ bs, x ∈ b.2 := by
  obtain ⟨b, hb, h⟩ := List.mem_flatMap.mp (B.perm.mem_iff.mpr (List.mem_range.mpr hx))
  exact ⟨b, hb, h⟩
theorem Built.beta_of (B : Built ys bs) {b : Bk} (hb : b ∈ bs) {x : Nat} (hx : x ∈ b.2) : beta bs x = mn b.2 := by
  unfold beta
  cases h : bs.find? (fun b => b.2.contains x) with
  | none =>
    have := List.find?_eq_none.mp h b hb
    simp [hx] at this
  | some c =>
    have h1 := List.mem_of_find?_eq_some h
    have h2 := List.find?_some h
    have h3 : x ∈ c.2 := by simpa using h2
    rw [uniq B.nd hb h1 hx h3]
theorem Built.ne (B : Built ys bs) {b : Bk} (hb : b ∈ bs) : b.2 ≠ [] := fun z => by
  have h := (B.blk b hb).len
  have := form_len b.1
  rw [z] at h
  simp at h
  omega
theorem Built.mn_beta (B : Built ys bs) {b : Bk} (hb : b ∈ bs) : beta bs (mn b.2) = mn b.2 := B.beta_of hb (mn_mem (B.ne hb))
theorem Built.beta_le (B : Built ys bs) {x : Nat} (hx : x < ys.length) : beta bs x ≤ x := by
  obtain ⟨b, hb, h⟩ := B.of hx
  rw [B.beta_of hb h]
  exact mn_le h
theorem getD_mem {l : List Nat} {k : Nat} (h : k < l.length) : l.getD k 0 ∈ l := by
  rw [List.getD_eq_getElem?_getD, List.getElem?_eq_getElem h]
  exact List.getElem_mem h
theorem mem_getD {l : List Nat} {x : Nat} (h : x ∈ l) : ∃ k, k < l.length ∧ l.getD k 0 = x := by
  obtain ⟨k, hk, e⟩ := List.getElem_of_mem h
  exact ⟨k, hk, by rw [List.getD_eq_getElem?_getD, List.getElem?_eq_getElem hk]; exact e⟩
/-- what a record shows is of its block -/
theorem Built.shown (B : Built ys bs) {b : Bk} (hb : b ∈ bs) {x : Nat} (hx : x ∈ b.2) : ys.getD x 0 ∈ b.2 := by
  obtain ⟨k, hk, rfl⟩ := mem_getD hx
  have Q := B.blk b hb
  rw [Q.sh k hk]
  exact getD_mem (by rw [Q.len]; exact form_lt _ _ (by rw [← Q.len]; exact hk))
theorem Built.edge (B : Built ys bs) {x : Nat} (hx : x < ys.length) : ys.getD x 0 < ys.length ∧ beta bs (ys.getD x 0) = beta bs x := by
  obtain ⟨b, hb, h⟩ := B.of hx
  have h2 := B.shown hb h
  exact ⟨B.lt hb h2, by rw [B.beta_of hb h, B.beta_of hb h2]⟩
end
/-! ### the labels -/
def stepL (L : List Nat) (r nm : Nat) : List Nat := if min (L.getD r 0) (L.getD nm 0) = max (L.getD r 0) (L.getD nm 0) then L else L.map fun o => if o = max (L.getD r 0) (L.getD nm 0) then min (L.getD r 0) (L.getD nm 0) else o
def lab (ys : List Nat) : Nat → List Nat
  | 0 => List.range ys.length
  | i + 1 => stepL (lab ys i) i (ys.getD i 0)
structure Lab (ys : List Nat) (bs : List Bk) (i : Nat) (L : List Nat) : Prop where
  len : L.length = ys.length
  le : ∀ x, x < ys.length → L.getD x 0 ≤ x
  fx : ∀ x, x < ys.length → L.getD (L.getD x 0) 0 = L.getD x 0
  bl : ∀ x, x < ys.length → beta bs (L.getD x 0) = beta bs x
  ed : ∀ r, r < i → r < ys.length → L.getD r 0 = L.getD (ys.getD r 0) 0
theorem getD_map {L : List Nat} {f : Nat → Nat} {x : Nat} (h : x < L.length) : (L.map f).getD x 0 = f (L.getD x 0) := by
  rw [List.getD_eq_getElem?_getD, List.getElem?_map, List.getD_eq_getElem?_getD, List.getElem?_eq_getElem h]
  rfl
theorem getD_range {n x : Nat} (h : x < n) : (List.range n).getD x 0 = x := by
  rw [List.getD_eq_getElem?_getD, List.getElem?_range h]
  rfl
theorem lab_ok {ys : List Nat} {bs : List Bk} (B : Built ys bs) : ∀ i, i ≤ ys.length → Lab ys bs i (lab ys i)
  | 0, _ => ⟨List.length_range, fun x hx => by show (List.range _).getD x 0 ≤ x; rw [getD_range hx]; exact Nat.le_refl _,
      fun x hx => by show (List.range _).getD ((List.range _).getD x 0) 0 = (List.range _).getD x 0; rw [getD_range hx, getD_range hx],
      fun x hx => by show beta bs ((List.range _).getD x 0) = _; rw [getD_range hx], fun r h => absurd h (Nat.not_lt_zero _)⟩
  | i + 1, hi => by
    have ih := lab_ok B i (by omega)
    have hin : i < ys.length := by omega
    obtain ⟨hnm, hbe⟩ := B.edge hin
    show Lab ys bs (i + 1) (stepL (lab ys i) i (ys.getD i 0))
    generalize lab ys i = L at ih
    generalize hnmE : ys.getD i 0 = nm at hnm hbe
    unfold stepL
    have a1 := ih.fx i hin
    have b1 := ih.fx nm hnm
    have a2 := ih.le i hin
    have b2 := ih.le nm hnm
    have a3 := ih.bl i hin
    have b3 := ih.bl nm hnm
    generalize ha : L.getD i 0 = a at *
    generalize hb : L.getD nm 0 = b at *
    by_cases heq : min a b = max a b
    · rw [if_pos heq]
      refine ⟨ih.len, ih.le, ih.fx, ih.bl, fun r hr hrn => ?_⟩
      by_cases h : r = i
      · rw [h, ha, hnmE, hb]
        omega
      · exact ih.ed r (by omega) hrn
    · rw [if_neg heq]
      have hlow : L.getD (min a b) 0 = min a b := by
        by_cases h : a ≤ b
        · rw [Nat.min_eq_left h]; exact a1
        · rw [Nat.min_eq_right (by omega)]; exact b1
      have hbl : beta bs (min a b) = beta bs (max a b) := by
        by_cases h : a ≤ b
        · rw [Nat.min_eq_left h, Nat.max_eq_right h, a3, b3, hbe]
        · rw [Nat.min_eq_right (by omega), Nat.max_eq_left (by omega), a3, b3, hbe]
      have at_ : ∀ x, x < ys.length → (L.map fun o => if o = max a b then min a b else o).getD x 0 = if L.getD x 0 = max a b then min a b else L.getD x 0 := fun x hx => getD_map (by rw [ih.len]; exact hx)
      have hminlt : min a b < ys.length := by omega
      refine ⟨by rw [List.length_map]; exact ih.len, fun x hx => ?_, fun x hx => ?_, fun x hx => ?_, fun r hr hrn => ?_⟩
      · rw [at_ x hx]
        have := ih.le x hx
        split <;> omega
      · rw [at_ x hx]
        by_cases h : L.getD x 0 = max a b
        · rw [if_pos h, at_ _ hminlt, hlow, if_neg heq]
        · rw [if_neg h]
          have hl := ih.le x hx
          rw [at_ _ (by omega), ih.fx x hx, if_neg h]
      · rw [at_ x hx]
        by_cases h : L.getD x 0 = max a b
        · rw [if_pos h, hbl, ← h]; exact ih.bl x hx
        · rw [if_neg h]; exact ih.bl x hx
      · rw [at_ r hrn, at_ _ (B.edge hrn).1]
        by_cases h : r = i
        · rw [h, ha, hnmE, hb]
          by_cases hab : a ≤ b
          · rw [Nat.min_eq_left hab, Nat.max_eq_right hab]
            by_cases hq : a = b <;> simp [hq]
          · rw [Nat.min_eq_right (by omega), Nat.max_eq_left (by omega)]
            by_cases hq : b = a <;> simp [hq]
        · rw [ih.ed r (by omega) hrn]
theorem conn {w : Nat} {ms : List Nat} {f : Nat → Nat} (hl : ms.length = (form w).length) (h : ∀ k, k < ms.length → f (ms.getD k 0) = f (ms.getD ((form w).getD k 0) 0)) : ∀ k, k < ms.length → f (ms.getD k 0) = f (ms.getD 0 0) := by
  unfold form at hl h
  split at hl
  all_goals (simp only [List.length_cons, List.length_nil] at hl; intro k hk)
  all_goals (have h0 := h 0 (by omega); try have h1 := h 1 (by omega))
  all_goals (try have h2 := h 2 (by omega))
  all_goals (try have h3 := h 3 (by omega))
  all_goals (rcases k with _ | _ | _ | _ | k)
  all_goals first | omega | rfl | (simp at h0 h1 h2 h3 ⊢; omega) | (simp at h0 h1 h2 ⊢; omega) | (simp at h0 h1 ⊢; omega) | (simp at h0 ⊢; omega)
end Pm

namespace Pm
inductive Cs (g : Nat → Nat) : Nat → List Nat → Prop
  | free (a) : g a = a → Cs g 0 [a]
  | pair (a b) : g a = b → g b = a → Cs g 1 [a, b]
  | claim (a b) : g a = b → g b = b → Cs g 2 [a, b]
  | hook (c a b) : g c = a → g a = b → g b = a → Cs g 3 [c, a, b]
  | relay (c a b) : g c = a → g a = b → g b = b → Cs g 4 [c, a, b]
  | clamp (d a b c) : g d = a → g a = b → g b = a → g c = b → Cs g 5 [d, a, b, c]
  | trail (d c a b) : g d = c → g c = a → g a = b → g b = a → Cs g 6 [d, c, a, b]
  | wheel (a b c d) : g a = b → g b = c → g c = d → g d = a → Cs g 7 [a, b, c, d]
theorem Blk.cs {ys : List Nat} {b : Bk} (Q : Blk ys b) : Cs (fun x => ys.getD x 0) b.1 b.2 := by
  obtain ⟨w, ms⟩ := b
  obtain ⟨hw, hl, h⟩ := Q
  dsimp only at hw hl h
  match w, hw with
  | 0, _ => match ms, hl with | [a], _ => exact .free a (by simpa [form] using h 0 (by simp))
  | 1, _ => match ms, hl with | [a, b], _ => exact .pair a b (by simpa [form] using h 0 (by simp)) (by simpa [form] using h 1 (by simp))
  | 2, _ => match ms, hl with | [a, b], _ => exact .claim a b (by simpa [form] using h 0 (by simp)) (by simpa [form] using h 1 (by simp))
  | 3, _ => match ms, hl with | [a, b, c], _ => exact .hook a b c (by simpa [form] using h 0 (by simp)) (by simpa [form] using h 1 (by simp)) (by simpa [form] using h 2 (by simp))
  | 4, _ => match ms, hl with | [a, b, c], _ => exact .relay a b c (by simpa [form] using h 0 (by simp)) (by simpa [form] using h 1 (by simp)) (by simpa [form] using h 2 (by simp))
  | 5, _ => match ms, hl with | [a, b, c, d], _ => exact .clamp a b c d (by simpa [form] using h 0 (by simp)) (by simpa [form] using h 1 (by simp)) (by simpa [form] using h 2 (by simp)) (by simpa [form] using h 3 (by simp))
  | 6, _ => match ms, hl with | [a, b, c, d], _ => exact .trail a b c d (by simpa [form] using h 0 (by simp)) (by simpa [form] using h 1 (by simp)) (by simpa [form] using h 2 (by simp)) (by simpa [form] using h 3 (by simp))
  | 7, _ => match ms, hl with | [a, b, c, d], _ => exact .wheel a b c d (by simpa [form] using h 0 (by simp)) (by simpa [form] using h 1 (by simp)) (by simpa [form] using h 2 (by simp)) (by simpa [form] using h 3 (by simp))
structure Canon (b : Bk) : Prop where
  pair : b.1 = 1 → b.2.getD 0 0 < b.2.getD 1 0
  clamp : b.1 = 5 → b.2.getD 0 0 < b.2.getD 3 0
  wheel : b.1 = 7 → b.2.getD 0 0 = mn b.2
section
variable {ys : List Nat} {bs : List Bk}
theorem lab_end (B : Built ys bs) {x : Nat} (hx : x < ys.length) : (lab ys ys.length).getD x 0 = beta bs x := by
  have Q := lab_ok B ys.length (Nat.le_refl _)
  generalize lab ys ys.length = L at Q ⊢
  obtain ⟨b, hb, hxb⟩ := B.of hx
  have P := B.blk b hb
  have cn := conn (f := fun x => L.getD x 0) P.len fun k hk => by
    show L.getD (b.2.getD k 0) 0 = _
    have hm := B.lt hb (getD_mem hk)
    rw [Q.ed _ hm hm, P.sh k hk]
  have h0 : 0 < b.2.length := List.length_pos_iff.mpr (B.ne hb)
  have same : ∀ y, y ∈ b.2 → L.getD y 0 = L.getD (b.2.getD 0 0) 0 := fun y hy => by
    obtain ⟨k, hk, rfl⟩ := mem_getD hy
    exact cn k hk
  have hmn := mn_mem (B.ne hb)
  have e1 : L.getD x 0 = L.getD (mn b.2) 0 := by rw [same x hxb, same _ hmn]
  have h1 := Q.le (mn b.2) (B.lt hb hmn)
  have h2 := Q.bl x hx
  have h3 := Q.le x hx
  have h4 := B.beta_le (x := L.getD x 0) (by omega)
  have h5 := B.beta_of hb hxb
  omega
def grp (bs : List Bk) (n m : Nat) : List Nat := (List.range n).filter fun x => decide (beta bs x = m)
def roots (bs : List Bk) (n : Nat) : List Nat := (List.range n).filter fun x => decide (beta bs x = x)
theorem nodup_filter {l : List Nat} (p : Nat → Bool) (h : l.Nodup) : (l.filter p).Nodup := h.sublist List.filter_sublist
theorem grp_nd {n m : Nat} : (grp bs n m).Nodup := nodup_filter _ List.nodup_range
theorem grp_lt {n m : Nat} : (grp bs n m).Pairwise (· < ·) := List.Pairwise.filter _ List.pairwise_lt_range
theorem Built.mem_grp (B : Built ys bs) {b : Bk} (hb : b ∈ bs) {x : Nat} : x ∈ grp bs ys.length (mn b.2) ↔ x ∈ b.2 := by
  unfold grp
  rw [List.mem_filter, List.mem_range, decide_eq_true_eq]
  constructor
  · rintro ⟨h1, h2⟩
    obtain ⟨c, hc, hx⟩ := B.of h1
    rw [B.beta_of hc hx] at h2
    have e := uniq B.nd hc hb (x := mn b.2) (by rw [← h2]; exact mn_mem (B.ne hc)) (mn_mem (B.ne hb))
    exact e ▸ hx
  · exact fun h => ⟨B.lt hb h, B.beta_of hb h⟩
theorem Built.grp_perm (B : Built ys bs) {b : Bk} (hb : b ∈ bs) : (grp bs ys.length (mn b.2)).Perm b.2 :=
  (List.perm_ext_iff_of_nodup grp_nd (nd_of B.nd hb)).mpr fun x => B.mem_grp hb
theorem Built.roots_eq (B : Built ys bs) (hs : bs.Pairwise fun a b => mn a.2 < mn b.2) : roots bs ys.length = bs.map fun b => mn b.2 := by
  have s1 : (roots bs ys.length).Pairwise (· < ·) := List.Pairwise.filter _ List.pairwise_lt_range
  have s2 : (bs.map fun b => mn b.2).Pairwise (· < ·) := List.pairwise_map.mpr hs
  refine List.Perm.eq_of_pairwise (le := (· < ·)) (fun a b _ _ h1 h2 => by omega) s1 s2 ?_
  refine (List.perm_ext_iff_of_nodup (s1.imp fun h => by omega) (s2.imp fun h => by omega)).mpr fun x => ?_
  unfold roots
  rw [List.mem_filter, List.mem_range, decide_eq_true_eq, List.mem_map]
  constructor
  · rintro ⟨h1, h2⟩
    obtain ⟨b, hb, hx⟩ := B.of h1
    exact ⟨b, hb, by rw [← h2, B.beta_of hb hx]⟩
  · rintro ⟨b, hb, rfl⟩
    exact ⟨B.lt hb (mn_mem (B.ne hb)), B.mn_beta hb⟩
/-! ### one group's row -/
def path (b : Bk) : List Nat := if b.1 = 5 then b.2.take 3 else b.2
theorem filter_one {l : List Nat} {q : Nat → Bool} {x : Nat} (nd : l.Nodup) (hx : x ∈ l) (h1 : q x = true) (h2 : ∀ y ∈ l, q y = true → y = x) : l.filter q = [x] := by
  have nd2 := nodup_filter q nd
  have m : ∀ y, y ∈ l.filter q ↔ y = x := fun y => by
    rw [List.mem_filter]
    exact ⟨fun h => h2 y h.1 h.2, fun h => by rw [h]; exact ⟨hx, h1⟩⟩
  match hl : l.filter q with
  | [] => exact absurd ((m x).mpr rfl) (by rw [hl]; simp)
  | [a] => rw [(m a).mp (by rw [hl]; simp)]
  | a :: b :: r =>
    rw [hl] at nd2 m
    have ea := (m a).mp (by simp)
    have eb := (m b).mp (by simp)
    simp [ea, eb] at nd2
theorem mn_sing {a : Nat} : mn [a] = a := rfl
/-- the walk of a form -/
structure Walks (g : Nat → Nat) (p : List Nat) : Prop where
  pos : 0 < p.length
  nd : p.Nodup
  next : ∀ j, j + 1 < p.length → g (p.getD j 0) = p.getD (j + 1) 0
  back : g (p.getD (p.length - 1) 0) ∈ p
theorem Built.walks (B : Built ys bs) {b : Bk} (hb : b ∈ bs) : Walks (fun x => ys.getD x 0) (path b) := by
  have nd := nd_of B.nd hb
  have C := (B.blk b hb).cs
  obtain ⟨w, ms⟩ := b
  dsimp only at C nd
  unfold path
  dsimp only
  generalize (fun x => ys.getD x 0) = g at C
  cases C
  all_goals (simp at nd ⊢)
  all_goals (refine ⟨by simp, by simp; try simp [nd], fun j hj => ?_, by simp [*]⟩)
  all_goals (rcases j with _ | _ | _ | _ | j)
  all_goals first | (simp at hj; done) | (simp [*]; done) | (simp at hj ⊢; omega) | skip
theorem Built.left (B : Built ys bs) {b : Bk} (hb : b ∈ bs) : path b ++ (grp bs ys.length (mn b.2)).filter (fun x => !(path b).contains x) = b.2 := by
  have nd := nd_of B.nd hb
  have C := (B.blk b hb).cs
  have M : ∀ x, x ∈ grp bs ys.length (mn b.2) ↔ x ∈ b.2 := fun x => B.mem_grp hb
  have N : (grp bs ys.length (mn b.2)).Nodup := grp_nd
  generalize grp bs ys.length (mn b.2) = l at M N
  by_cases h5 : b.1 = 5
  · obtain ⟨w, ms⟩ := b
    dsimp only at h5 C nd M ⊢
    subst h5
    cases C
    rename_i d a b c h1 h2 h3 h4
    unfold path
    simp at nd ⊢
    rw [filter_one (x := c) N (by rw [M]; simp) (by simp; omega) fun y hy hq => ?_]
    rw [M] at hy
    simp at hy hq
    omega
  · unfold path
    rw [if_neg h5]
    have e : l.filter (fun x => !b.2.contains x) = [] := by
      rw [List.filter_eq_nil_iff]
      intro x hx
      have := (M x).mp hx
      simp [this]
    rw [e, List.append_nil]
/-- where the walk starts: at the first record that no other of the group shows, or at the first one -/
theorem Built.start (B : Built ys bs) {b : Bk} (hb : b ∈ bs) (K : Canon b) (T : List Nat)
    (hT : T = (grp bs ys.length (mn b.2)).filter (fun x => !((grp bs ys.length (mn b.2)).map fun y => ys.getD y 0).contains x)) :
    (T = [] → (grp bs ys.length (mn b.2)).head? = some (b.2.getD 0 0)) ∧ (T ≠ [] → T.head? = some (b.2.getD 0 0)) := by
  have nd := nd_of B.nd hb
  have C := (B.blk b hb).cs
  have M : ∀ x, x ∈ grp bs ys.length (mn b.2) ↔ x ∈ b.2 := fun x => B.mem_grp hb
  have sh : ∀ x, ((grp bs ys.length (mn b.2)).map fun y => ys.getD y 0).contains x = (b.2.map fun y => ys.getD y 0).contains x := fun x => by
    rw [Bool.eq_iff_iff, List.contains_iff_mem, List.contains_iff_mem, List.mem_map, List.mem_map]
    exact ⟨fun ⟨y, hy, e⟩ => ⟨y, (M y).mp hy, e⟩, fun ⟨y, hy, e⟩ => ⟨y, (M y).mpr hy, e⟩⟩
  have hT2 : T = (List.range ys.length).filter fun x => decide (beta bs x = mn b.2) && !(b.2.map fun y => ys.getD y 0).contains x := by
    rw [hT]
    unfold grp
    rw [List.filter_filter]
    refine List.filter_congr fun x hx => ?_
    have := sh x
    unfold grp at this
    rw [this, Bool.and_comm]
  have inB : ∀ x, x < ys.length → (decide (beta bs x = mn b.2) = true ↔ x ∈ b.2) := fun x hx => by
    rw [← M x]
    unfold grp
    rw [List.mem_filter, List.mem_range]
    exact ⟨fun h => ⟨hx, h⟩, fun h => h.2⟩
  have root : b.2.getD 0 0 = mn b.2 → (grp bs ys.length (mn b.2)).head? = some (b.2.getD 0 0) := fun e => by
    unfold grp
    rw [List.head?_filter, List.find?_range_eq_some, e]
    refine ⟨by rw [decide_eq_true_eq]; exact B.mn_beta hb, List.mem_range.mpr (B.lt hb (mn_mem (B.ne hb))), fun j hj => ?_⟩
    have hjn : j < ys.length := Nat.lt_trans hj (B.lt hb (mn_mem (B.ne hb)))
    have := B.beta_le hjn
    simp
    omega
  have tail : ∀ m0 : Nat, m0 ∈ b.2 → (b.2.map fun y => ys.getD y 0).contains m0 = false → (∀ j, j < m0 → j ∈ b.2 → (b.2.map fun y => ys.getD y 0).contains j = true) → T.head? = some m0 := fun m0 h1 h2 h3 => by
    rw [hT2, List.head?_filter, List.find?_range_eq_some]
    refine ⟨by rw [h2, (inB m0 (B.lt hb h1)).mpr h1]; rfl, List.mem_range.mpr (B.lt hb h1), fun j hj => ?_⟩
    have hjn : j < ys.length := Nat.lt_trans hj (B.lt hb h1)
    by_cases hjb : j ∈ b.2
    · rw [h3 j hj hjb]
      simp
    · have : decide (beta bs j = mn b.2) = false := by
        cases h : decide (beta bs j = mn b.2) with
        | false => rfl
        | true => exact absurd ((inB j hjn).mp h) hjb
      rw [this]
      rfl
  have none : (∀ x ∈ b.2, (b.2.map fun y => ys.getD y 0).contains x = true) → T = [] := fun h => by
    rw [hT2, List.filter_eq_nil_iff]
    intro x hx
    have hxn := List.mem_range.mp hx
    by_cases hxb : x ∈ b.2
    · rw [h x hxb]
      simp
    · intro z
      rw [Bool.and_eq_true] at z
      exact hxb ((inB x hxn).mp z.1)
  obtain ⟨w, ms⟩ := b
  dsimp only at *
  generalize hg : (fun y => ys.getD y 0) = g at C tail none
  clear hT hT2 sh
  cases C with
  | free a h1 =>
    have t := none (by simp [h1])
    exact ⟨fun _ => root rfl, fun h => absurd t h⟩
  | pair a b h1 h2 =>
    have t := none (by simp [h1, h2])
    have := K.pair rfl
    simp at this
    exact ⟨fun _ => root (by simp [mn]; omega), fun h => absurd t h⟩
  | wheel a b c d h1 h2 h3 h4 =>
    have t := none (by simp [h1, h2, h3, h4])
    exact ⟨fun _ => root (K.wheel rfl), fun h => absurd t h⟩
  | claim a b h1 h2 =>
    simp at nd
    have t := tail a (by simp) (by simp [h1, h2]; omega) (fun j hj hm => by simp at hm; simp [h1, h2]; omega)
    exact ⟨fun h => (by rw [h] at t; simp at t), fun _ => t⟩
  | hook c a b h1 h2 h3 =>
    simp at nd
    have t := tail c (by simp) (by simp [h1, h2, h3]; omega) (fun j hj hm => by simp at hm; simp [h1, h2, h3]; omega)
    exact ⟨fun h => (by rw [h] at t; simp at t), fun _ => t⟩
  | relay c a b h1 h2 h3 =>
    simp at nd
    have t := tail c (by simp) (by simp [h1, h2, h3]; omega) (fun j hj hm => by simp at hm; simp [h1, h2, h3]; omega)
    exact ⟨fun h => (by rw [h] at t; simp at t), fun _ => t⟩
  | clamp d a b c h1 h2 h3 h4 =>
    simp at nd
    have kk := K.clamp rfl
    simp at kk
    have t := tail d (by simp) (by simp [h1, h2, h3, h4]; omega) (fun j hj hm => by simp at hm; simp [h1, h2, h3, h4]; omega)
    exact ⟨fun h => (by rw [h] at t; simp at t), fun _ => t⟩
  | trail d c a b h1 h2 h3 h4 =>
    simp at nd
    have t := tail d (by simp) (by simp [h1, h2, h3, h4]; omega) (fun j hj hm => by simp at hm; simp [h1, h2, h3, h4]; omega)
    exact ⟨fun h => (by rw [h] at t; simp at t), fun _ => t⟩
end
end Pm

namespace L2
open PySem PySem.Spec PyProof.Rows
/-! ### a table of the text keyed by tuples of ints -/
def numK (ks : List Nat) : NestedKey := .tup (ks.map fun k : Nat => NestedKey.num (k : Int))
/-- at a, in the written part: a table of the given keys and texts -/
def TabK (P : Program) (w : World) (K : PySem.W.Frag) (a : Addr) (kvs : List (List Nat × Str)) : Prop := (a == sysModules) = false ∧
  ∃ ts : List Tok, ∀ h : Heap, K.In h → h.DictKeyed (nestedKind P w) a ((kvs.zip ts).map fun x => (numK x.1.1, Value.str x.1.2 x.2)) ∧ ts.length = kvs.length
theorem numK_depth : ∀ ks : List Nat, (numK ks).depth ≤ 8 := fun ks => by
  have h : ∀ l : List Nat, NestedKey.depthAll (l.map fun k : Nat => NestedKey.num (k : Int)) ≤ 1 := fun l => by
    induction l with
    | nil => simp [NestedKey.depthAll]
    | cons a l ih =>
      simp only [List.map_cons, NestedKey.depthAll, NestedKey.depth]
      omega
  have := h ks
  unfold numK
  simp only [NestedKey.depth]
  omega
theorem numAll_of {h : Heap} : ∀ {ks : List Nat} {us : List Value}, Vals (ks.map fun k : Nat => V.int (k : Int)) us → NestedAll h (ks.map fun k : Nat => NestedKey.num (k : Int)) us
  | [], _, r => by cases r; exact .nil
  | k :: ks, _, r => by
    cases r with
    | cons r1 r2 =>
      obtain ⟨t, e⟩ := r1
      rw [e]
      exact .cons (.int _ t) (numAll_of r2)
/-- d.get(t) of such a table, the key there -/
def tTabGet (P : Program) (w : World) (K : PySem.W.Frag) (td te : TE) : TE := fun σ H Q => td σ H fun x H1 => ∃ (a : Addr) (kvs : List (List Nat × Str)), x = .ref a ∧ TabK P w K a kvs ∧ te σ H1 fun y H2 => ∃ (p : Addr) (ks : List Nat) (z : Str), y = .ref p ∧ H2 p = some (.tup (ks.map fun k : Nat => V.int (k : Int))) ∧
  (∃ i, kvs[i]? = some (ks, z) ∧ ∀ (j : Nat) (q : List Nat × Str), j < i → kvs[j]? = some q → q.1 ≠ ks) ∧ Q (.str z) H2
theorem numK_inj {a b : List Nat} (h : numK a = numK b) : a = b := by
  unfold numK at h
  injection h with h
  have g : ∀ {l m : List Nat}, (l.map fun k : Nat => NestedKey.num (k : Int)) = (m.map fun k : Nat => NestedKey.num (k : Int)) → l = m := by
    intro l
    induction l with
    | nil =>
      intro m e
      cases m with
      | nil => rfl
      | cons _ _ => cases e
    | cons a l ih =>
      intro m e
      cases m with
      | nil => cases e
      | cons b m =>
        rw [List.map_cons, List.map_cons] at e
        injection e with e1 e2
        injection e1 with e1
        have : a = b := by omega
        rw [this, ih e2]
  exact g h
theorem tab_find {ks : List Nat} {z : Str} : ∀ {kvs : List (List Nat × Str)} {ts : List Tok} {i : Nat}, ts.length = kvs.length → kvs[i]? = some (ks, z) → (∀ (j : Nat) (q : List Nat × Str), j < i → kvs[j]? = some q → q.1 ≠ ks) →
    ∃ t : Tok, valueAt ((kvs.zip ts).map fun x => (numK x.1.1, Value.str x.1.2 x.2)) (numK ks) = some (Value.str z t)
  | [], _, i, _, h, _ => by simp at h
  | _ :: _, [], _, hl, _, _ => by simp at hl
  | (k0, z0) :: kvs, t0 :: ts, 0, _, h, _ => by
    have e := Option.some.inj h
    cases e
    exact ⟨t0, by simp [valueAt]⟩
  | (k0, z0) :: kvs, t0 :: ts, i + 1, hl, h, hn => by
    have ne : k0 ≠ ks := hn 0 (k0, z0) (Nat.succ_pos _) rfl
    have ne2 : ¬ numK k0 = numK ks := fun e => ne (numK_inj e)
    obtain ⟨t, e⟩ := tab_find (ks := ks) (z := z) (kvs := kvs) (ts := ts) (i := i) (by simpa using hl) (by simpa using h) fun j q hj hq => hn (j + 1) q (by omega) (by simpa using hq)
    refine ⟨t, ?_⟩
    unfold valueAt at e ⊢
    rw [List.zip_cons_cons, List.map_cons, List.find?_cons_of_neg (by simpa using ne2)]
    exact e
theorem pe_tabGet {X : Cx} {o e : Expr} {td te : TE} {apos cpos : Pos} (hu : X.A.units + 64 < cLine) (ho : PE X o td) (he : PE X e te) (m : M1 X o "get" apos e cpos) : PE X (.Call (.Attribute o "get" apos) [e] [] cpos) (tTabGet X.prog X.w X.K td te) := by
  refine ⟨fun pins s σ H Q I h => ?_⟩
  refine wpAny_Call_method m.base m.few m.line PySem.F.plainAttrs_dict PySem.F.slot_dict_get PySem.F.type_dict_get (thn (ho.run pins s σ H _ I h) fun u s1 ⟨x, H1, I1, rx, a, kvs, ex, ⟨hsm, ts, hT⟩, q1⟩ => ?_)
  subst ex
  obtain rfl : u = Value.ref a := rx
  obtain ⟨hD, _⟩ := hT _ I1.kIn
  have hD' := hD
  obtain ⟨xs, ⟨ob, es, ep, hob, hcl, hdat, _⟩, _⟩ := hD'
  refine ⟨hD.typeIs, fun b q => by cases q; exact ⟨ob, hob, hcl.2.1⟩, ?_⟩
  rw [m.trees]
  refine Calls.callWith_builtin rfl (Calls.evalArgs_plain (Calls.spliced_cons (thn (he.run pins s1 σ H1 _ I1 q1) fun iv s2 ⟨y, H2, I2, ry, p, ks, z, ey, hp, ⟨i, hi, hlt⟩, q2⟩ => Calls.spliced_nil ?_)))
  subst ey
  obtain rfl : iv = Value.ref p := ry
  obtain ⟨_, its, rv, ot, h1, h2, n, h3⟩ := (show ObjOk X.prog X.w H2 s2.heap p (.tup (ks.map fun k : Nat => V.int (k : Int))) from I2.hok p _ hp)
  obtain ⟨hD2, hlen⟩ := hT _ I2.kIn
  obtain ⟨t, ht⟩ := tab_find hlen hi hlt
  have hk : (nestedKind X.prog X.w).is s2.heap (numK ks) p := ⟨.tup h1 h2 h3 (by simpa using numAll_of (h := s2.heap) rv), numK_depth ks⟩
  refine get_keyed (knd := nestedKind X.prog X.w) (show X.A.in1.units + 8 < cLine by show X.A.units + 1 + 8 < cLine; omega) hk hsm hD2 ?_
  rw [ht]
  exact ⟨.str z, H2, I2.tok _, ⟨t, rfl⟩, q2⟩
/-! ### list(d.values()), list(d.keys()) -/
def tListVals (te : TE) : TE := fun σ H Q => te σ H fun x H1 => ∃ (d : Addr) (kvs : List (Key × V)), x = .ref d ∧ H1 d = some (.dK kvs) ∧ ∀ p, H1 p = none → Q (.ref p) (upd H1 p (.lst (kvs.map (·.2))))
def tListKeys (te : TE) : TE := fun σ H Q => te σ H fun x H1 => ∃ (d : Addr) (kvs : List (Key × V)), x = .ref d ∧ H1 d = some (.dK kvs) ∧ ∀ p, H1 p = none → Q (.ref p) (upd H1 p (.lst (kvs.map fun kv => kV kv.1)))
theorem vals_items {P : Nat → Value → Prop} : ∀ {xs : List V} {us : List Value} (k : Nat), us.length = xs.length → (∀ j v, us[j]? = some v → P (k + j) v) → (∀ j x v, xs[j]? = some x → P (k + j) v → RelV x v) → Vals xs us
  | [], [], _, _, _, _ => .nil
  | [], _ :: _, _, h, _, _ => by simp at h
  | _ :: _, [], _, h, _, _ => by simp at h
  | x :: xs, u :: us, k, h, h1, h2 => .cons (h2 0 x u rfl (h1 0 u rfl)) (vals_items (P := P) (k + 1) (by simpa using h) (fun j v e => by
      have := h1 (j + 1) v (by simpa using e)
      rw [show k + (j + 1) = k + 1 + j by omega] at this
      exact this) fun j y v e p => h2 (j + 1) y v (by simpa using e) (by rw [show k + (j + 1) = k + 1 + j by omega]; exact p))
section
variable {X : Cx} {e : Expr} {te : TE} {p apos cpos pos : Pos}
theorem pe_listVals (hc : X.calm = true) (he : PE X e te) (hg : Gl X "list") (hm : X.mg "list" = none) (hbase : attributeBase e "values" X.env (eval e X.env) = eval e X.env := by rfl) (hline : (apos.endLine == cpos.line) = true := by rfl)
    (hs : starEach [.Call (.Attribute e "values" apos) [] [] cpos] X.env = (false, eval (.Call (.Attribute e "values" apos) [] [] cpos) X.env) :: starEach [] X.env := by rfl) :
    PE X (.Call (.Name "list" p) [.Call (.Attribute e "values" apos) [] [] cpos] [] pos) (tListVals te) := by
  refine ⟨fun pins s σ H Q I hq => ?_⟩
  refine wpAny_Call_Name_kw (ld_blt I hg hm (by decide +kernel : bootBuiltins "list" = some (.type "list")) ?_)
  refine PyProof.Rows.callWith_type1 ?_ hs rfl
  rw [hs]
  show wpAny _ _ (spliced ((false, eval (.Call (.Attribute e "values" apos) [] [] cpos) X.env) :: backTo pos (starEach [] X.env))) _ _ s
  refine Calls.spliced_cons ?_
  refine wpAny_Call_method (T := "dict") (id := "dict.values") hbase rfl hline F.plainAttrs_dict F.slot_dict_values F.type_dict_values (thn (he.run pins s σ H _ I hq) fun u s1 ⟨x, H1, I1, rx, d, kvs, ex, hd, q⟩ => ?_)
  subst ex
  obtain rfl : u = Value.ref d := rx
  obtain ⟨hz, hs0, vs, kv, hdo⟩ := I1.hok d _ hd
  obtain ⟨ep, hat⟩ := hdo.dictAt
  have lk : kvs.length = vs.length := Paired.length kv
  refine ⟨hdo.typeIs, hdo.mapOf.noDict, ?_⟩
  show wpAny _ _ (callWith cpos (.builtin "dict.values") [.ref d] [] []) _ X.xe s1
  refine method_meetsIn F.slot_dict_values F.entry_dict_values rfl (PySem.evalArgs_none ⟨rfl, hdo.typeIs, F.args_dict_values_1 _, _, meets_dict_values (mixKind X.prog X.w) d hs0, ⟨vs, hdo⟩, ?_⟩)
  refine Calls.spliced_nil ?_
  refine PySem.W.kdl_call (PySem.W.kdl_values (knd := mixKind X.prog X.w) (kvs := vs) (ep := ep) (r := s1.heap.objs.size)) (I1.ok.hd hc) ⟨⟨_, Heap.get?_push_size _ rfl, rfl, rfl⟩, hat.push _⟩ (by omega) fun h' tk acc c hk hS hI => ?_
  have keep : ∀ b o, s1.heap.get? b = some o → h'.get? b = some o := fun b o z => hk b o (Heap.get?_push_of_some _ z)
  have hl : acc.toList.length = (kvs.map (·.2)).length := by rw [Array.length_toList, List.length_map, hI.1]; omega
  have rv : Vals (kvs.map (·.2)) acc.toList := vals_items (P := fun i v => ∃ k, vs[i]? = some (k, v)) 0 hl (fun j v z => by rw [Nat.zero_add]; exact hI.2 j v (by rw [← Array.getElem?_toList]; exact z)) fun j y v z ⟨k, w'⟩ => by
    rw [Nat.zero_add] at w'
    obtain ⟨q0, g1, g2⟩ : ∃ q0, kvs[j]? = some q0 ∧ y = q0.2 := by
      rw [List.getElem?_map] at z
      cases h : kvs[j]? with
      | none => rw [h] at z; cases z
      | some q0 => rw [h] at z; exact ⟨q0, rfl, (Option.some.inj z).symm⟩
    obtain ⟨pk, e2, e3⟩ := LiI.paired_get kv g1
    rw [w'] at e2
    cases e2
    rw [g2]
    exact e3.2
  refine ⟨.ref _, upd H1 _ (.lst (kvs.map (·.2))), I1.laid (t' := tk) keep (Nat.le_succ _ |> fun z => by rw [Heap.size_push]; exact z) ⟨by rw [List.length_map]; omega, acc.toList, c, rv, by simpa using hS⟩, rfl, q _ (I1.hok.fresh (by rw [Heap.size_push]; exact Nat.le_succ _))⟩
theorem pe_listKeys (hc : X.calm = true) (he : PE X e te) (hg : Gl X "list") (hm : X.mg "list" = none) (hbase : attributeBase e "keys" X.env (eval e X.env) = eval e X.env := by rfl) (hline : (apos.endLine == cpos.line) = true := by rfl)
    (hs : starEach [.Call (.Attribute e "keys" apos) [] [] cpos] X.env = (false, eval (.Call (.Attribute e "keys" apos) [] [] cpos) X.env) :: starEach [] X.env := by rfl) :
    PE X (.Call (.Name "list" p) [.Call (.Attribute e "keys" apos) [] [] cpos] [] pos) (tListKeys te) := by
  refine ⟨fun pins s σ H Q I hq => ?_⟩
  refine wpAny_Call_Name_kw (ld_blt I hg hm (by decide +kernel : bootBuiltins "list" = some (.type "list")) ?_)
  refine PyProof.Rows.callWith_type1 ?_ hs rfl
  rw [hs]
  show wpAny _ _ (spliced ((false, eval (.Call (.Attribute e "keys" apos) [] [] cpos) X.env) :: backTo pos (starEach [] X.env))) _ _ s
  refine Calls.spliced_cons ?_
  refine wpAny_Call_method (T := "dict") (id := "dict.keys") hbase rfl hline F.plainAttrs_dict F.slot_dict_keys F.type_dict_keys (thn (he.run pins s σ H _ I hq) fun u s1 ⟨x, H1, I1, rx, d, kvs, ex, hd, q⟩ => ?_)
  subst ex
  obtain rfl : u = Value.ref d := rx
  obtain ⟨hz, hs0, vs, kv, hdo⟩ := I1.hok d _ hd
  obtain ⟨ep, hat⟩ := hdo.dictAt
  have lk : kvs.length = vs.length := Paired.length kv
  refine ⟨hdo.typeIs, hdo.mapOf.noDict, ?_⟩
  show wpAny _ _ (callWith cpos (.builtin "dict.keys") [.ref d] [] []) _ X.xe s1
  refine method_meetsIn F.slot_dict_keys F.entry_dict_keys rfl (PySem.evalArgs_none ⟨rfl, hdo.typeIs, F.args_dict_keys_1 _, _, PySem.W.kdl_meets_keys (mixKind X.prog X.w) d hs0, ⟨vs, hdo⟩, ?_⟩)
  refine Calls.spliced_nil ?_
  refine PySem.W.kdl_call (PySem.W.kdl_keys (knd := mixKind X.prog X.w) (kvs := vs) (ep := ep) (r := s1.heap.objs.size)) (I1.ok.hd hc) ⟨⟨_, Heap.get?_push_size _ rfl, rfl, rfl⟩, hat.push _⟩ (by omega) fun h' tk acc c hk hS hI => ?_
  have keep : ∀ b o, s1.heap.get? b = some o → h'.get? b = some o := fun b o z => hk b o (Heap.get?_push_of_some _ z)
  have hl : acc.toList.length = (kvs.map fun kv => kV kv.1).length := by rw [Array.length_toList, List.length_map, hI.1]; omega
  have rv : Vals (kvs.map fun kv => kV kv.1) acc.toList := vals_items (P := fun i v => ∃ k x, vs[i]? = some (k, x) ∧ (mixKind X.prog X.w).is k v = true) 0 hl (fun j v z => by rw [Nat.zero_add]; exact hI.2 j v (by rw [← Array.getElem?_toList]; exact z)) fun j y v z ⟨k, x, w', w2⟩ => by
    rw [Nat.zero_add] at w'
    obtain ⟨q0, g1, g2⟩ : ∃ q0, kvs[j]? = some q0 ∧ y = kV q0.1 := by
      rw [List.getElem?_map] at z
      cases h : kvs[j]? with
      | none => rw [h] at z; cases z
      | some q0 => rw [h] at z; exact ⟨q0, rfl, (Option.some.inj z).symm⟩
    obtain ⟨pk, e2, e3⟩ := LiI.paired_get kv g1
    rw [w'] at e2
    cases e2
    rw [g2]
    rw [e3.1]
    exact relV_key (show keyIs k v = true from w2)
  refine ⟨.ref _, upd H1 _ (.lst (kvs.map fun kv => kV kv.1)), I1.laid (t' := tk) keep (Nat.le_succ _ |> fun z => by rw [Heap.size_push]; exact z) ⟨by rw [List.length_map]; omega, acc.toList, c, rv, by simpa using hS⟩, rfl, q _ (I1.hok.fresh (by rw [Heap.size_push]; exact Nat.le_succ _))⟩
end
end L2

namespace SrtO
open PySem PyProof.Rows PySem.W
/-- a tuple of two ints and an object -/
def IsRow (h : Heap) (v : Value) (x : Int) : Prop := ∃ a o t y u c n, v = .ref a ∧ h.get? a = some o ∧ o.cls = .type "tuple" ∧ o.data = .seq #[.int x t, .int y u, .ref c] n
theorem IsRow.keeps {h h' : Heap} {v : Value} {x : Int} (p : IsRow h v x) (k : ∀ b o, h.get? b = some o → o.cls = .type "tuple" → h'.get? b = some o) : IsRow h' v x := by
  obtain ⟨a, o, t, y, u, c, n, e, ho, hc, hd⟩ := p
  exact ⟨a, o, t, y, u, c, n, e, k _ _ ho hc, hc, hd⟩
theorem row_firsts {h : Heap} : ∀ {vs : List Value}, (∀ v ∈ vs, ∃ x, IsRow h v x) → ∃ fs : List Value, PySem.W.KatTups h vs fs ∧ fs.length = vs.length ∧ ∀ f ∈ fs, ∃ x t, f = Value.int x t
  | [], _ => ⟨[], PySem.W.KatTups.nil, rfl, fun _ hm => by simp at hm⟩
  | v :: vs, hv => by
    obtain ⟨fs, h1, h2, h3⟩ := row_firsts (h := h) (vs := vs) fun w hw => hv w (List.mem_cons_of_mem _ hw)
    obtain ⟨x, a, o, t, y, u, c, n, e, ho, hc, hd⟩ := hv v List.mem_cons_self
    subst e
    refine ⟨.int x t :: fs, .cons ho hc hd rfl h1, by simp [h2], fun f hf => ?_⟩
    rcases List.mem_cons.mp hf with e | hf
    · exact ⟨x, t, e⟩
    · exact h3 f hf
theorem swo_key (k : Value → Int) : Swo fun v u => decide (k v < k u) := by
  refine ⟨fun x y h => ?_, fun x y z h1 h2 => ?_⟩
  · have a := of_decide_eq_true h
    exact decide_eq_false (by omega)
  · have a := of_decide_eq_false h1
    have b := of_decide_eq_false h2
    exact decide_eq_false (by omega)
section
variable {prog : Program} {w : World} {A : Around} {E : Value → Shared → Prop} {s : Shared}
theorem row_cmp {vs : List Value} {k : Value → Int} (hp : ∀ v ∈ vs, IsRow s.heap v (k v)) (hi : ∀ v ∈ vs, ∀ u ∈ vs, k v = k u → v = u) : Cmp prog w A s (tuples' true) (fun p => p.1 ∈ vs) (lt2 fun v u => decide (k v < k u)) := by
  intro p q hm hm'
  have h1 := hp _ hm
  have h2 := hp _ hm'
  have h3 := hi _ hm _ hm'
  show wpAny (model prog w) A (keyLt' (tuples' true) p.1 q.1) (fun r s' => s' = s ∧ r = decide (k p.1 < k q.1)) (fun _ _ => False) s
  generalize k p.1 = x at h1 h3 ⊢
  generalize k q.1 = x' at h2 h3 ⊢
  obtain ⟨a, o, t, y, u, c, n, e, ho, hc, hd⟩ := h1
  obtain ⟨a', o', t', y', u', c', n', e', ho', hc', hd'⟩ := h2
  rw [e, e'] at h3 ⊢
  refine PySem.W.kat_lt ho hd ho' hd' ?_
  show PySem.W.KatLex prog w A true (decide (3 < 3)) _ [(.int x t, .int x' t'), (.int y u, .int y' u'), (.ref c, .ref c')] 0 s
  refine PySem.W.kat_cons (SeqAt.EqAt.int_int x t x' t' prog w _ _ ?_)
  refine PySem.W.kat_go (fun e1 => ?_) (fun e1 => ?_)
  · have ex : x = x' := by simpa using e1
    have ea : a = a' := Value.ref.inj (h3 ex)
    subst ea
    rw [ho] at ho'
    have eo := Option.some.inj ho'
    subst eo
    rw [hd] at hd'
    injection hd' with ed _
    have ey : y = y' := by
      have z := congrArg (fun a : Array Value => a[1]?) ed
      simp at z
      exact z.1
    have ec : c = c' := by
      have z := congrArg (fun a : Array Value => a[2]?) ed
      simpa using z
    subst ec
    refine PySem.W.kat_yes (PySem.W.kat_cons (SeqAt.EqAt.int_int y u y' u' prog w _ _ ?_))
    refine PySem.W.kat_go (fun e2 => ?_) (fun e2 => ?_)
    · refine PySem.W.kat_yes (PySem.W.kat_cons (SeqAt.EqAt.same (.ref c) prog w _ _ ?_))
      refine PySem.W.kat_go (fun _ => ?_) (fun z => nomatch z)
      refine PySem.W.kat_yes (PySem.W.kat_nil ⟨rfl, ?_⟩)
      rw [ex]
      exact (decide_eq_false (by omega)).symm
    · exact absurd ey (by simpa using e2)
  · have ex : ¬ x = x' := by simpa using e1
    exact PySem.W.kat_no (oneLt_int ⟨rfl, rfl⟩)
theorem rows_sortableO {a : Addr} {vs : List Value} {k : Value → Int} (h0 : 0 < vs.length) (hp : ∀ v ∈ vs, IsRow s.heap v (k v)) (hi : ∀ v ∈ vs, ∀ u ∈ vs, k v = k u → v = u) (ha : ∀ o, s.heap.get? a = some o → o.cls ≠ .type "tuple") : SortableO prog w A s a vs fun v u => decide (k v < k u) := by
  intro h' keep
  have hp' : ∀ v ∈ vs, IsRow h' v (k v) := fun v hm => (hp v hm).keeps fun b o e c => keep b o (fun z => by subst z; exact ha o e c) e
  obtain ⟨fs, h1, h2, h3⟩ := row_firsts fun v hm => ⟨_, hp' v hm⟩
  refine ⟨tuples' true, fun Q E hq => ?_, row_cmp hp' hi⟩
  refine PySem.W.kat_kind (T := .type "int") h1 (by omega) (fun f hm => ?_) (by rfl) ?_
  · obtain ⟨x, t, rfl⟩ := h3 f hm
    exact PySem.W.Looks.now
  · have e : (Value.type "int" != Value.type "tuple") = true := by first | decide +kernel | rfl | decide
    rw [e]
    exact hq
theorem sorted_rowsO {l : Addr} {vs : List Value} {k : Value → Int} {Q : Value → Shared → Prop} (hl : s.heap.IsList l vs.toArray) (hz : vs.length ≤ sizeLine) (hp : ∀ v ∈ vs, IsRow s.heap v (k v)) (hi : ∀ v ∈ vs, ∀ u ∈ vs, k v = k u → v = u)
    (h : ∀ (h' : Heap) (d : Addr) (out : List Value), Srtd (fun v u => decide (k v < k u)) out → Stb (fun v u => decide (k v < k u)) out vs → (∀ b o, s.heap.get? b = some o → h'.get? b = some o) → s.heap.objs.size ≤ d → (∃ n, h'.get? d = some (seqObj "list" out.toArray n)) → Q (.ref d) { s with heap := h' }) :
    wpAny (model prog w) A (call (.builtin "sorted") [.ref l]) Q E s := by
  refine sorted_ord (swo_key k) hl hz (fun h2 h₁ a ha kk => ?_) fun out hs hb => ?_
  · refine rows_sortableO (s := { s with heap := h₁ }) (by omega) (fun v hm => (hp v hm).keeps fun b o e _ => (kk b o e).2) hi fun o e => ?_
    have e' : some o = some (seqObj "list" vs.toArray 0) := e.symm.trans ha
    cases e'
    intro c
    exact absurd (Value.type.inj c) (by decide)
  · exact h _ _ out hs hb (fun b o e => sortedAll_old e) (Nat.le_succ _) (sortedAll_at s.heap vs out.toArray)
end
end SrtO
namespace L2
open PySem PySem.Spec PyProof.Rows
def rSortedR (K : PySem.W.Frag) : List V → Hp → VK → Prop := fun vs H Q => ∃ (a : Addr) (rs : List Addr) (k : Addr → Int), vs = [V.ref a] ∧ SqL K H a (rs.map V.ref) ∧ (∀ r ∈ rs, ∃ (y : Int) (c : Addr), H r = some (.tup [.int (k r), .int y, .ref c])) ∧
  (∀ r ∈ rs, ∀ r' ∈ rs, k r = k r' → r = r') ∧ ∀ (rs' : List Addr) (p : Addr), rs'.Perm rs → rs'.Pairwise (fun a b => k a ≤ k b) → H p = none → Q (.ref p) (upd H p (.lst (rs'.map V.ref)))
theorem vals_refs_eq : ∀ {rs : List Addr} {us : List Value}, Vals (rs.map V.ref) us → us = rs.map Value.ref
  | [], _, r => by cases r; rfl
  | a :: rs, _, r => by
    cases r with
    | cons r1 r2 =>
      rw [vals_refs_eq r2]
      cases r1
      rfl
def addrV : Value → Addr
  | .ref a => a
  | _ => 0
theorem cr_sortedR {X : Cx} : CallR X (.builtin "sorted") (rSortedR X.K) := by
  intro pins s σ H vs us Q I r h
  obtain ⟨a, rs, k, rfl, hs, hx, hi, q⟩ := h
  obtain ⟨its, rv, hl, hz⟩ := I.list hs
  obtain ⟨u, rfl, ru⟩ := vals1 r
  obtain rfl : u = Value.ref a := ru
  have ei := vals_refs_eq rv
  subst ei
  refine SrtO.sorted_rowsO (k := fun u => k (addrV u)) hl.isList (by rw [List.length_map] at *; exact hz) (fun v hv => ?_) (fun v hv u hu e => ?_) fun h' d out h1 h2 kp hd hn => ?_
  · obtain ⟨t, ht, rfl⟩ := List.mem_map.mp hv
    obtain ⟨y, c, e⟩ := hx t ht
    obtain ⟨_, its2, r2, o, ho, hc, n, hdt⟩ := (show ObjOk X.prog X.w H s.heap t (.tup [.int (k t), .int y, .ref c]) from I.hok _ _ e)
    cases r2 with
    | cons a1 r2 =>
      cases r2 with
      | cons a2 r2 =>
        cases r2 with
        | cons a3 r2 =>
          cases r2
          obtain ⟨t1, rfl⟩ := a1
          obtain ⟨t2, rfl⟩ := a2
          cases a3
          exact ⟨t, o, t1, y, t2, c, n, rfl, ho, hc, hdt⟩
  · obtain ⟨t, ht, rfl⟩ := List.mem_map.mp hv
    obtain ⟨t', ht', rfl⟩ := List.mem_map.mp hu
    rw [hi t ht t' ht' e]
  · obtain ⟨n, hn⟩ := hn
    have hp := h2.perm
    have eo : out = (out.map addrV).map Value.ref := by
      rw [List.map_map]
      have : ∀ u ∈ out, Value.ref (addrV u) = u := fun u hu => by
        obtain ⟨t, _, rfl⟩ := List.mem_map.mp (hp.mem_iff.mp hu)
        rfl
      conv => lhs; rw [← List.map_id out]
      exact List.map_congr_left fun u hu => (this u hu).symm
    have hp2 : (out.map addrV).Perm rs := by
      have z := hp.map addrV
      rw [List.map_map] at z
      have id : (rs.map (addrV ∘ Value.ref)) = rs := by
        conv => rhs; rw [← List.map_id rs]
        rfl
      rw [id] at z
      exact z
    have hs2 : (out.map addrV).Pairwise (fun a b => k a ≤ k b) := by
      rw [List.pairwise_map]
      refine List.Pairwise.imp (fun {a b} h => ?_) h1
      have := of_decide_eq_false h
      omega
    refine ⟨.ref d, upd H d (.lst ((out.map addrV).map V.ref)), I.laid (t' := s.toks) kp hd ⟨?_, out, n, ?_, hn⟩, rfl, q _ d hp2 hs2 (I.hok.fresh hd)⟩
    · rw [List.length_map, hp2.length_eq]
      rw [List.length_map] at hz
      exact hz
    · rw [eo]
      have g : ∀ l : List Addr, Vals (l.map V.ref) (l.map Value.ref) := fun l => by
        induction l with
        | nil => exact .nil
        | cons a l ih => exact .cons rfl ih
      rw [← eo]
      conv => arg 2; rw [eo]
      exact g _
/-- list.index within a comprehension -/
theorem pe_indexK {X : Cx} {K : PySem.W.Frag} (h : X.K = K) {o e : Expr} {to te : TE} {apos cpos : Pos} (p : PE X (.Call (.Attribute o "index" apos) [e] [] cpos) (tBM X.K "list" (rIndex X.K) to (tCons te tNil))) : PE X (.Call (.Attribute o "index" apos) [e] [] cpos) (tBM K "list" (rIndex K) to (tCons te tNil)) := by
  subst h
  exact p
theorem op_notInK {X : Cx} {K : PySem.W.Frag} (h : X.K = K) : OpR X (compareOp .NotIn) (rIn K true) := by
  subst h
  exact op_notIn_seq
end L2

namespace L2
open PySem PySem.Spec PyProof.Rows
section
variable {X : Cx}
/-- a name of the def's own, on the line of the comprehension: stored within its frame -/
theorem swd_true {kx vx : Expr} {gs : List Comprehension} {scope : Scope} {pos py : Pos} {y : Str} {l : Nat} {env : Env} (e1 : env.scope.kind = .function) (e2 : env.scope.names.lookup y = some .local) (e3 : (py.line == pos.line) = true)
    (e4 : (scope.names.any fun (n, k) => n == y && (k == .local || k == .cell)) = false) : swapsWith (.DictComp kx vx gs scope pos) (some (.Name y py)) l env = pure true := by
  have a1 : env.kindOf y = some .local := e2
  have a2 : env.blockKind = .function := (by unfold Env.blockKind; rw [e1]; rfl)
  unfold swapsWith
  simp only [a2, a1, e4, Expr.pos, e3]
  rfl
/-- y = {k: v for x in xs} -/
theorem ps_setDc {i : Nat} {y : Str} {py pos spos : Pos} {kx vx tg iter : Expr} {ifs : List Expr} {scope : Scope} {own : List (Str × Nat)} {wi : TI} {g : TG} {tt : TT} {tk tv : TE} (calm : X.calm = true) (nd : X.N.Nodup) (at_y : X.N[i]? = some y) (loc : X.env.scope.names.lookup y = some .local)
    (sw : swapsWith (.DictComp kx vx [⟨tg, iter, ifs, 0⟩] scope pos) (some (.Name y py)) spos.line X.env = pure true) (walk : PI X tg iter wi) (ok : BlkOk X.N X.env.scope scope own)
    (rg : ∀ (s : Shared) (H : Hp) (C : Addr) (cl : List (Str × Addr)) (fp : List Addr), PG (X.blk s H scope (compEnvC scope cl C X.env) fp) tg g)
    (rt : ∀ (s : Shared) (H : Hp) (C : Addr) (cl : List (Str × Addr)) (fp : List Addr), PTs (X.blk s H scope (compEnvC scope cl C X.env) fp) ifs tt)
    (rk : ∀ (s : Shared) (H : Hp) (C : Addr) (cl : List (Str × Addr)) (fp : List Addr), PE (X.blk s H scope (compEnvC scope cl C X.env) fp) kx tk)
    (rv : ∀ (s : Shared) (H : Hp) (C : Addr) (cl : List (Str × Addr)) (fp : List Addr), PE (X.blk s H scope (compEnvC scope cl C X.env) fp) vx tv)
    (fold : ∀ x, foldedSetIterable iter X.env x = pure x := by intro _; rfl) :
    PS X (.Assign [.Name y py] (.DictComp kx vx [⟨tg, iter, ifs, 0⟩] scope pos) spos) (tAsg (tDc wi g tt tk tv (own.map (·.2))) (gName i)) := by
  constructor
  intro pins s σ H D I q
  have q : tDc wi g tt tk tv (own.map (·.2)) σ H (fun x H1 => gName i x σ H1 D.nx) := q
  rw [exec_Assign_Name_used _ _ _ _ sw]
  apply wpAny_bind
  apply wpAny_standAt
  apply wpAny_bind
  show wpAny _ X.A (do let _ ← comprehension (.DictComp kx vx [⟨tg, iter, ifs, 0⟩] scope pos) scope X.env (firstIterPos [⟨tg, iter, ifs, 0⟩] pos) newDict false (eval iter X.env) (some (assign (.Name y py) X.env))) _ _ s
  apply wpAny_bind
  refine thn (dc_core (Qf := fun _ s' => SP X pins D .next s') calm nd I walk ok rg rt rk rv fold q ?_) fun _ _ z => wpAny_pure (wpAny_pure z)
  intro d c t n H2 J nx ns fr
  show wpAny _ _ (assign (.Name y py) X.env (.ref d)) _ _ _
  refine wpAny_assign_Name (store_ok2 (v := V.ref d) J nd at_y (.inl loc) rfl ?_ (.inr loc))
  rintro u JU ⟨b, same, which⟩
  obtain ⟨r0, r1, r2, r3, r4, r5⟩ := fr
  have far : c ≠ b := by
    cases which with
    | inl z => exact z ▸ r1
    | inr z => exact fun e => r4 y b z e.symm
  exact ⟨n, ns.sameBut same far, fun _ rest => ⟨_, H2, JU.turned (t' := u.toks) (fun a o ha e => (rest.2 a ha).trans e) r0 r1 r3 r4 r5, nx⟩⟩
end
end L2

namespace SrtO
open PySem PyProof.Rows Srt
section
variable {prog : Program} {w : World} {A : Around} {E : Value → Shared → Prop} {s : Shared}
/-- the heap with the items of a tuple in a new list -/
def gath (h : Heap) (its : List Value) : Heap := (h.push (seqObj "list" #[] 0)).update h.objs.size (Obj.mapSeq (· ++ its.toArray))
theorem gath_at (h : Heap) (its : List Value) : ∃ k, (gath h its).get? h.objs.size = some (seqObj "list" its.toArray k) := by
  have e := get?_update_seq (c := "list") (xs := #[]) (n := 0) (Heap.get?_push_size h rfl) (· ++ its.toArray)
  rw [Array.empty_append] at e
  exact ⟨_, e⟩
theorem gath_old {h : Heap} {its : List Value} {b : Addr} {o : Obj} (e : h.get? b = some o) : (gath h its).get? b = some o := by
  unfold gath
  rw [Heap.get?_update_ne _ _ _ _ (Nat.ne_of_lt (Heap.lt_size e))]
  exact Heap.get?_push_of_some _ e
theorem gath_size (h : Heap) (its : List Value) : (gath h its).objs.size = h.objs.size + 1 := by
  unfold gath
  rw [Heap.size_update, size_push']
theorem gather_tup {t : Addr} {o : Obj} {its : List Value} {k : Nat} {Q : List Value → Shared → Prop} (there : s.heap.get? t = some o) (cls : o.cls = .type "tuple") (dat : o.data = .seq its.toArray k) (few : its.length ≤ sizeLine)
    (next : Q its { s with heap := gath s.heap its }) : wpAny (model prog w) A (collect (.ref t)) Q E s := by
  have there' : (s.heap.push (seqObj "list" #[] 0)).get? t = some o := Heap.get?_push_of_some _ there
  have new0 : (s.heap.push (seqObj "list" #[] 0)).get? s.heap.objs.size = some (seqObj "list" #[] 0) := Heap.get?_push_size _ rfl
  unfold collect
  apply wpAny_bind
  refine wpAny_runValue (codeAny_builtin entry_proto_collect' ?_)
  show wpAny _ _ (newList [] >>= fun l => again (.builtin "list.__iadd__" ⟨[l, .ref t], []⟩)) _ _ s
  apply wpAny_bind
  refine wpAny_newList (wpAny_pure ⟨Code.quiet_builtin _ (by decide +kernel), codeAny_builtin entry_list_iadd' ?_⟩)
  show wpAny _ _ (Builtin.List.listExtendWith (.ref s.heap.objs.size) (.ref t) (.ref s.heap.objs.size)) _ _ { s with heap := s.heap.push (seqObj "list" #[] 0) }
  unfold Builtin.List.listExtendWith
  apply wpAny_bind
  refine wpAny_typeOf (T := "tuple") ⟨o, there', cls⟩ ?_
  have isT : (Value.type "tuple" == Value.type "tuple") = true := by rfl
  rw [if_pos (by rw [isT]; simp)]
  refine wpAny_bind (listItems_at there' dat ?_)
  refine wpAny_bind (listItems_at new0 rfl ?_)
  rw [if_neg (by simp)]
  refine wpAny_bind (listUpdate_at new0 rfl ?_ (Nat.zero_le _) (by show (#[] ++ its.toArray).size ≤ sizeLine + 1; simp only [Array.size_append, List.size_toArray, List.length_nil]; omega))
  refine wpAny_pure ?_
  obtain ⟨k2, e⟩ := gath_at s.heap its
  show wpAny (model prog w) A (do
      let o ← load s.heap.objs.size
      match o.data with
      | .seq xs _ => pure xs.toList
      | _ => unsupported "internal:collect") Q E { s with heap := gath s.heap its }
  exact wpAny_bind (wpAny_load e (wpAny_pure next))
/-- sorted(t), t a tuple of ints -/
theorem sorted_tupI {t : Addr} {o : Obj} {its : List Value} {ns : List Int} {k : Nat} {Q : Value → Shared → Prop} (I : IntsAre its ns) (there : s.heap.get? t = some o) (cls : o.cls = .type "tuple") (dat : o.data = .seq its.toArray k) (few : its.length ≤ sizeLine)
    (next : ∀ (out : List Value) (h' : Heap) (e : Nat), Srtd ltIv out → Stb ltIv out its → (∀ b u, s.heap.get? b = some u → h'.get? b = some u) → h'.get? (s.heap.objs.size + 1) = some (seqObj "list" out.toArray e) → Q (.ref (s.heap.objs.size + 1)) { s with heap := h' }) :
    wpAny (model prog w) A (call (.builtin "sorted") [.ref t]) Q E s := by
  refine Calls.call_function_entry kind_sorted plain_sorted entry_sorted (args_sorted1 _) ?_
  unfold Builtin.«sorted»
  refine wpAny_bind (m := checkCount "sorted" 1 1 _) (wpAny_pure ?_)
  refine wpAny_bind (gather_tup there cls dat few ?_)
  refine wpAny_bind (wpAny_newList ?_ few)
  show wpAny _ _ _ _ _ { s with heap := (gath s.heap its).push (seqObj "list" its.toArray 0) }
  have at_l : ((gath s.heap its).push (seqObj "list" its.toArray 0)).get? (gath s.heap its).objs.size = some (seqObj "list" its.toArray 0) := Heap.get?_push_size _ rfl
  refine wpAny_bind (wpAny_holding (wpAny_call_entry slot_list_sort ⟨_, at_l, rfl⟩ entry_list_sort (list_sort_ord swo_int at_l few (fun two => ints_sortable I two) fun out h1 h2 => ⟨_, rfl, ?_⟩) (args_list_sort _)))
  obtain ⟨e, he⟩ := sortedHeap_at (vs := its) (out := out.toArray) at_l
  rw [gath_size] at he ⊢
  refine wpAny_pure ⟨_, rfl, next out _ e h1 h2 (fun b u z => ?_) he⟩
  have lt : b < s.heap.objs.size := Heap.lt_size z
  rw [sortedHeap_old (Nat.ne_of_lt (Nat.lt_succ_of_lt lt)) (by rw [size_push', gath_size]; exact Nat.lt_succ_of_lt (Nat.lt_succ_of_lt lt))]
  exact Heap.get?_push_of_some _ (gath_old z)
end
end SrtO
namespace L2
open PySem PySem.Spec PyProof.Rows
def rSortedTI (K : PySem.W.Frag) : List V → Hp → VK → Prop := fun vs H Q => ∃ (a : Addr) (ns : List Int), vs = [V.ref a] ∧ SqT K H a (ns.map V.int) ∧ ∀ (ns' : List Int) (p : Addr), ns'.Perm ns → ns'.Pairwise (· ≤ ·) → H p = none → Q (.ref p) (upd H p (.lst (ns'.map V.int)))
theorem cr_sortedTI {X : Cx} : CallR X (.builtin "sorted") (rSortedTI X.K) := by
  intro pins s σ H vs us Q I r h
  obtain ⟨a, ns, rfl, hs, q⟩ := h
  obtain ⟨its, rv, ⟨o, ho, hc, k, hd⟩, hz⟩ := I.tuple hs
  rw [Vals.ref1 r]
  have hz' : ns.length ≤ sizeLine := by
    rw [List.length_map] at hz
    exact hz
  refine SrtO.sorted_tupI rv.ints ho hc hd (by rw [← rv.length]; exact hz) fun out h' e h1 h2 old new => ?_
  obtain ⟨k1, k2, k3⟩ := SrtO.ints_out rv.ints h1 h2
  exact ⟨.ref _, upd H (s.heap.objs.size + 1) (.lst ((out.map SrtO.iv).map V.int)), I.laid (t' := s.toks) old (Nat.le_succ _) ⟨by rw [List.length_map, k2.length_eq]; exact hz', out, e, vals_of_ints k1, new⟩, rfl, q _ _ k2 k3 (I.hok.fresh (Nat.le_succ _))⟩
end L2

namespace L2
open PySem PySem.Spec PyProof.Rows
section
variable {X : Cx} {st : Stmt} {rest : List Stmt} {t : TS}
/-- a statement behind which nothing is ever run -/
def tStop (t : TS) : TS := fun D σ H => t { D with nx := fun _ _ => False } σ H
theorem pss_stop (h1 : PS X st t) : PSs X (st :: rest) (tStop t) := by
  refine ⟨fun pins s σ H D I h => ?_⟩
  refine wpAny_execs_cons (thn (h1.run pins s σ H { D with nx := fun _ _ => False } I h) fun f s1 q => ?_)
  cases f with
  | next =>
    obtain ⟨σ', H', I', q⟩ := q
    exact False.elim q
  | ret v => exact q
  | brk => exact q
  | cont => exact q
end
end L2

namespace L2
open PySem PySem.Spec PyProof.Rows
/-- d.get(t) of a written table, whether the key is there or not -/
def tTabLook (P : Program) (w : World) (K : PySem.W.Frag) (td te : TE) : TE := fun σ H Q => td σ H fun x H1 => ∃ (a : Addr) (kvs : List (List Nat × Str)), x = .ref a ∧ TabK P w K a kvs ∧ te σ H1 fun y H2 => ∃ (p : Addr) (ks : List Nat), y = .ref p ∧ H2 p = some (.tup (ks.map fun k : Nat => V.int (k : Int))) ∧
  (∀ q, (kvs.find? fun q => decide (q.1 = ks)) = some q → Q (.str q.2) H2) ∧ ((kvs.find? fun q => decide (q.1 = ks)) = none → Q .non H2)
theorem tab_look {ks : List Nat} : ∀ {kvs : List (List Nat × Str)} {ts : List Tok}, ts.length = kvs.length →
    (∀ q, (kvs.find? fun q => decide (q.1 = ks)) = some q → ∃ t : Tok, valueAt ((kvs.zip ts).map fun x => (numK x.1.1, Value.str x.1.2 x.2)) (numK ks) = some (Value.str q.2 t)) ∧
    ((kvs.find? fun q => decide (q.1 = ks)) = none → valueAt ((kvs.zip ts).map fun x => (numK x.1.1, Value.str x.1.2 x.2)) (numK ks) = none)
  | [], ts, _ => ⟨fun q h => by simp at h, fun _ => by simp [valueAt]⟩
  | _ :: _, [], hl => by simp at hl
  | (k0, z0) :: kvs, t0 :: ts, hl => by
    have ih := tab_look (ks := ks) (kvs := kvs) (ts := ts) (by simpa using hl)
    by_cases c : k0 = ks
    · subst c
      refine ⟨fun q h => ?_, fun h => ?_⟩
      · rw [List.find?_cons_of_pos (by simp)] at h
        cases Option.some.inj h
        exact ⟨t0, by simp [valueAt]⟩
      · rw [List.find?_cons_of_pos (by simp)] at h
        cases h
    · have ne2 : ¬ numK k0 = numK ks := fun e => c (numK_inj e)
      rw [List.find?_cons_of_neg (by simpa using c)]
      unfold valueAt at ih ⊢
      rw [List.zip_cons_cons, List.map_cons, List.find?_cons_of_neg (by simpa using ne2)]
      exact ih
theorem pe_tabLook {X : Cx} {o e : Expr} {td te : TE} {apos cpos : Pos} (hu : X.A.units + 64 < cLine) (ho : PE X o td) (he : PE X e te) (m : M1 X o "get" apos e cpos) : PE X (.Call (.Attribute o "get" apos) [e] [] cpos) (tTabLook X.prog X.w X.K td te) := by
  refine ⟨fun pins s σ H Q I h => ?_⟩
  refine wpAny_Call_method m.base m.few m.line PySem.F.plainAttrs_dict PySem.F.slot_dict_get PySem.F.type_dict_get (thn (ho.run pins s σ H _ I h) fun u s1 ⟨x, H1, I1, rx, a, kvs, ex, ⟨hsm, ts, hT⟩, q1⟩ => ?_)
  subst ex
  obtain rfl : u = Value.ref a := rx
  obtain ⟨hD, _⟩ := hT _ I1.kIn
  have hD' := hD
  obtain ⟨xs, ⟨ob, es, ep, hob, hcl, hdat, _⟩, _⟩ := hD'
  refine ⟨hD.typeIs, fun b q => by cases q; exact ⟨ob, hob, hcl.2.1⟩, ?_⟩
  rw [m.trees]
  refine Calls.callWith_builtin rfl (Calls.evalArgs_plain (Calls.spliced_cons (thn (he.run pins s1 σ H1 _ I1 q1) fun iv s2 ⟨y, H2, I2, ry, p, ks, ey, hp, q2, q3⟩ => Calls.spliced_nil ?_)))
  subst ey
  obtain rfl : iv = Value.ref p := ry
  obtain ⟨_, its, rv, ot, h1, h2, n, h3⟩ := (show ObjOk X.prog X.w H2 s2.heap p (.tup (ks.map fun k : Nat => V.int (k : Int))) from I2.hok p _ hp)
  obtain ⟨hD2, hlen⟩ := hT _ I2.kIn
  obtain ⟨f1, f2⟩ := tab_look (ks := ks) hlen
  have hk : (nestedKind X.prog X.w).is s2.heap (numK ks) p := ⟨.tup h1 h2 h3 (by simpa using numAll_of (h := s2.heap) rv), numK_depth ks⟩
  refine get_keyed (knd := nestedKind X.prog X.w) (show X.A.in1.units + 8 < cLine by show X.A.units + 1 + 8 < cLine; omega) hk hsm hD2 ?_
  cases hf : kvs.find? fun q => decide (q.1 = ks) with
  | some q =>
    obtain ⟨t, ht⟩ := f1 q hf
    rw [ht]
    exact ⟨.str q.2, H2, I2.tok _, ⟨t, rfl⟩, q2 q hf⟩
  | none =>
    rw [f2 hf]
    exact ⟨.non, H2, I2.tok _, rfl, q3 hf⟩
end L2

/-! exceptions whose context is known to be None: raised by defs, caught where the suite calls defs -/
namespace L2N
open PySem PySem.Spec PyProof.Rows L2
theorem takes0N {X : Cx} : Takes X (fun _ _ _ _ => False) := fun _ _ x => by
  obtain ⟨a, B, sI, pins, σ, H, cls, d, e, I, nb, up, sky, na, os, ag, w⟩ := x
  exact False.elim w
section
variable {X : Cx} {e : Expr} {es : List Expr} {ta : TA} {p pos : Pos}
/-- raise X(e, ..), own __init__: the new exception has no context -/
theorem pmk_oexN {CX : CXT} {x : Str} {C fI : Addr} {k : Nat} {fd : FuncData} {ps : List Str} {sp : Sp} (T : OexC X.K C) (iC : PySem.W.findIn X.K (.ref C) "__init__" = some (some (.ref fI))) (tI : PySem.W.typeIn X.K (.ref fI) = some (.type "function"))
    (F1 : FnOk X.prog X.w X.K X.mg X.base CX k fI fd ps sp) (hr : Room (k + 1) X.A) (hb : Binds X.K fd ps []) (hx : Passes CX X (fun _ _ _ => False)) (hg : Gl X x) (hm : X.mg x = some (.ref C)) (ha : PA X (e :: es) ta)
    (hdb : (x == ("__debug__" : Str)) = false := by decide) (he : starEach (e :: es) X.env = (false, eval e X.env) :: starEach es X.env := by rfl) (hpl : (backTo pos (starEach es X.env)).any (·.1) = false := by rfl) :
    PMk X (.Call (.Name x p) (e :: es) [] pos) (tMkO C sp [] ta) := by
  intro pins s σ H Q I h
  obtain ⟨c1, c2, c3, c4, c5, c6, c7, c8, c9, d0, d1, d2, d3, d4, d5, hC, hbm⟩ := T.cls
  refine wpAny_Call_Name_kw (ld_glob I hg hm ?_ hdb)
  refine PySem.W.callWith_K (h₀ := X.base) I.ok.mod.kin T.kC (thn (ha.run pos pins s σ H _ I h) fun us s1 ⟨vs, H1, I1, r1, hz, q1⟩ => ⟨I1.kIn, ?_⟩) he hpl
  show wpAny _ _ (call (.ref C) us) _ _ _
  obtain ⟨h1, g1, w1, k1, o1⟩ := s1
  have up1 : h1.objs.size ≤ h1.objs.size + 1 := Nat.le_succ _
  have fr : H1 (h1.objs.size + 1) = none := I1.hok.fresh up1
  have pr := q1 (h1.objs.size + 1) fr
  rw [List.append_nil] at pr
  have kp : ∀ b o, h1.get? b = some o → ((h1.push (PySem.W.kdv_tup us)).push (PySem.HandSPX.excO C h1.objs.size)).get? b = some o := fun b o z => Heap.get?_push_of_some _ (Heap.get?_push_of_some _ z)
  have ob : ((h1.push (PySem.W.kdv_tup us)).push (PySem.HandSPX.excO C h1.objs.size)).get? (h1.objs.size + 1) = some (PySem.HandSPX.excO C h1.objs.size) := by heap_get
  have J : Inv X pins σ (upd H1 (h1.objs.size + 1) (exo (h1.objs.size + 1) C none)) ⟨(h1.push (PySem.W.kdv_tup us)).push (PySem.HandSPX.excO C h1.objs.size), g1, w1, k1, o1⟩ :=
    I1.laid (t' := k1) (a := h1.objs.size + 1) (o := exo (h1.objs.size + 1) C none) (h' := (h1.push (PySem.W.kdv_tup us)).push (PySem.HandSPX.excO C h1.objs.size)) kp up1 (exo_ok ob)
  have rl : Vals (V.ref (h1.objs.size + 1) :: vs) (Value.ref (h1.objs.size + 1) :: us) := .cons rfl r1
  have ln : (Value.ref (h1.objs.size + 1) :: us).length = ps.length := by
    have z := rl.length
    rw [F1.len _ _ _ _ pr] at z
    exact z.symm
  have few : us.length ≤ sizeLine := by
    rw [← Paired.length r1, sizeLine_eq]
    omega
  have bd := hb ⟨(h1.push (PySem.W.kdv_tup us)).push (PySem.HandSPX.excO C h1.objs.size), g1, w1, k1, o1⟩ (Value.ref (h1.objs.size + 1) :: us) J.kIn (by rw [List.append_nil]; exact ln)
  rw [List.append_nil] at bd
  refine wpAny_call (PySem.HandSPX.call_own F.excBase_ValueError (fun Y => PySem.HandSPX.refsVE_contains Y c5 hbm) (I1.kIn _ _ hC) (PySem.W.looks_findIn I1.kIn iC) (fun self => PySem.W.bind_fn I1.kIn self tI) few
    (codeAny_mono (F1.run _ X.stack _ _ ⟨Value.ref (h1.objs.size + 1) :: us, []⟩ (Value.ref (h1.objs.size + 1) :: us) _ _ (fun _ _ _ => False) (hr.make C us []) (J.env0.make C us []) bd rl pr) fun r s' hq => ?_))
  cases r with
  | error er => exact hx pins σ _ _ er s' J hq
  | ok fl =>
    cases fl with
    | ret u =>
      obtain ⟨v, H2, os2, bare2, un2, hok2, rv, ev, d, fs, ea, ed, hd1, q2⟩ := hq
      subst ev
      obtain ⟨h2, g2, w2, k2, o2⟩ := s'
      obtain ⟨t0, G, JG, kG, ge, hoe, na⟩ := mk_end0 (d2 := w2) (t2 := k2) I1 up1 kp un2 hok2 os2 bare2 ea ed hd1
      exact ⟨rv, h1.objs.size + 1, _, _, ⟨G, g2, w2, k2, o2⟩, _, .ref C, some d, rfl, JG, kG, ge, hoe, ⟨rfl, rfl, fun vs hv => by cases hv; rfl⟩, rfl, rfl, na, rfl, bare2, raises_own T.exC T.tyC, q2⟩
    | next => exact False.elim hq
    | brk => exact False.elim hq
    | cont => exact False.elim hq
variable {C : Addr} {bmB : List Value} {B newId initId : String} {x : Str}
/-- raise X(), no own __init__ -/
theorem pmk_own0N (F : ExcBaseFacts B newId initId bmB) (q : PySem.W.excIn X.K C bmB newId = true) (gC : X.mg x = some (.ref C)) (kC : PySem.W.keepIn X.K (.ref C) = true) (r : Raises X (.ref C)) (hg : Gl X x)
    (hdb : (x == ("__debug__" : Str)) = false := by decide) : PMk X (.Call (.Name x p) [] [] pos) (fun _ H Q => Q (.ref C) none H) := by
  intro pins s σ H Q I h
  refine wpAny_Call_Name_kw (ld_glob I hg gC ?_ hdb)
  refine PySem.W.callWith_K0 I.kIn kC ?_
  obtain ⟨bm, N, nm, qn, bs, hdct, sn, sub, ab, col, dd, k0, k1, k2, k3, k5, mN, hC, hN, hni, T⟩ := exc_obj I.kIn q
  refine wpAny_call_exc_subT F T hC hN hni (fun h' e hm => ?_) (Nat.zero_le _)
  exact mk_of I hm r h (I.hok.gone hm.new)
end
end L2N
namespace L2
open PySem PySem.Spec PyProof.Rows
section
variable {P : Program} {w : World} {K : PySem.W.Frag} {mg : Str → Option Value} {base : Heap}
/-- a def that may raise, what it raises has no context -/
theorem Fun.okN {x qual : Str} {st : Stmt} {f : Addr} {fd : FuncData} {N ps : List Str} {k : Nat} {sp : Sp} (F : Fun K x qual st f fd) (S : FnScope N ps (defScope st)) (len : ∀ vs H Q E, sp vs H Q E → vs.length = ps.length)
    (hbody : ∀ (cdv : Value) (A : Around) (outer : List Env) (s : Shared) (H : Hp) (vs : List V) (Q : VK) (E : XK), Room k (A.deeper (envOfC qual (defScope st) s.heap.objs.size f cdv)) → sp vs H Q E →
      ∃ t, PSs (cxOf (L2N.CX P w) P w K mg base N qual (defScope st) f cdv A outer s H E) (defBody st) t ∧ t { nx := fun _ H' => Q .non H', rt := Q } (start N vs) H) : FnOk P w K mg base (L2N.CX P w) (k + 1) f fd ps sp := by
  obtain ⟨oc, od, kV, doc, pm, an, cdv, ct, osl, rfl, lk, hcd⟩ := F.ex
  exact fn_of lk hcd S len fun A outer s H vs Q E hr hsp => hbody cdv A outer s H vs Q E hr hsp
/-- a def called where an exception is handled, lets none out -/
theorem Fun.okH {x qual : Str} {st : Stmt} {f : Addr} {fd : FuncData} {N ps : List Str} {k : Nat} {sp : Sp} (F : Fun K x qual st f fd) (S : FnScope N ps (defScope st)) (len : ∀ vs H Q E, sp vs H Q E → vs.length = ps.length)
    (hbody : ∀ (cdv : Value) (A : Around) (outer : List Env) (s : Shared) (H : Hp) (vs : List V) (Q : VK) (E : XK) (p : Addr × Obj), L2H.Hot1 A p → L2H.RoomH k (A.deeper (envOfC qual (defScope st) s.heap.objs.size f cdv)) → sp vs H Q E →
      ∃ t, PSs (L2H.cxH CX0 P w K mg base N qual (defScope st) f cdv A outer s H E p).nox (defBody st) t ∧ t { nx := fun _ H' => Q .non H', rt := Q } (start N vs) H) : L2H.FnH P w K mg base CX0 (k + 1) f fd ps sp := by
  obtain ⟨oc, od, kV, doc, pm, an, cdv, ct, osl, rfl, lk, hcd⟩ := F.ex
  refine L2H.fn_ofH lk hcd S len fun A outer s H vs Q E p hot hr hsp => ?_
  obtain ⟨t, h, q⟩ := hbody cdv A outer s H vs Q E p hot hr hsp
  exact ⟨t, h.nox, q⟩
end
/-- within a suite: the exception that is handled has no context -/
theorem hot_suite {X : Cx} {a : Addr} {oe : Obj} {cls : Value} {d : Option Addr} {pn : List (Addr × Obj)} (hz : L2N.Zn cls d oe) (hf : ∃ vs, oe.data = .fields vs) : L2H.HotC (X.suite a ((a, oe) :: pn)) := by
  obtain ⟨vs, hv⟩ := hf
  exact ⟨(a, oe), ⟨rfl, vs, hv, hz.2.2 vs hv⟩, List.mem_cons_self⟩
end L2
namespace L2
open PySem PySem.Spec PyProof.Rows
/-- nothing is let out -/
theorem passH0 {X : Cx} (E : St → XK) : ∀ σ, PassesAt CX0 X σ (E σ) := fun _ _ _ _ _ _ _ z => False.elim z
theorem call_isiQ {X : Cx} {K : PySem.W.Frag} (h : X.K = K) : CallR X (.builtin "isinstance") (rIsi K) := by
  subst h
  exact call_isi
theorem call_lenK {X : Cx} {K : PySem.W.Frag} (h : X.K = K) : CallR X (.builtin "len") (fun xs H Q => ∃ p ys, xs = [.ref p] ∧ (SqL K H p ys ∨ SqT K H p ys) ∧ Q (.int ys.length) H) := by
  subst h
  exact call_len_seq
end L2

/-! min, max, len(set(..)) of a tuple of ints -/
namespace MmT
open PySem PyProof.Rows
theorem keep_old {s : Shared} {o : Obj} {h' : Heap} (hk : ∀ b u, b ∉ [s.heap.objs.size] → (s.heap.push o).get? b = some u → h'.get? b = some u) : ∀ b u, s.heap.get? b = some u → h'.get? b = some u := fun b u e => by
  refine hk b u (fun hm => ?_) (Heap.get?_push_of_some _ e)
  have := Heap.lt_size e
  rw [List.mem_singleton.mp hm] at this
  exact Nat.lt_irrefl _ this
theorem ints_arr {its : List Value} {ns : List Int} (hi : IntsAre its ns) : ∃ xs : Array (Int × Tok), its.toArray = intItems xs ∧ (xs.toList.map (·.1)) = ns := by
  obtain ⟨xs, e⟩ := hi.allInts.items
  have hn : numsOf (intItems xs).toList = ns := by
    rw [← e]
    exact hi.numsOf
  rw [nums_intItems] at hn
  exact ⟨xs, e, hn⟩
section
variable {prog : Program} {w : World} {A : Around} {E : Value → Shared → Prop} {s : Shared}
theorem min_tup {t : Addr} {its : List Value} {ns : List Int} {Q : Value → Shared → Prop} (calm : A.handled = none) (there : s.heap.IsTuple t its.toArray) (hi : IntsAre its ns) (some_ : 0 < ns.length)
    (next : ∀ (h' : Heap) (tk : Nat) (m : Int) (u : Tok), (∀ b o, s.heap.get? b = some o → h'.get? b = some o) → m ∈ ns → (∀ y ∈ ns, m ≤ y) → Q (.int m u) { s with heap := h', toks := tk }) :
    wpAny (model prog w) A (call (.builtin "min") [.ref t]) Q E s := by
  obtain ⟨xs, e1, e2⟩ := ints_arr hi
  subst e2
  rw [e1] at there
  have pos : 0 < xs.size := by simpa using some_
  have tb : t < s.heap.objs.size := by
    obtain ⟨o, ho, _⟩ := there
    exact Heap.lt_size ho
  refine call_min_walk (wpAny_pyIter_tuple there ?_)
  refine ⟨_, [_, t], [_], _, _, _, _, rfl, Walks.tuple (A := A.in1) calm _ t (Nat.ne_of_lt tb) (intItems xs), ⟨⟨_, Heap.get?_push_size _ rfl, rfl, rfl⟩, there.push _⟩, fun c hc => ?_, by simpa [intItems] using pos, CmpOf.ints_lt (numAt xs) (fun _ _ => intItems_at), fun v h' tk hP hk => ?_⟩
  · show c < (s.heap.push _).objs.size
    rw [Heap.size_push]
    rcases List.mem_cons.mp hc with rfl | hc
    · exact Nat.lt_succ_self _
    · rw [List.mem_singleton.mp hc]
      exact Nat.lt_succ_of_lt tb
  · have hP' : (intItems xs)[argBest (fun i j => decide (numAt xs i < numAt xs j)) (xs.size - 1)]? = some v := by simpa [intItems] using hP
    obtain ⟨u, rfl⟩ := intItems_at hP'
    obtain ⟨b1, b2⟩ := argBest_lt (numAt xs) (xs.size - 1)
    refine next h' tk _ u (keep_old hk) ?_ fun y hy => ?_
    · rw [numAt_eq]
      exact PySem.getD_mem (by rw [List.length_map, Array.length_toList]; omega)
    · obtain ⟨j, hj, rfl⟩ := mem_getD hy
      rw [List.length_map, Array.length_toList] at hj
      rw [← numAt_eq]
      exact b2 j (by omega)
theorem max_tup {t : Addr} {its : List Value} {ns : List Int} {Q : Value → Shared → Prop} (calm : A.handled = none) (there : s.heap.IsTuple t its.toArray) (hi : IntsAre its ns) (some_ : 0 < ns.length)
    (next : ∀ (h' : Heap) (tk : Nat) (m : Int) (u : Tok), (∀ b o, s.heap.get? b = some o → h'.get? b = some o) → m ∈ ns → (∀ y ∈ ns, y ≤ m) → Q (.int m u) { s with heap := h', toks := tk }) :
    wpAny (model prog w) A (call (.builtin "max") [.ref t]) Q E s := by
  obtain ⟨xs, e1, e2⟩ := ints_arr hi
  subst e2
  rw [e1] at there
  have pos : 0 < xs.size := by simpa using some_
  have tb : t < s.heap.objs.size := by
    obtain ⟨o, ho, _⟩ := there
    exact Heap.lt_size ho
  refine call_max_walk (wpAny_pyIter_tuple there ?_)
  refine ⟨_, [_, t], [_], _, _, _, _, rfl, Walks.tuple (A := A.in1) calm _ t (Nat.ne_of_lt tb) (intItems xs), ⟨⟨_, Heap.get?_push_size _ rfl, rfl, rfl⟩, there.push _⟩, fun c hc => ?_, by simpa [intItems] using pos, CmpOf.ints_gt (numAt xs) (fun _ _ => intItems_at), fun v h' tk hP hk => ?_⟩
  · show c < (s.heap.push _).objs.size
    rw [Heap.size_push]
    rcases List.mem_cons.mp hc with rfl | hc
    · exact Nat.lt_succ_self _
    · rw [List.mem_singleton.mp hc]
      exact Nat.lt_succ_of_lt tb
  · have hP' : (intItems xs)[argBest (fun i j => decide (numAt xs i > numAt xs j)) (xs.size - 1)]? = some v := by simpa [intItems] using hP
    obtain ⟨u, rfl⟩ := intItems_at hP'
    obtain ⟨b1, b2⟩ := argBest_gt (numAt xs) (xs.size - 1)
    refine next h' tk _ u (keep_old hk) ?_ fun y hy => ?_
    · rw [numAt_eq]
      exact PySem.getD_mem (by rw [List.length_map, Array.length_toList]; omega)
    · obtain ⟨j, hj, rfl⟩ := mem_getD hy
      rw [List.length_map, Array.length_toList] at hj
      rw [← numAt_eq]
      exact b2 j (by omega)
end
/-- a list without doubles has as many members as another of the same members exactly if that one has no doubles -/
theorem sub_perm : ∀ {L ns : List Int}, L.Nodup → (∀ x ∈ L, x ∈ ns) → L.length = ns.length → L.Perm ns
  | [], ns, _, _, h => by
    rw [List.length_eq_zero_iff.mp h.symm]
  | x :: L, ns, nd, sub, h => by
    have hx := sub x (List.mem_cons_self ..)
    have nd' := List.nodup_cons.mp nd
    have ih := sub_perm (L := L) (ns := ns.erase x) nd'.2 (fun y hy => (List.mem_erase_of_ne (fun z => nd'.1 (by rw [← z]; exact hy))).mpr (sub y (List.mem_cons_of_mem _ hy))) (by
      rw [List.length_erase_of_mem hx]
      simp at h
      omega)
    exact (List.Perm.cons x ih).trans (List.perm_cons_erase hx).symm
theorem sub_len : ∀ {L ns : List Int}, L.Nodup → (∀ x ∈ L, x ∈ ns) → L.length ≤ ns.length
  | [], _, _, _ => Nat.zero_le _
  | x :: L, ns, nd, sub => by
    have hx := sub x (List.mem_cons_self ..)
    have nd' := List.nodup_cons.mp nd
    have ih := sub_len (L := L) (ns := ns.erase x) nd'.2 fun y hy => (List.mem_erase_of_ne (fun z => nd'.1 (by rw [← z]; exact hy))).mpr (sub y (List.mem_cons_of_mem _ hy))
    have := List.length_erase_of_mem hx
    have hp : 0 < ns.length := List.length_pos_of_mem hx
    show L.length + 1 ≤ ns.length
    omega
theorem count_nd {L ns : List Int} (nd : L.Nodup) (m : ∀ x, x ∈ L ↔ x ∈ ns) : L.length = ns.length ↔ ns.Nodup :=
  ⟨fun h => (sub_perm nd (fun x hx => (m x).mp hx) h).nodup_iff.mp nd, fun h => Nat.le_antisymm (sub_len nd fun x hx => (m x).mp hx) (sub_len h fun x hx => (m x).mpr hx)⟩
end MmT
namespace L2
open PySem PySem.Spec PyProof.Rows
section
variable {X : Cx}
def rMinT (K : PySem.W.Frag) : List V → Hp → VK → Prop := fun vs H Q => ∃ (a : Addr) (ns : List Int), vs = [V.ref a] ∧ SqT K H a (ns.map V.int) ∧ 0 < ns.length ∧ ∀ m, m ∈ ns → (∀ y ∈ ns, m ≤ y) → Q (.int m) H
def rMaxT (K : PySem.W.Frag) : List V → Hp → VK → Prop := fun vs H Q => ∃ (a : Addr) (ns : List Int), vs = [V.ref a] ∧ SqT K H a (ns.map V.int) ∧ 0 < ns.length ∧ ∀ m, m ∈ ns → (∀ y ∈ ns, y ≤ m) → Q (.int m) H
theorem tup_is {h : Heap} {t : Addr} {its : List Value} (p : ∃ o : Obj, h.get? t = some o ∧ o.cls = .type "tuple" ∧ ∃ k, o.data = .seq its.toArray k) : h.IsTuple t its.toArray := by
  obtain ⟨o, h1, h2, k, h3⟩ := p
  exact ⟨o, h1, h2, k, h3⟩
theorem cr_minT (calm : X.calm = true) : CallR X (.builtin "min") (rMinT X.K) := by
  intro pins s σ H vs us Q I r h
  obtain ⟨a, ns, rfl, hs, pos, q⟩ := h
  obtain ⟨its, rv, ⟨o, ho, hc, k, hd⟩, hz⟩ := I.tuple hs
  rw [Vals.ref1 r]
  exact MmT.min_tup (I.ok.hd calm) ⟨o, ho, hc, k, hd⟩ rv.ints pos fun h' tk m u keep hm hl => ⟨.int m, H, I.kept keep, ⟨u, rfl⟩, q m hm hl⟩
theorem cr_maxT (calm : X.calm = true) : CallR X (.builtin "max") (rMaxT X.K) := by
  intro pins s σ H vs us Q I r h
  obtain ⟨a, ns, rfl, hs, pos, q⟩ := h
  obtain ⟨its, rv, ⟨o, ho, hc, k, hd⟩, hz⟩ := I.tuple hs
  rw [Vals.ref1 r]
  exact MmT.max_tup (I.ok.hd calm) ⟨o, ho, hc, k, hd⟩ rv.ints pos fun h' tk m u keep hm hl => ⟨.int m, H, I.kept keep, ⟨u, rfl⟩, q m hm hl⟩
/-- len(set(t)), t a tuple of ints: how many there are tells whether there are doubles -/
def tLenSetT (K : PySem.W.Frag) (ta : TE) : TE := fun σ H Q => ta σ H fun x H1 => ∃ (l : Addr) (ns : List Int), x = .ref l ∧ SqT K H1 l (ns.map V.int) ∧ ns.length ≤ 1000 ∧ ∀ c : Nat, c ≤ ns.length → (c = ns.length ↔ ns.Nodup) → Q (.int (c : Int)) H1
theorem pe_lenSetT {a : Expr} {ta : TE} {p p2 q pos : Pos} (calm : X.calm = true) (g1 : Gl X "len") (m1 : X.mg "len" = none) (g2 : Gl X "set") (m2 : X.mg "set" = none) (ha : PE X a ta)
    (na : starEach [a] X.env = (false, eval a X.env) :: starEach [] X.env := by rfl) : PE X (.Call (.Name "len" p) [.Call (.Name "set" p2) [a] [] q] [] pos) (tLenSetT X.K ta) := by
  refine ⟨fun pins s σ H Q I hw => ?_⟩
  refine Call_ (ld_blt I g1 m1 PySem.boot_len ?_)
  refine PyProof.Rows.callWith_builtin1 (PyProof.Rows.args_cons ?_ rfl) rfl rfl
  refine Call_ (ld_blt I g2 m2 PyProof.Rows.boot_set ?_)
  refine PyProof.Rows.callWith_type1 (PyProof.Rows.args_cons (thn (ha.run pins s σ H _ I hw) fun v s1 ⟨x, H1, I1, r1, z1⟩ => PyProof.Rows.args_nil ?_) na) na rfl
  obtain ⟨l, ns, rfl, hq, few, z1⟩ := z1
  cases r1
  obtain ⟨its, rv, ⟨o, ho, hc, k, hd⟩, hz⟩ := I1.tuple hq
  refine call_set_tupI ns (I1.ok.hd calm) ⟨o, ho, hc, k, hd⟩ (by simpa using rv.ints) (by unfold scanBound; omega) fun h' tk c hS hc' keep => ?_
  refine PyProof.Rows.args_nil ?_
  obtain ⟨o2, es, ep, t2, h1, h2, h3, _, h5, h6, _, h8, h9, _⟩ := hS
  have I2 : Inv X pins σ H1 { s1 with heap := h', toks := tk } := I1.kept keep
  have m : ∀ x, x ∈ es.toList.map keyOf ↔ x ∈ ns := fun x => by
    rw [← h6 x]
    exact decide_eq_true_iff
  have cnt := MmT.count_nd h5 m
  rw [List.length_map, Array.length_toList, h9] at cnt
  exact call_len_set h1 h2 h3 h8 (by omega) ⟨.int (c : Int), H1, I2.tok _, ⟨_, by rw [h9]⟩, z1 c hc' cnt⟩
end
end L2

/-! enumerate of a tuple; calls in a try's body; isinstance of an exception without a dict -/
namespace EnT
open PySem
/-- the iterator of the tuple t, and the enumerate object over the iterator at i, both as they are made -/
def itO (t : Addr) : Obj := { cls := .type "tuple_iterator", data := .fields #[.ref t, .int 0 0] }
def enO (i : Addr) : Obj := { cls := .type "enumerate", data := .fields #[.none, .bool false, .ref i, rawInt 0, .none, .none] }
def made (g : Heap) (t : Addr) : Heap := (g.push (itO t)).push (enO g.objs.size)
theorem made_top (g : Heap) (t : Addr) : (g.push (itO t)).objs.size = g.objs.size + 1 := Heap.size_push ..
theorem made_en (g : Heap) (t : Addr) : (made g t).get? (g.objs.size + 1) = some (enO g.objs.size) :=
  made_top g t ▸ Heap.get?_push_size (g.push (itO t)) (o := enO g.objs.size) rfl
theorem made_it (g : Heap) (t : Addr) : (made g t).get? g.objs.size = some (itO t) := Heap.get?_push_of_some _ (Heap.get?_push_size _ rfl)
theorem made_old (g : Heap) (t b : Addr) (o : Obj) (h : g.get? b = some o) : (made g t).get? b = some o :=
  Heap.get?_push_of_some _ (Heap.get?_push_of_some _ h)
/-- what enumerate's __new__ does with a tuple -/
theorem new_does (t : Addr) (vs : Array Value) : Meets (Builtin.«enumerate.__new__» ⟨[.type "enumerate", .ref t], []⟩)
    (fun _ R s => s.heap.IsTuple t vs ∧ R (.ok (.ret (.ref (s.heap.objs.size + 1)))) { s with heap := made s.heap t }) :=
  Meets.of_wp fun P w A R s there => by
    cases s with
    | mk g gl dw tc ow =>
      obtain ⟨isT, goal⟩ := there
      rw [← made_top g t] at goal
      have sub1 := sub_enumerate
      have mk_it : ∀ {A1 : Around} {E1 Q1 : Value → Shared → Prop}, Q1 (.ref g.objs.size) ⟨g.push (itO t), gl, dw, tc, ow⟩ → wpAny (model P w) A1 (pyIter (.ref t)) Q1 E1 ⟨g, gl, dw, tc, ow⟩ :=
        fun q => wpAny_pyIter_tuple isT q
      wp_walk using mk_it
      refine wpAny_stack_any fun _ => wpAny_pure ?_
      split
      · next cls _ _ _ _ _ =>
        by_cases same : (cls == Value.type "enumerate") = true
        · rw [same]
          wp_walk using mk_it
          exact ⟨_, rfl, goal⟩
        · rw [Bool.eq_false_iff.mpr same]
          wp_walk using mk_it
          exact ⟨_, rfl, goal⟩
      · wp_walk using mk_it
        exact ⟨_, rfl, goal⟩
end EnT
namespace EnT
open PySem PySem.Spec PyProof.Rows L2
theorem call_does {P : Program} {w : World} {A : Around} {E Q : Value → Shared → Prop} {s : Shared} {t : Addr} {vs : Array Value} (isT : s.heap.IsTuple t vs) (goal : Q (.ref (s.heap.objs.size + 1)) { s with heap := made s.heap t }) :
    wpAny (model P w) A (call (.type "enumerate") [.ref t]) Q E s := by
  have top : Shared.TypeIs { s with heap := made s.heap t } (.ref (s.heap.objs.size + 1)) "enumerate" := ⟨_, made_en s.heap t, rfl⟩
  have done : (fun (_ : Around) (R : Result → Shared → Prop) (z : Shared) => z.heap.IsTuple t vs ∧ R (.ok (.ret (.ref (z.heap.objs.size + 1)))) { z with heap := made z.heap t }) A.in1
      (wants (fun obj z => z.TypeIs obj "enumerate" ∧ Q obj z) E) s := ⟨isT, top, goal⟩
  exact callType_new F.called_enumerate (by decide) (F.typeCall_enumerate_1 _) (F.newCall_enumerate_1 _) (fun o => F.args_object_init_2 o _)
    F.entry_enumerate_new (new_does t vs) done
theorem tup_ne {h : Heap} {i t : Addr} {n : Nat} {vs : Array Value} (a : h.IsTupleIter i t n) (b : h.IsTuple t vs) : t ≠ i := by
  intro same
  subst same
  obtain ⟨u, hu, cu, _⟩ := a
  obtain ⟨v, hv, cv, _⟩ := b
  cases hu.symm.trans hv
  exact absurd (Value.type.inj (cu.symm.trans cv)) (by decide)
theorem en_ne {h : Heap} {e i t : Addr} {c : Int} {old : Value} {vs : Array Value} (a : IsEnum h e i c old) (b : h.IsTuple t vs) : e ≠ t := by
  intro same
  subst same
  obtain ⟨v, hv, cv, _⟩ := b
  cases (show h.get? e = _ from a).symm.trans hv
  exact absurd (Value.type.inj cv) (by decide)
/-- what the enumerate object at e walks with: its tuple at t, the iterator at i -/
def Stands (e i t : Addr) (n : Nat) (h : Heap) : Prop := (∃ old, IsEnum h e i ((n : Nat) : Int) old) ∧ h.IsTupleIter i t n ∧ e ≠ i
/-- the tuple at t, each item behind its number in a new pair -/
def ItN (K : PySem.W.Frag) (t : Addr) : It where
  go := fun n H => ∃ xs x, SqT K H t xs ∧ xs[n]? = some x
  yld := fun n H v H2 => ∃ p x, v = .ref p ∧ H p = none ∧ H2 = upd H p (.tup [.int (n : Nat), x]) ∧ ∀ xs, SqT K H t xs → xs[n]? = some x
  stop := fun n H => ∃ xs : List V, SqT K H t xs ∧ xs.length = n
theorem turns {P : Program} {w : World} {K : PySem.W.Frag} {es : List Expr} {kk : Nat} {ps : Pos} (e i t : Addr) : Turn P w K (.Tuple es kk ps) (ItN K t) [e, i] e (Stands e i t) := by
  constructor
  · exact List.mem_cons_self
  · rintro n h ⟨⟨old, a⟩, ⟨u, hu, cu, du⟩, ne⟩ b hb
    rcases List.mem_cons.mp hb with rfl | hb
    · exact ⟨_, a, fun v q => by cases q⟩
    · rw [List.mem_singleton.mp hb]
      exact ⟨u, hu, fun v q => by rw [du] at q; cases q⟩
  · rintro n h h2 ⟨⟨old, a⟩, b, ne⟩ kp
    exact ⟨⟨old, kp e List.mem_cons_self _ a⟩, b.at fun o q => kp i (List.mem_cons_of_mem _ List.mem_cons_self) o q, ne⟩
  · rintro X rfl rfl rfl calm n pins s σ H E I apart ⟨⟨old, a⟩, b, ne⟩ ⟨xs, x, tx, hx⟩
    obtain ⟨vs, rel, isT, _⟩ := I.tuple tx
    have isT := tup_is isT
    obtain ⟨v, hv, rv⟩ := rel.get hx
    have hv2 : vs.toArray[n]? = some v := by rw [List.getElem?_toArray]; exact hv
    have lt := (Array.getElem?_eq_some_iff.mp hv2).1
    have away : e ∉ [i, t] := fun z => by
      rcases List.mem_cons.mp z with z | z
      · exact ne z
      · exact en_ne a isT (List.mem_singleton.mp z)
    have drawn := Draws.tuple (prog := X.prog) (w := X.w) (A := X.A.in1) (I.ok.hd calm) i t (tup_ne b isT) vs.toArray
    have W := WalksT.enumerateD drawn e ne away List.mem_cons_self
    refine W.item n s _ E lt ⟨⟨old, a⟩, b, isT⟩ ?_
    rintro p ws h1 tk ⟨tok, v2, g, rfl⟩ up there mid kp1
    cases hv2.symm.trans g
    refine ⟨_, rfl, W.go es kk ps n p { s with heap := h1, toks := tk } _ E mid ?_⟩
    rintro h2 ⟨⟨old2, a2⟩, b2, _⟩ kp2
    obtain ⟨op, hop, cp, c1, dp⟩ := there
    have free : H p = none := I.hok.fresh up
    have made : ObjOk X.prog X.w (upd H p (.tup [.int (n : Nat), x])) h2 p (.tup [.int (n : Nat), x]) := by
      refine ⟨?_, [.int n tok, v], .cons ⟨tok, rfl⟩ (.cons rv .nil), op, kp2 p op (W.apart n p h1 mid) hop, cp, c1, dp⟩
      show 2 ≤ sizeLine
      decide
    have I2 := I.turnedNew (t' := tk) (fun c o nc q => kp2 c o nc (kp1 c o nc q)) apart up made
    refine ⟨.ref p, _, I2, rfl, ⟨p, x, rfl, free, rfl, fun ys ty => by rw [I.tuple_inj ty tx]; exact hx⟩, ⟨⟨old2, a2⟩, b2, ne⟩, fun c hc => ?_⟩
    rw [upd_ne fun z => by
      obtain ⟨o, ho, _⟩ : ∃ o, s.heap.get? c = some o ∧ True := by
        rcases List.mem_cons.mp hc with rfl | hc
        · exact ⟨_, a, trivial⟩
        · rw [List.mem_singleton.mp hc]
          obtain ⟨o, ho, _⟩ := b
          exact ⟨o, ho, trivial⟩
      have := Heap.lt_size ho
      rw [z] at this
      exact absurd up (Nat.not_le.mpr this)]
    exact (apart c hc).1
  · rintro X rfl rfl rfl calm n pins s σ H E I apart ⟨⟨old, a⟩, b, ne⟩ ⟨xs, tx, len⟩
    obtain ⟨vs, rel, isT, _⟩ := I.tuple tx
    have isT := tup_is isT
    have away : e ∉ [i, t] := fun z => by
      rcases List.mem_cons.mp z with z | z
      · exact ne z
      · exact en_ne a isT (List.mem_singleton.mp z)
    have drawn := Draws.tuple (prog := X.prog) (w := X.w) (A := X.A.in1) (I.ok.hd calm) i t (tup_ne b isT) vs.toArray
    have W := WalksT.enumerateD drawn e ne away List.mem_cons_self
    have eq : n = vs.toArray.size := by rw [← len, rel.length, List.size_toArray]
    subst eq
    exact W.done s _ E ⟨⟨old, a⟩, b, isT⟩ fun h2 tk kp => ⟨rfl, I.turnedL kp apart⟩
  · rintro A n s Q E ⟨⟨old, a⟩, _⟩ goal
    exact wpAny_pyIter_enum a goal
def iNum (K : PySem.W.Frag) (ta : TA) : TI := fun σ H R => ta σ H fun vs H1 => ∃ t xs, vs = [.ref t] ∧ SqT K H1 t xs ∧ R (ItN K t) H1
theorem pi_enumT {X : Cx} {e : Expr} {ta : TA} {p pos tpos : Pos} {es : List Expr} {kk : Nat} (g : Gl X "enumerate") (free : X.mg "enumerate" = none) (arg : PA X [e] ta) (one : starEach [e] X.env = [(false, eval e X.env)] := by rfl) :
    PI X (.Tuple es kk tpos) (.Call (.Name "enumerate" p) [e] [] pos) (iNum X.K ta) := by
  constructor
  intro pins s σ H R I had
  refine Call_ (ld_blt I g free boot_enumerate ?_)
  refine PyProof.Rows.callWith_type1 ?_ one rfl
  refine thn (arg.run pos pins s σ H _ I had) ?_
  rintro us s1 ⟨vs, H1, I1, rel, t, xs, rfl, tx, goal⟩
  obtain ⟨u, rfl, ru⟩ := vals1 rel
  cases (show u = Value.ref t from ru)
  obtain ⟨ws, _, isT, _⟩ := I1.tuple tx
  refine call_does (tup_is isT) (wpAny_pyIter_enum (made_en s1.heap t) ?_)
  have I2 : Inv X pins σ H1 { s1 with heap := made s1.heap t } := I1.kept (t' := s1.toks) fun b o q => made_old s1.heap t b o q
  refine ⟨_, _, _, _, H1, rfl, I2, turns (s1.heap.objs.size + 1) s1.heap.objs.size t, ⟨⟨.none, made_en s1.heap t⟩, ⟨_, made_it s1.heap t, rfl, rfl⟩, Nat.succ_ne_self _⟩, fun b hb => ?_, goal⟩
  have up : s1.heap.objs.size ≤ b := by
    rcases List.mem_cons.mp hb with rfl | hb
    · exact Nat.le_succ _
    · rw [List.mem_singleton.mp hb]
      exact Nat.le_refl _
  exact I1.fpOk up (I1.hok.fresh up)
theorem walk_enumT {K : PySem.W.Frag} {t : Addr} {xs : List V} : Walk (ItN K t) xs.length (fun H => SqT K H t xs) (YPair (fun n => some (.int (n : Nat))) (fun n => xs[n]?)) where
  goes := fun n _ lt q => ⟨xs, xs[n], q, List.getElem?_eq_getElem lt⟩
  stops := fun _ q => ⟨xs, q, rfl⟩
  yields := fun n _ _ _ _ q y => by
    obtain ⟨p, x, a, b, c, d⟩ := y
    exact ⟨p, .int (n : Nat), x, a, b, c, rfl, d xs q⟩
end EnT
namespace L2
open PySem PySem.Spec PyProof.Rows
/-- isinstance(e, c), e the exception that the suite holds, with a dict or without -/
def rIsS2 (K : PySem.W.Frag) (a : Addr) (cls : Value) (d : Option Addr) : List V → Hp → VK → Prop := fun xs H Q => ∃ (C : Addr) (c : V) (u : Value) (b : Bool), xs = [.ref a, c] ∧ cls = .ref C ∧ (d = none ∨ ∃ dd fs, d = some dd ∧ H dd = some (.xd fs)) ∧
  ExcC K C ∧ ClsV c u ∧ PySem.W.kitOne K (.ref C) u = some b ∧ Q (.bl b) H
theorem call_isS2 {X : Cx} {K : PySem.W.Frag} {a : Addr} {cls : Value} {d : Option Addr} {oe : Obj} {pn : List (Addr × Obj)} (hK : X.K = K) (hz : Zc cls d oe) (hf : ∃ vs, oe.data = .fields vs) : CallR (X.suite a ((a, oe) :: pn)) (.builtin "isinstance") (rIsS2 K a cls d) := by
  rintro pins s σ H _ us Q I rel ⟨C, c, u, b, rfl, rfl, kind, D, isC, ans, goal⟩
  rcases kind with rfl | ⟨dd, fs, rfl, there⟩
  · have E : CallR (X.suite a ((a, oe) :: pn)) (.builtin "isinstance") (rIsE X.K C a) := call_isE (hK ▸ D) hz hf
    exact E pins s σ H _ us Q I rel ⟨c, u, b, rfl, fun v q => isC.eq q, hK ▸ ans, goal⟩
  · exact call_isS hK hz hf pins s σ H _ us Q I rel ⟨C, dd, fs, c, u, b, rfl, rfl, rfl, there, D, isC, ans, goal⟩
theorem call_tuple_ofK {X : Cx} {K : PySem.W.Frag} (h : X.K = K) : CallR X (.type "tuple") (fun xs H Q => ∃ p ys, xs = [.ref p] ∧ ((SqL K H p ys ∧ ∀ l, H l = none → Q (.ref l) (upd H l (.tup ys))) ∨ (SqT K H p ys ∧ Q (.ref p) H))) := by
  subst h
  exact call_tuple_of
theorem call_list_ofK {X : Cx} {K : PySem.W.Frag} (h : X.K = K) : CallR X (.type "list") (fun xs H Q => ∃ p ys, xs = [.ref p] ∧ (SqL K H p ys ∨ SqT K H p ys) ∧ ∀ l, H l = none → Q (.ref l) (upd H l (.lst ys))) := by
  subst h
  exact call_list_of
end L2
namespace RZ
open PySem PySem.Spec PyProof.Rows L2
theorem walk_zipT {K : PySem.W.Frag} {a b : Addr} {xs ys : List V} {n : Nat} (hn : n = min xs.length ys.length) : Walk (ItzT K a b) n (fun H => SqT K H a xs ∧ SqT K H b ys) (YPair (fun i => xs[i]?) (fun i => ys[i]?)) where
  goes := fun i _ lt q => ⟨xs, ys, xs[i]'(by omega), ys[i]'(by omega), q.1, q.2, List.getElem?_eq_getElem _, List.getElem?_eq_getElem _⟩
  stops := fun _ q => ⟨xs, ys, q.1, q.2, by omega⟩
  yields := fun i _ _ _ _ q y => by
    obtain ⟨p, x, z, a1, a2, a3, a4, a5⟩ := y
    exact ⟨p, x, z, a1, a2, a3, a4 xs q.1, a5 ys q.2⟩
end RZ

/-! defs with a star parameter and keyword-only ones behind it, called with keywords -/
namespace StK
open PySem PySem.Spec PyProof.Rows L2 StX
/-- a def called with values and with keywords named ks, told of the values alone -/
def FnK (P : Program) (w : World) (K : PySem.W.Frag) (mg : Str → Option Value) (base : Heap) (CX : CXT) (k : Nat) (f : Addr) (ks : List Str) (sp : List V → List V → Hp → VK → XK → Prop) : Prop :=
  ∀ (A : Around) (outer : List Env) (s : Shared) (H : Hp) (us ws : List Value) (vs zs : List V) (Q : VK) (E : XK),
    Room k A → Env0 P w K mg base A outer s H → Vals vs us → Vals zs ws → zs.length = ks.length → sp vs zs H Q E →
      codeAny (model P w) A (.call (.ref f) ⟨us, ks.zip ws⟩) (CR CX outer P w H s Q E) s
section
variable {CX : CXT} {P : Program} {w : World} {K : PySem.W.Frag} {mg : Str → Option Value} {base : Heap} {k n : Nat} {f : Addr} {name qual : Str} {params : Arguments} {body : List Stmt} {scope : Scope} {dV kV doc pm cdv ct oc : Value} {an od : Option Addr}
  {osl : Array (Option Value)} {N ps ks : List Str} {sp : Sp}
theorem FnK.mono {j : Nat} {q : List V → List V → Hp → VK → XK → Prop} (F : FnK P w K mg base CX j f ks q) (h : j ≤ k) : FnK P w K mg base CX k f ks q :=
  fun A outer s H us ws vs zs Q E room => F A outer s H us ws vs zs Q E (room.mono h)
/-- def f(a, .., *v, k): n values ahead, the rest in a new tuple, each keyword written -/
theorem fn_starK {pv : Str} (at_ : K.lookup f = some ⟨oc, od, .func (PySem.W.fnOf name qual params body scope dV kV doc pm an cdv ct), osl⟩) (code : PySem.W.codeIn K cdv qual = true) (S : FnScope N (ps ++ [pv]) scope) (up : CXUp CX) (hps : ps.length = n + ks.length)
    (bind : ∀ us rest ws : List Value, us.length = n → ws.length = ks.length → bindArgs (PySem.W.fnOf name qual params body scope dV kV doc pm an cdv ct) ⟨us ++ rest, ks.zip ws⟩ = (newTuple rest >>= fun t => pure (ps.zip (us ++ ws) ++ [(pv, t)])))
    (run : ∀ (A : Around) (outer : List Env) (s : Shared) (H : Hp) (vs : List V) (Q : VK) (E : XK), Room k (A.deeper (envOfC qual scope s.heap.objs.size f cdv)) → sp vs H Q E →
      ∃ t, PSs (cxOf CX P w K mg base N qual scope f cdv A outer s H E) body t ∧ t { nx := fun _ H' => Q .non H', rt := Q } (start N vs) H) :
    FnK P w K mg base CX (k + 1) f ks (fun vs zs H Q E => ∃ hd rest, vs = hd ++ rest ∧ hd.length = n ∧ rest.length ≤ sizeLine ∧ ∀ p, H p = none → sp ((hd ++ zs) ++ [V.ref p]) (upd H p (.tup rest)) Q E) := by
  rintro A outer s H us ws vs zs Q E room env rv rz lz ⟨hd, rest, rfl, lh, small, goes⟩
  obtain ⟨u1, u2, rfl, r1, r2⟩ := vals_split rv
  have free : H s.heap.objs.size = none := env.hok.fresh (Nat.le_refl _)
  have l1 : u1.length = n := r1.length.symm.trans lh
  have lw : ws.length = ks.length := rz.length.symm.trans lz
  have few : u2.length ≤ sizeLine := by
    rw [← r2.length]
    exact small
  let here : Obj := { cls := .type "tuple", data := .seq u2.toArray }
  refine run_bnd at_ code S room env (G := fun xs G => ∃ p, H p = none ∧ xs = (hd ++ zs) ++ [V.ref p] ∧ G = upd H p (.tup rest)) (fun A' Ex Q' told => ?_) ?_
  · rw [bind u1 u2 ws l1 lw]
    refine wpAny_bind (wpAny_newTuple (wpAny_pure ?_) few)
    have laid : ObjOk P w (upd H s.heap.objs.size (.tup rest)) (s.heap.push here) s.heap.objs.size (.tup rest) := ⟨small, u2, r2, _, Heap.get?_push_size _ rfl, rfl, _, rfl⟩
    have un : Un (frs outer) [] H (upd H s.heap.objs.size (.tup rest)) s.heap (s.heap.push here) := un_laid free
    have len : ((hd ++ zs) ++ [V.ref s.heap.objs.size]).length = (ps ++ [pv]).length := by
      rw [List.length_append, List.length_append, List.length_append, lh, lz, hps]
      rfl
    have got := told _ _ ((hd ++ zs) ++ [V.ref s.heap.objs.size]) ((u1 ++ ws) ++ [Value.ref s.heap.objs.size]) (env0_laid env laid) un rfl
      (fun e s' => up outer s H _ _ E e s' un (fun b o q => Heap.get?_push_of_some _ q) rfl) ((r1.append rz).append (.cons rfl .nil)) len ⟨_, free, rfl, rfl⟩
    have cut : ps.length = (u1 ++ ws).length := by rw [List.length_append, l1, lw, hps]
    rw [List.zip_append cut] at got
    exact got
  · rintro s2 _ _ ⟨p, hp, rfl, rfl⟩ room'
    exact run A outer s2 _ _ Q E room' (goes p hp)
end
section
variable {X : Cx} {CX : CXT} {k : Nat} {f : Addr} {ks : List Str} {q : List V → List V → Hp → VK → XK → Prop} {E : XK} {x : Str} {p pos : Pos} {e : Expr} {es : List Expr} {kws : List Keyword} {t tk : TA}
def tCallFK (q : List V → List V → Hp → VK → XK → Prop) (n : Nat) (E : XK) (t tk : TA) : TE := fun σ H Q => t σ H fun vs H1 => tk σ H1 fun zs H2 => zs.length = n ∧ q vs zs H2 Q E
/-- f(e, .., k = v) of such a def -/
theorem pe_callFK (F : FnK X.prog X.w X.K X.mg X.base CX k f ks q) (room : Room k X.A) (gl : Gl X x) (there : X.mg x = some (.ref f)) (kp : PySem.W.keepIn X.K (.ref f) = true) (pass : Passes CX X E)
    (ha : PA X (e :: es) t) (hk : PK X kws tk) (each : (backToKw pos (keywordEach kws X.env)).all (·.1.isSome) = true := by rfl) (names : (backToKw pos (keywordEach kws X.env)).filterMap (·.1) = ks := by rfl)
    (nd : (x == ("__debug__" : Str)) = false := by decide) (st : starEach (e :: es) X.env = (false, eval e X.env) :: starEach es X.env := by rfl)
    (pl : ((backTo pos (starEach (e :: es) X.env)).any (·.1) || (backToKw pos (keywordEach kws X.env)).any (·.1.isNone)) = false := by rfl) :
    PE X (.Call (.Name x p) (e :: es) kws pos) (tCallFK q ks.length E t tk) := by
  refine ⟨fun pins s σ H Q I h => wpAny_Call_Name_kw (ld_glob I gl there ?_ nd)⟩
  refine PySem.W.callWith_KW (h₀ := X.base) I.ok.mod.kin kp each (thn (ha.run pos pins s σ H _ I h) ?_) pl st
  rintro us s1 ⟨vs, H1, I1, r, g1⟩
  refine thn (hk.run pos pins s1 σ H1 _ I1 g1) ?_
  rintro ws s2 ⟨zs, H2, I2, rz, lz, g2⟩
  refine ⟨I2.kIn, ?_⟩
  rw [names]
  refine wpAny_call (codeAny_mono (F X.A X.stack s2 H2 us ws vs zs Q E room I2.env0 r rz lz g2) fun out s' h' => ?_)
  match out, h' with
  | .error e, h' => exact pass pins σ H2 s2 e s' I2 h'
  | .ok (.ret u), h' => exact I2.after h'
  | .ok .next, h' => exact h'.elim
  | .ok .brk, h' => exact h'.elim
  | .ok .cont, h' => exact h'.elim
end
end StK

/-! an own object made within an except suite; a class that a local name holds, called with keywords -/
namespace MkH
open PySem PySem.Spec PyProof.Rows L2 L2H
section
variable {X : Cx} {CX : CXT} {k : Nat} {f C : Addr} {fd : FuncData} {ps : List Str} {sp : Sp} {x : Str} {p pos : Pos} {dvs : List V} {ds : List Value}
/-- C(): all that __init__ takes has defaults -/
theorem pe_make0H (M : Mk X.K C f) (F : FnH X.prog X.w X.K X.mg X.base CX k f fd ps sp) (room : RoomH (k + 1) X.A) (hot : HotC X) (b : Binds X.K fd ps ds) (d : Vals dvs ds) (pass : Passes CX X (fun _ _ _ => False)) (g : Gl X x) (m : X.mg x = some (.ref C))
    (nodebug : (x == ("__debug__" : Str)) = false := by decide) : PE X (.Call (.Name x p) [] [] pos) (tMake C sp dvs (fun _ _ _ => False) tNil) := by
  constructor
  intro pins s σ H Q I had
  obtain ⟨pn, h1, mem⟩ := hot
  refine wpAny_Call_Name_kw (ld_glob I g m ?_ nodebug)
  refine PySem.W.callWith_K0 I.kIn M.kp ?_
  have free : ∀ c, s.heap.objs.size ≤ c → H c = none := fun c le => I.hok.fresh le
  have had1 := had (s.heap.objs.size + 1) s.heap.objs.size (free _ (Nat.le_succ _)) (free _ (Nat.le_refl _)) (Nat.ne_of_lt (Nat.lt_succ_self _))
  have I2 := Inv.made I (C := C)
  have rel : Vals (V.ref (s.heap.objs.size + 1) :: ([] ++ dvs)) (Value.ref (s.heap.objs.size + 1) :: ([] ++ ds)) := .cons rfl d
  have len : ([Value.ref (s.heap.objs.size + 1)] ++ ds).length = ps.length := by
    rw [← F.len _ _ _ _ had1]
    exact rel.length.symm
  have at2 := I2.pin pn (List.mem_append_left _ mem)
  refine wpAny_call (make_map (f := f) I.kIn M.makes M.init (beq_iff_eq.mp M.fn) (codeAny_mono (F.run _ X.stack _ _ ⟨[Value.ref (s.heap.objs.size + 1)], []⟩ ([Value.ref (s.heap.objs.size + 1)] ++ ds) _ _ (fun _ _ _ => False) pn
    (RoomH.make room C [] []) ⟨h1.1, h1.2⟩ ⟨at2.1, at2.2.1, fun z => ?_, at2.2.2.2.2⟩ (I2.env0.make C [] []) (b _ [Value.ref (s.heap.objs.size + 1)] I2.kIn len) rel had1) fun r s2 told => ?_))
  · rcases List.mem_cons.mp (I2.stkSub pn.1 z) with z | z
    · exact at2.2.2.1 z
    · exact at2.2.2.2.1 z
  · match r, told with
    | .error e, told => exact pass pins σ _ _ e s2 I2 told
    | .ok (.ret u), told =>
      obtain ⟨v, H2, I3, ru, rfl, q⟩ := I2.after told
      exact ⟨ru, V.ref (s.heap.objs.size + 1), H2, I3, rfl, q⟩
    | .ok .next, told => exact told.elim
    | .ok .brk, told => exact told.elim
    | .ok .cont, told => exact told.elim
end
section
variable {X : Cx} {CX : CXT} {k i : Nat} {f C : Addr} {fd : FuncData} {ps ks : List Str} {sp : Sp} {E : XK} {x : Str} {p pos : Pos} {kws : List Keyword} {tk : TA} {gb : List Value → List Value → List Value} {gV : List V → List V → List V}
/-- the i-th slot holds the class C: name(k = v, ..) -/
def tMakeL (i : Nat) (C : Addr) (m : Nat) (sp : Sp) (gV : List V → List V → List V) (E : XK) (tk : TA) : TE := fun σ H Q => σ[i]? = some (some (.ref C)) ∧ tMakeK C 0 m sp gV E tNil tk σ H Q
theorem pe_makeL (M : Mk X.K C f) (F : FnOk X.prog X.w X.K X.mg X.base CX k f fd ps sp) (room : Room (k + 1) X.A) (at_ : X.N[i]? = some x) (vis : Vis X.env.scope x) (b : KBn X.K fd ps 1 ks gb gV) (pass : Passes CX X E) (kw : PK X kws tk)
    (hall : (backToKw pos (keywordEach kws X.env)).all (·.1.isSome) = true := by rfl) (hks : (backToKw pos (keywordEach kws X.env)).filterMap (·.1) = ks := by rfl) (d1 : (x == ("__debug__" : Str)) = false := by decide) (d2 : (x == ("__classdict__" : Str)) = false := by decide)
    (star : ((backTo pos (starEach [] X.env)).any (·.1) ||
      (backToKw pos (keywordEach kws X.env)).any (·.1.isNone)) = false := by rfl) :
    PE X (.Call (.Name x p) [] kws pos) (tMakeL i C ks.length sp gV E tk) := by
  constructor
  rintro pins s σ H Q I ⟨slot, had⟩
  refine wpAny_Call_Name_kw (thn ((pe_var (pos := p) at_ vis d1 d2).run pins s σ H (fun v G => v = .ref C ∧ G = H) I ⟨.ref C, slot, rfl, rfl⟩) ?_)
  rintro u s1 ⟨v, G, I1, rv, rfl, rfl⟩
  cases (show u = Value.ref C from rv)
  refine PySem.W.callWith_KW0 (h₀ := X.base)
    I.ok.mod.kin M.kp hall ?_ star
  refine thn (kw.run pos pins s1 σ G _ I1 had) ?_
  rintro ws s2 ⟨zs, G2, I2, rz, l1, l2, q⟩
  rw [hks]
  exact ⟨I2.kIn, run_makeK (us := []) (vs := []) M F room b pass I2 .nil rz rfl l2 q⟩
end
end MkH

/-! calls of methods that may raise: what they raise goes on -/
namespace MkS
open PySem PySem.Spec PyProof.Rows L2
section
variable {X : Cx} {CX : CXT} {k : Nat} {f C : Addr} {fd : FuncData} {ps : List Str} {sp : Sp} {E : L2.St → XK} {m : Str} {pos apos : Pos} {e o : Expr} {es : List Expr} {ta : TE} {t : TA} {pl : Sem Bool}
/-- o.m(e, ..) -/
theorem pe_methS (he : PE X o ta) (c : Cls X.K C) (hm : Meth X.K C m f) (F : FnOk X.prog X.w X.K X.mg X.base CX k f fd ps sp) (room : Room k X.A) (b : Binds X.K fd ps []) (pass : ∀ σ, PassesAt CX X σ (E σ)) (ha : PA X (e :: es) t)
    (one : starEach (e :: es) X.env = (false, eval e X.env) :: starEach es X.env := by rfl) (more : (backTo pos (starEach es X.env)).any (·.1) = false := by rfl)
    (road : eval (.Call (.Attribute o m apos) (e :: es) [] pos) X.env = (do
      let it ← eval o X.env
      standAt apos.atName
      let (fn, self) ← holding [it] (getMethod it m pl)
      callWith pos fn self (backTo pos (starEach (e :: es) X.env)) (backToKw pos (keywordEach [] X.env))) := by rfl) :
    PE X (.Call (.Attribute o m apos) (e :: es) [] pos) (L2H.tMethH C m sp E ta t) := by
  constructor
  intro pins s σ H Q I had
  refine PySem.W.methodCall_KW (pl := pl) (thn (he.run pins s σ H _ I had) ?_) road
  rintro u s1 ⟨x, H1, I1, ru, a, dx, fs, rfl, at_, no, q⟩
  cases (show u = Value.ref a from ru); skip
  refine getmeth_ok I1 at_ c hm no (PySem.W.callWith_K (first := [.ref a]) (h₀ := X.base) I.ok.mod.kin hm.kp (thn (ha.run pos pins s1 σ H1 _ I1 q) ?_) one more)
  rintro us s2 ⟨vs, H2, I2, r, q2⟩
  exact ⟨I2.kIn, run_fnS (us := .ref a :: us) (vs := .ref a :: vs) F room b (pass σ) I2 (.cons rfl r) q2⟩
end
section
variable {X : Cx} {CX : CXT} {k n : Nat} {f C : Addr} {fd : FuncData} {ps ks : List Str} {sp : Sp} {E : L2.St → XK} {x : Str} {p pos : Pos} {kws : List Keyword} {tk : TA} {gb : List Value → List Value → List Value} {gV : List V → List V → List V}
/-- a new object by keywords, its __init__ may raise -/
theorem run_makeS {pins : List (Addr × Obj)} {σ : L2.St} {H : Hp} {s : Shared} {Q : VK} {ws : List Value} {zs : List V} (M : Mk X.K C f) (F : FnOk X.prog X.w X.K X.mg X.base CX k f fd ps sp) (room : Room (k + 1) X.A) (b : KBn X.K fd ps 1 ks gb gV) (pass : PassesAt CX X σ (E σ))
    (I : Inv X pins σ H s) (rz : Vals zs ws) (lz : zs.length = ks.length)
    (had : ∀ c dx, H c = none → H dx = none → dx ≠ c → sp (gV [.ref c] zs) (upd (upd H dx (.own c)) c (.ins C dx [])) (fun v G => v = .non ∧ Q (.ref c) G) (E σ)) :
    wpAny (model X.prog X.w) X.A (call (.ref C) [] (ks.zip ws)) (EP X pins σ Q) X.xe s := by
  have free : ∀ c, s.heap.objs.size ≤ c → H c = none := fun c le => I.hok.fresh le
  have had1 := had (s.heap.objs.size + 1) s.heap.objs.size (free _ (Nat.le_succ _)) (free _ (Nat.le_refl _)) (Nat.ne_of_lt (Nat.lt_succ_self _))
  have I2 := Inv.made I (C := C)
  have self : Vals [V.ref (s.heap.objs.size + 1)] [Value.ref (s.heap.objs.size + 1)] := .cons rfl .nil
  refine wpAny_call (make_map (f := f) I.kIn M.makes M.init (beq_iff_eq.mp M.fn) (codeAny_mono (F.run _ X.stack _ _ ⟨[Value.ref (s.heap.objs.size + 1)], ks.zip ws⟩ (gb [Value.ref (s.heap.objs.size + 1)] ws) _ _ (E σ) (room.make C [] (ks.zip ws))
    (I2.env0.make C [] (ks.zip ws)) (b.to _ _ ws I2.kIn rfl (rz.length.symm.trans lz)) (b.rel self rz) had1) fun r s2 told => ?_))
  match r, told with
  | .error e, told => exact pass pins _ _ e s2 I2 told
  | .ok (.ret u), told =>
    obtain ⟨v, G, I3, ru, rfl, q⟩ := I2.after told
    exact ⟨ru, V.ref (s.heap.objs.size + 1), G, I3, rfl, q⟩
  | .ok .next, told => exact told.elim
  | .ok .brk, told => exact told.elim
  | .ok .cont, told => exact told.elim
/-- C(k = v, ..) -/
def tMakeS (C : Addr) (m : Nat) (sp : Sp) (gV : List V → List V → List V) (E : L2.St → XK) (tk : TA) : TE := fun σ H Q => tk σ H fun zs G => zs.length = m ∧ ∀ c dx, G c = none → G dx = none → dx ≠ c →
  sp (gV [.ref c] zs) (upd (upd G dx (.own c)) c (.ins C dx [])) (fun v G2 => v = .non ∧ Q (.ref c) G2) (E σ)
theorem pe_makeS (M : Mk X.K C f) (F : FnOk X.prog X.w X.K X.mg X.base CX k f fd ps sp) (room : Room (k + 1) X.A) (g : Gl X x) (m : X.mg x = some (.ref C)) (b : KBn X.K fd ps 1 ks gb gV) (pass : ∀ σ, PassesAt CX X σ (E σ)) (kw : PK X kws tk)
    (hall : (backToKw pos (keywordEach kws X.env)).all (·.1.isSome) = true := by rfl) (hks : (backToKw pos (keywordEach kws X.env)).filterMap (·.1) = ks := by rfl) (nodebug : (x == ("__debug__" : Str)) = false := by decide)
    (star : ((backTo pos (starEach [] X.env)).any (·.1) ||
      (backToKw pos (keywordEach kws X.env)).any (·.1.isNone)) = false := by rfl) :
    PE X (.Call (.Name x p) [] kws pos) (tMakeS C ks.length sp gV E tk) := by
  constructor
  intro pins s σ H Q I had
  refine wpAny_Call_Name_kw (ld_glob I g m ?_ nodebug)
  refine PySem.W.callWith_KW0 (h₀ := X.base) I.ok.mod.kin M.kp hall (thn (kw.run pos pins s σ H _ I had) ?_) star
  rintro ws s2 ⟨zs, G2, I2, rz, lz, q⟩
  rw [hks]
  exact ⟨I2.kIn, run_makeS M F room b (pass σ) I2 rz lz q⟩
end
end MkS

/-! a call of a class method that may raise -/
namespace MkS
open PySem PySem.Spec PyProof.Rows L2 ClX
section
variable {X : Cx} {CX : CXT} {k : Nat} {C p g : Addr} {mc : Value} {fd : FuncData} {ps : List Str} {sp : Sp} {E : L2.St → XK} {m : Str} {pos apos : Pos} {o e : Expr} {es : List Expr} {to : TE} {t : TA} {pl : Sem Bool}
def tCMethS (C : Addr) (sp : Sp) (E : L2.St → XK) (to : TE) (t : TA) : TE := fun σ H Q => to σ H fun x G => x = .ref C ∧ t σ G fun zs G2 => sp (.ref C :: zs) G2 Q (E σ)
/-- K.m(e, ..) -/
theorem pe_cmethS (he : PE X o to) (r : CRead X.K C mc) (c : CMet X.K C mc m p g) (F : FnOk X.prog X.w X.K X.mg X.base CX k g fd ps sp) (room : Room k X.A) (b : Binds X.K fd ps []) (pass : ∀ σ, PassesAt CX X σ (E σ)) (ha : PA X (e :: es) t)
    (one : starEach (e :: es) X.env = (false, eval e X.env) :: starEach es X.env := by rfl) (more : (backTo pos (starEach es X.env)).any (·.1) = false := by rfl)
    (road : eval (.Call (.Attribute o m apos) (e :: es) [] pos) X.env = (do
      let it ← eval o X.env
      standAt apos.atName
      let (fn, self) ← holding [it] (getMethod it m pl)
      callWith pos fn self (backTo pos (starEach (e :: es) X.env)) (backToKw pos (keywordEach [] X.env))) := by rfl) :
    PE X (.Call (.Attribute o m apos) (e :: es) [] pos) (tCMethS C sp E to t) := by
  constructor
  intro pins s σ H Q I had
  refine PySem.W.methodCall_KW (pl := pl) (thn (he.run pins s σ H _ I had) ?_) road
  rintro u s1 ⟨x, G, I1, ru, rfl, q⟩
  cases (show u = Value.ref C from ru)
  refine getmethcm_ok I1 r c ?_
  intro s2 I2
  refine callwith_cm I2 (base_none I1 (Nat.le_refl _)) c.fi (thn (ha.run pos _ s2 σ G _ I2 q) ?_) one more
  rintro us s3 ⟨zs, G2, I3, rz, q2⟩
  refine ⟨⟨pin_at I3, I3.kIn⟩, ?_⟩
  have both : Vals (V.ref C :: zs) (Value.ref C :: us) := .cons rfl rz
  have len : (Value.ref C :: us).length = ps.length := both.length.symm.trans (F.len _ _ _ _ q2)
  have args := b s3 (.ref C :: us) I3.kIn (by rw [List.append_nil]; exact len)
  rw [List.append_nil] at args
  have z : wpAny (model X.prog X.w) X.A (call (.ref s1.heap.objs.size) us) (EP X ((s1.heap.objs.size, PySem.W.methodObj (.ref g) (.ref C)) :: pins) σ Q) X.xe s3 := by
    refine wpAny_call (PySem.W.method_call (pin_at I3) (codeAny_mono (F.run X.A X.stack s3 G2 ⟨.ref C :: us, []⟩ (.ref C :: us) (.ref C :: zs) Q (E σ) room I3.env0 args both q2) ?_))
    intro r s4 told
    match r, told with
    | .error e, told => exact pass σ _ _ _ e s4 I3 told
    | .ok (.ret u), told => exact I3.after told
    | .ok .next, told => exact told.elim
    | .ok .brk, told => exact told.elim
    | .ok .cont, told => exact told.elim
  exact thn z fun _ _ told => unpinE told
end
end MkS

/-! more calls that may raise: a method without arguments, a class in a local name; a def with defaults where an exception is handled -/
namespace MkS
open PySem PySem.Spec PyProof.Rows L2
section
variable {X : Cx} {CX : CXT} {k : Nat} {f C : Addr} {fd : FuncData} {ps : List Str} {sp : Sp} {E : L2.St → XK} {m : Str} {pos apos : Pos} {o : Expr} {ta : TE} {pl : Sem Bool}
/-- o.m() -/
def tMethS0 (C : Addr) (m : Str) (sp : Sp) (E : L2.St → XK) (ta : TE) : TE := fun σ H Q => ta σ H fun x H1 => ∃ a dx fs, x = .ref a ∧ H1 a = some (.ins C dx fs) ∧ fs.lookup m = none ∧ sp [.ref a] H1 Q (E σ)
theorem pe_methS0 (he : PE X o ta) (c : Cls X.K C) (hm : Meth X.K C m f) (F : FnOk X.prog X.w X.K X.mg X.base CX k f fd ps sp) (room : Room k X.A) (b : Binds X.K fd ps []) (pass : ∀ σ, PassesAt CX X σ (E σ))
    (road : eval (.Call (.Attribute o m apos) [] [] pos) X.env = (do
      let it ← eval o X.env
      standAt apos.atName
      let (fn, self) ← holding [it] (getMethod it m pl)
      callWith pos fn self (backTo pos (starEach [] X.env)) (backToKw pos (keywordEach [] X.env))) := by rfl) :
    PE X (.Call (.Attribute o m apos) [] [] pos) (tMethS0 C m sp E ta) := by
  constructor
  intro pins s σ H Q I had
  refine PySem.W.methodCall_KW (pl := pl) (thn (he.run pins s σ H _ I had) ?_) road
  rintro u s1 ⟨x, H1, I1, ru, a, dx, fs, rfl, at_, no, q⟩
  cases (show u = Value.ref a from ru); skip
  refine getmeth_ok I1 at_ c hm no (PySem.W.callWith_K0 (first := [.ref a]) I1.kIn hm.kp ?_)
  exact run_fnS (us := [.ref a]) (vs := [.ref a]) F room b (pass σ) I1 (.cons rfl .nil) q
end
section
variable {X : Cx} {CX : CXT} {k i : Nat} {f C : Addr} {fd : FuncData} {ps ks : List Str} {sp : Sp} {E : L2.St → XK} {x : Str} {p pos : Pos} {kws : List Keyword} {tk : TA} {gb : List Value → List Value → List Value} {gV : List V → List V → List V}
/-- the i-th slot holds the class C: name(k = v, ..), its __init__ may raise -/
def tMakeLS (i : Nat) (C : Addr) (m : Nat) (sp : Sp) (gV : List V → List V → List V) (E : L2.St → XK) (tk : TA) : TE := fun σ H Q => σ[i]? = some (some (.ref C)) ∧ tMakeS C m sp gV E tk σ H Q
theorem pe_makeLS (M : Mk X.K C f) (F : FnOk X.prog X.w X.K X.mg X.base CX k f fd ps sp) (room : Room (k + 1) X.A) (at_ : X.N[i]? = some x) (vis : Vis X.env.scope x) (b : KBn X.K fd ps 1 ks gb gV) (pass : ∀ σ, PassesAt CX X σ (E σ)) (kw : PK X kws tk)
    (hall : (backToKw pos (keywordEach kws X.env)).all (·.1.isSome) = true := by rfl) (hks : (backToKw pos (keywordEach kws X.env)).filterMap (·.1) = ks := by rfl) (d1 : (x == ("__debug__" : Str)) = false := by decide) (d2 : (x == ("__classdict__" : Str)) = false := by decide)
    (star : ((backTo pos (starEach [] X.env)).any (·.1) ||
      (backToKw pos (keywordEach kws X.env)).any (·.1.isNone)) = false := by rfl) :
    PE X (.Call (.Name x p) [] kws pos) (tMakeLS i C ks.length sp gV E tk) := by
  constructor
  rintro pins s σ H Q I ⟨slot, had⟩
  refine wpAny_Call_Name_kw (thn ((pe_var (pos := p) at_ vis d1 d2).run pins s σ H (fun v G => v = .ref C ∧ G = H) I ⟨.ref C, slot, rfl, rfl⟩) ?_)
  rintro u s1 ⟨v, G, I1, rv, rfl, rfl⟩
  cases (show u = Value.ref C from rv)
  refine PySem.W.callWith_KW0 (h₀ := X.base)
    I.ok.mod.kin M.kp hall ?_ star
  refine thn (kw.run pos pins s1 σ G _ I1 had) ?_
  rintro ws s2 ⟨zs, G2, I2, rz, lz, q⟩
  rw [hks]
  exact ⟨I2.kIn, run_makeS M F room b (pass σ) I2 rz lz q⟩
end
end MkS
namespace L2
open PySem PySem.Spec PyProof.Rows
section
variable {P : Program} {w : World} {K : PySem.W.Frag} {mg : Str → Option Value} {base : Heap}
/-- a def with defaults called where an exception is handled, lets none out -/
theorem FunD.okH {x qual : Str} {params : Arguments} {body : List Stmt} {scope : Scope} {dvs : List V} {kws : List (Str × V)} {f : Addr} {fd : FuncData} {N ps : List Str} {k : Nat} {sp : Sp} (F : FunD K x qual params body scope dvs kws f fd) (S : FnScope N ps scope) (len : ∀ vs H Q E, sp vs H Q E → vs.length = ps.length)
    (walk : ∀ (cdv : Value) (A : Around) (outer : List Env) (s : Shared) (H : Hp) (vs : List V) (Q : VK) (E : XK) (p : Addr × Obj), L2H.Hot1 A p → L2H.RoomH k (A.deeper (envOfC qual scope s.heap.objs.size f cdv)) → sp vs H Q E →
      ∃ t, PSs (L2H.cxH CX0 P w K mg base N qual scope f cdv A outer s H E p).nox body t ∧ t { nx := fun _ H' => Q .non H', rt := Q } (start N vs) H) : L2H.FnH P w K mg base CX0 (k + 1) f fd ps sp := by
  obtain ⟨oc, od, dV, kV, doc, pm, an, cdv, ct, osl, rfl, lk, hcd, _, _⟩ := F.ex
  refine L2H.fn_ofH lk hcd S len fun A outer s H vs Q E p hot hr hsp => ?_
  obtain ⟨t, h, q⟩ := walk cdv A outer s H vs Q E p hot hr hsp
  exact ⟨t, h.nox, q⟩
/-- no keyword written: as if called by position with the defaults -/
theorem KBn.binds {fd : FuncData} {ps : List Str} {gb : List Value → List Value → List Value} {gV : List V → List V → List V} {ds : List Value} (b : KBn K fd ps 1 [] gb gV) (h : ∀ u, gb [u] [] = u :: ds) (hl : ps.length = ds.length + 1) : Binds K fd ps ds := by
  intro s us X l
  have e : us.length = 1 := by
    rw [List.length_append] at l
    omega
  match us, e with
  | [u], _ =>
    have z := b.to s [u] [] X rfl rfl
    rw [h u] at z
    exact z
end
end L2
namespace L2
open PySem PySem.Spec PyProof.Rows
theorem ix_kdictK {X : Cx} {K : PySem.W.Frag} {w : World} (h : X.K = K) (hw : X.w = w) : IxR X (rIxD K w) := by
  subst h
  subst hw
  exact ix_kdict
end L2
namespace L2
open PySem PySem.Spec PyProof.Rows
theorem pe_fldK {X : Cx} {K : PySem.W.Frag} {e : Expr} {f : Str} {pos : Pos} {ta : TE} (h : X.K = K) (it : PE X e ta) (hb : attributeBase e f X.env (eval e X.env) = eval e X.env) : PE X (.Attribute e f pos) (tFld K ta f) := by
  subst h
  exact pe_fld it hb
end L2

/-! == and repr of an instance with its own __eq__, __repr__ -/
namespace OwI
open PySem PySem.Spec PyProof.Rows L2
theorem stands {X : Cx} {pins : List (Addr × Obj)} {σ : L2.St} {H : Hp} {s : Shared} {a C dx : Addr} {fs : List (Str × V)} (I : Inv X pins σ H s) (e : H a = some (.ins C dx fs)) : ∃ o od, PySem.W.InstAt s.heap a o C (some od) := by
  obtain ⟨mA, O, _⟩ := ins_get I.hok e
  obtain ⟨od, J, _⟩ := O.look
  exact ⟨_, od, J⟩
/-- x op y, x an instance of the class at C whose def for op is at g, y an instance of the same class -/
def rOwnI (K : PySem.W.Frag) (C : Addr) (sp : Sp) (E : XK) : R2 := fun x y H Q => ∃ a dx fs b dy gs, x = .ref a ∧ y = .ref b ∧ H a = some (.ins C dx fs) ∧ H b = some (.ins C dy gs) ∧ PySem.W.notFirst K C (.ref C) = true ∧ sp [x, y] H Q E
section
variable {X : Cx} {CX : CXT} {C g : Addr} {n : Nat} {sp : Sp} {E : XK}
theorem op_ownI {op : CmpOp} (road : ∀ a b, compareOp op a b = richCompare op a b) (own : PySem.W.findIn X.K (.ref C) (cmpInfo op).2.1 = some (some (.ref g))) (isf : PySem.W.isFn X.K (.ref g) = true) (F : FnR X.prog X.w X.K X.mg X.base CX n g sp)
    (room : Room n X.A) (pass : Passes CX X E) : OpR X (compareOp op) (rOwnI X.K C sp E) := by
  rintro pins s σ H _ _ v u Q I rv ru ⟨a, dx, fs, b, dy, gs, rfl, rfl, ha, hb, nf, had⟩
  cases (show v = Value.ref a from rv)
  cases (show u = Value.ref b from ru)
  obtain ⟨o, od, J⟩ := stands I ha
  obtain ⟨o2, od2, J2⟩ := stands I hb
  obtain ⟨m, fr⟩ := I.fr
  rw [road]
  refine PySem.W.cmp_K (op := op) (tb := .ref C) room.units0 fr I.ok.mod.kin J J2.type nf own isf ?_
  refine wpAny_mono (wpAny_call (run_fnR (us := [.ref a, .ref b]) (vs := [.ref a, .ref b]) F room pass I (.cons rfl (.cons rfl .nil)) had)) ?_ fun _ _ z => z
  rintro w z ⟨y, G, I2, ry, q⟩
  exact SlX.cmpback ry ⟨y, G, I2, ry, q⟩
/-- repr(x), x an instance of the class at C with its own __repr__ at g -/
def rReprI (C : Addr) (sp : Sp) (E : XK) : List V → Hp → VK → Prop := fun xs H Q => ∃ a dx fs, xs = [.ref a] ∧ H a = some (.ins C dx fs) ∧ sp [.ref a] H (fun y G => ∃ t : Str, y = .str t ∧ Q y G) E
theorem call_reprI (own : PySem.W.findIn X.K (.ref C) "__repr__" = some (some (.ref g))) (isf : PySem.W.isFn X.K (.ref g) = true) (F : FnR X.prog X.w X.K X.mg X.base CX n g sp) (room : Room (n + 1) X.A) (pass : Passes CX X E) : CallR X (.builtin "repr") (rReprI C sp E) := by
  rintro pins s σ H _ us Q I rel ⟨a, dx, fs, rfl, ha, had⟩
  obtain ⟨u, rfl, ru⟩ := vals1 rel
  cases (show u = Value.ref a from ru); skip
  obtain ⟨o, od, J⟩ := stands I ha
  obtain ⟨m, fr⟩ := I.fr
  have room1 : Room n X.A.in1 := Room.in1 room
  refine PySem.W.repr_K room1.units0 fr I.ok.mod.kin J own isf ?_
  refine wpAny_mono (wpAny_call (SlX.run_at (us := [.ref a]) (ws := [.ref a]) F room1 I.env0.in1 pass I (.cons rfl .nil) had)) ?_ fun _ _ z => z
  rintro w z ⟨y, G, I2, ry, t, rfl, q⟩
  obtain ⟨tk, rfl⟩ := (show ∃ tk, w = Value.str t tk from ry)
  exact ⟨.str t, G, I2, ⟨tk, rfl⟩, q⟩
end
end OwI

/-! star defs that raise, and those whose keyword-only parameter is left out -/
namespace StK
open PySem PySem.Spec PyProof.Rows L2 StX
theorem upN {P : Program} {w : World} : CXUp (L2N.CX P w) := by
  intro outer s H s2 H2 E e s' un kp os h
  obtain ⟨a, B, G, cls, d, r, fly, ok, ub, free, os', bare, he⟩ := h
  have back : ∀ b o, s.heap.get? b = some o → H b = none → H2 b = none := fun b o q n => un.free b o q n (by simp)
  have ub' : UB (frs outer) H G s.heap B s'.heap := {
    keep := fun b o q n out => ub.keep b o (kp b o q) (back b o q n) out
    slot := fun b o q => ub.slot b o (kp b o q)
    free := fun b o q n => ub.free b o (kp b o q) (back b o q n)
    there := fun b o q => ub.there b o (kp b o q)
    tups := fun b xs q => ub.tups b xs (un.tups b xs q)
    frzs := fun b o xs q => ub.frzs b o xs (un.frzs b o xs q)
    tbls := fun b ps q => by
      obtain ⟨m1, x1⟩ := un.tbls b ps q
      obtain ⟨m2, x2⟩ := ub.tbls b _ x1
      exact ⟨m1 ++ m2, by rw [x2, Array.append_assoc]⟩ }
  exact ⟨a, B, G, cls, d, r, fly, ok, ub', free, os'.trans os, bare, he⟩
section
variable {CX : CXT} {P : Program} {w : World} {K : PySem.W.Frag} {mg : Str → Option Value} {base : Heap} {k n : Nat} {f : Addr} {name qual : Str} {params : Arguments} {body : List Stmt} {scope : Scope} {dV kV doc pm cdv ct oc : Value} {an od : Option Addr}
  {osl : Array (Option Value)} {N ps : List Str} {sp : Sp}
/-- def f(a, .., *v, q = dv), called without q -/
theorem fn_starD {pv q : Str} {D : Addr} {dv : V} {du : Value} (at_ : K.lookup f = some ⟨oc, od, .func (PySem.W.fnOf name qual params body scope dV kV doc pm an cdv ct), osl⟩) (code : PySem.W.codeIn K cdv qual = true) (S : FnScope N (ps ++ [pv]) scope) (up : CXUp CX) (hps : ps.length = n + 1)
    (isq : PySem.W.nsIn K D q = some (some du)) (rq : RelV dv du)
    (bind : ∀ us rest : List Value, us.length = n → ∃ (β γ : Type) (k1 : Option Value → Sem β) (k2 : β → Sem γ) (k3 : γ → Sem (List (Str × Value))) (a : β), bindArgs (PySem.W.fnOf name qual params body scope dV kV doc pm an cdv ct) ⟨us ++ rest, []⟩ = ((nsGet D q >>= k1) >>= k2) >>= k3 ∧
      k1 (some du) = pure a ∧ (k2 a >>= k3) = (newTuple rest >>= fun t => pure (ps.zip (us ++ [du]) ++ [(pv, t)])))
    (run : ∀ (A : Around) (outer : List Env) (s : Shared) (H : Hp) (vs : List V) (Q : VK) (E : XK), Room k (A.deeper (envOfC qual scope s.heap.objs.size f cdv)) → sp vs H Q E →
      ∃ t, PSs (cxOf CX P w K mg base N qual scope f cdv A outer s H E) body t ∧ t { nx := fun _ H' => Q .non H', rt := Q } (start N vs) H) :
    FnR P w K mg base CX (k + 1) f (fun vs H Q E => ∃ hd rest, vs = hd ++ rest ∧ hd.length = n ∧ rest.length ≤ sizeLine ∧ ∀ p, H p = none → sp ((hd ++ [dv]) ++ [V.ref p]) (upd H p (.tup rest)) Q E) := by
  rintro A outer s H us vs Q E room env rv ⟨hd, rest, rfl, lh, small, goes⟩
  obtain ⟨u1, u2, rfl, r1, r2⟩ := vals_split rv
  have free : H s.heap.objs.size = none := env.hok.fresh (Nat.le_refl _)
  have l1 : u1.length = n := r1.length.symm.trans lh
  have few : u2.length ≤ sizeLine := by
    rw [← r2.length]
    exact small
  have KX : K.In s.heap := env.mod.kin.keeps fun b o e => (env.bs b o e).1
  let here : Obj := { cls := .type "tuple", data := .seq u2.toArray }
  refine run_bnd at_ code S room env (G := fun xs G => ∃ p, H p = none ∧ xs = (hd ++ [dv]) ++ [V.ref p] ∧ G = upd H p (.tup rest)) (fun A' Ex Q' told => ?_) ?_
  · obtain ⟨β, γ, k1, k2, k3, a, e1, e2, e3⟩ := bind u1 u2 l1
    rw [e1, bind_assoc]
    refine wpAny_bind (((PySem.W.looks_nsIn KX isq).andThen (PySem.W.Looks.of_pure e2)).here ?_)
    rw [e3]
    refine wpAny_bind (wpAny_newTuple (wpAny_pure ?_) few)
    have laid : ObjOk P w (upd H s.heap.objs.size (.tup rest)) (s.heap.push here) s.heap.objs.size (.tup rest) := ⟨small, u2, r2, _, Heap.get?_push_size _ rfl, rfl, _, rfl⟩
    have un : Un (frs outer) [] H (upd H s.heap.objs.size (.tup rest)) s.heap (s.heap.push here) := un_laid free
    have len : ((hd ++ [dv]) ++ [V.ref s.heap.objs.size]).length = (ps ++ [pv]).length := by
      rw [List.length_append, List.length_append, List.length_append, lh, hps]
      rfl
    have got := told _ _ ((hd ++ [dv]) ++ [V.ref s.heap.objs.size]) ((u1 ++ [du]) ++ [Value.ref s.heap.objs.size]) (env0_laid env laid) un rfl
      (fun e s' => up outer s H _ _ E e s' un (fun b o q => Heap.get?_push_of_some _ q) rfl) ((r1.append (.cons rq .nil)).append (.cons rfl .nil)) len ⟨_, free, rfl, rfl⟩
    have cut : ps.length = (u1 ++ [du]).length := by rw [List.length_append, l1, hps]; rfl
    rw [List.zip_append cut] at got
    exact got
  · rintro s2 _ _ ⟨p, hp, rfl, rfl⟩ room'
    exact run A outer s2 _ _ Q E room' (goes p hp)
end
section
variable {X : Cx} {CX : CXT} {k : Nat} {f : Addr} {ks : List Str} {q : List V → List V → Hp → VK → XK → Prop} {sp : Sp} {x : Str} {p pos : Pos} {e : Expr} {es : List Expr} {kws : List Keyword} {t tk : TA}
def tCallFKS (q : List V → List V → Hp → VK → XK → Prop) (n : Nat) (E : L2.St → XK) (t tk : TA) : TE := fun σ H Q => t σ H fun vs H1 => tk σ H1 fun zs H2 => zs.length = n ∧ q vs zs H2 Q (E σ)
/-- the same of a def that may raise -/
theorem pe_callFKS {E : L2.St → XK} (F : FnK X.prog X.w X.K X.mg X.base CX k f ks q) (room : Room k X.A) (gl : Gl X x) (there : X.mg x = some (.ref f)) (kp : PySem.W.keepIn X.K (.ref f) = true) (pass : ∀ σ, PassesAt CX X σ (E σ))
    (ha : PA X (e :: es) t) (hk : PK X kws tk) (each : (backToKw pos (keywordEach kws X.env)).all (·.1.isSome) = true := by rfl) (names : (backToKw pos (keywordEach kws X.env)).filterMap (·.1) = ks := by rfl)
    (nd : (x == ("__debug__" : Str)) = false := by decide) (st : starEach (e :: es) X.env = (false, eval e X.env) :: starEach es X.env := by rfl)
    (pl : ((backTo pos (starEach (e :: es) X.env)).any (·.1) || (backToKw pos (keywordEach kws X.env)).any (·.1.isNone)) = false := by rfl) :
    PE X (.Call (.Name x p) (e :: es) kws pos) (tCallFKS q ks.length E t tk) := by
  refine ⟨fun pins s σ H Q I h => wpAny_Call_Name_kw (ld_glob I gl there ?_ nd)⟩
  refine PySem.W.callWith_KW (h₀ := X.base) I.ok.mod.kin kp each (thn (ha.run pos pins s σ H _ I h) ?_) pl st
  rintro us s1 ⟨vs, H1, I1, r, g1⟩
  refine thn (hk.run pos pins s1 σ H1 _ I1 g1) ?_
  rintro ws s2 ⟨zs, H2, I2, rz, lz, g2⟩
  refine ⟨I2.kIn, ?_⟩
  rw [names]
  refine wpAny_call (codeAny_mono (F X.A X.stack s2 H2 us ws vs zs Q (E σ) room I2.env0 r rz lz g2) fun out s' h' => ?_)
  match out, h' with
  | .error e, h' => exact pass σ pins H2 s2 e s' I2 h'
  | .ok (.ret u), h' => exact I2.after h'
  | .ok .next, h' => exact h'.elim
  | .ok .brk, h' => exact h'.elim
  | .ok .cont, h' => exact h'.elim
/-- f(e, ..), f told of its values alone -/
theorem pe_callR {E : XK} (F : FnR X.prog X.w X.K X.mg X.base CX k f sp) (room : Room k X.A) (gl : Gl X x) (there : X.mg x = some (.ref f)) (kp : PySem.W.keepIn X.K (.ref f) = true) (pass : Passes CX X E)
    (ha : PA X (e :: es) t) (nd : (x == ("__debug__" : Str)) = false := by decide) (st : starEach (e :: es) X.env = (false, eval e X.env) :: starEach es X.env := by rfl) (pl : (backTo pos (starEach es X.env)).any (·.1) = false := by rfl) :
    PE X (.Call (.Name x p) (e :: es) [] pos) (fun σ H Q => t σ H fun vs H1 => sp vs H1 Q E) := by
  refine ⟨fun pins s σ H Q I h => wpAny_Call_Name_kw (ld_glob I gl there ?_ nd)⟩
  refine PySem.W.callWith_K (h₀ := X.base) I.ok.mod.kin kp (thn (ha.run pos pins s σ H _ I h) ?_) st pl
  rintro us s1 ⟨vs, H1, I1, r, g1⟩
  exact ⟨I1.kIn, wpAny_call (run_fnR F room pass I1 r g1)⟩
end
end StK

/-! tuple(reversed(t)), t a tuple; in and not in of a tuple of data -/
namespace RvT
open PySem PySem.Spec PyProof.Rows L2 RT
theorem sized_no : typeLookup (.type "reversed") "__len__" = pure none := by
  rw [typeLookup_type, builtinLookup_eq_fast]
  kernel_rfl
theorem sized_hint : typeLookup (.type "reversed") "__length_hint__" = pure (some (.builtin "reversed.__length_hint__")) := by
  rw [typeLookup_type, builtinLookup_eq_fast]
  kernel_rfl
section
variable {prog : Program} {w : World} {A : Around} {E : Value → Shared → Prop} {s : Shared}
theorem tup_at {h h' : Heap} {t : Addr} {vs : Array Value} (x : IsTup h t vs) (e : ∀ o, h.get? t = some o → h'.get? t = some o) : IsTup h' t vs := by
  obtain ⟨o, ho, hc, n, hd⟩ := x
  exact ⟨o, e _ ho, hc, n, hd⟩
/-- a walk from a tuple's end -/
theorem backWalk (calm : A.handled = none) (I t : Addr) (ne : t ≠ I) (vs : Array Value) (small : vs.size ≤ sizeLine) :
    Walks prog w A I [I, t] [I] vs.size (fun k v => vs[vs.size - 1 - k]? = some v) (fun k h => k ≤ vs.size ∧ IsRt h I t ((vs.size : Int) - 1 - (k : Int)) ∧ IsTup h t vs) where
  sub b hb := by
    rw [List.mem_singleton.mp hb]
    exact List.mem_cons_self
  frame k h h' x kp := ⟨x.1, IsRt.at x.2.1 fun o e => kp I List.mem_cons_self o e, tup_at x.2.2 fun o e => kp t (List.mem_cons_of_mem _ List.mem_cons_self) o e⟩
  item k s Q E lt x told := by
    obtain ⟨_, at_, tup⟩ := x
    have there : vs.size - 1 - k < vs.size := by omega
    have get : vs[vs.size - 1 - k]? = some vs[vs.size - 1 - k] := Array.getElem?_eq_getElem there
    rw [show (vs.size : Int) - 1 - (k : Int) = ((vs.size - 1 - k : Nat) : Int) by omega] at at_
    refine next_rt_item at_ tup get small fun h' more same => ?_
    rw [show ((vs.size - 1 - k : Nat) : Int) - 1 = (vs.size : Int) - 1 - ((k + 1 : Nat) : Int) by omega] at more
    exact told _ h' _ get ⟨lt, more, tup_at tup fun o eo => (same.2 t ne).trans eo⟩ fun b o nb eo => (same.2 b fun z => nb (by rw [z]; exact List.mem_cons_self)).trans eo
  done s Q E x told := by
    obtain ⟨_, at_, _⟩ := x
    rw [show (vs.size : Int) - 1 - (vs.size : Int) = -1 by omega] at at_
    exact next_rt_end calm at_ fun h' ext => told h' _ fun b o nb eo => ext b o (fun z => nb (by rw [z]; exact List.mem_cons_self)) eo
  self _ _ _ _ x told := iter_rt x.2.1 told
end
end RvT
namespace RvT
open PySem PySem.Spec PyProof.Rows L2 RT
section
variable {X : Cx}
/-- x in t, t a tuple of data -/
def rInT (K : PySem.W.Frag) : R2 := fun x y H Q => ∃ d ds, Dp K H x d ∧ Dp K H y (.tuple ds) ∧ SeqAt.shaped d = true ∧ SeqAt.shaped (.list ds) = true ∧ Q (.bl (ds.any fun z => PyData.eqv z d)) H
def rNotInT (K : PySem.W.Frag) : R2 := fun x y H Q => ∃ d ds, Dp K H x d ∧ Dp K H y (.tuple ds) ∧ SeqAt.shaped d = true ∧ SeqAt.shaped (.list ds) = true ∧ Q (.bl (!ds.any fun z => PyData.eqv z d)) H
theorem op_inT (room : X.A.units + 65 < cLine) : OpR X (compareOp .In) (rInT X.K) := by
  rintro pins s σ H x y v u Q I rx ry ⟨d, ds, dx, dy, sx, sy, goal⟩
  obtain ⟨_, left⟩ := Dp.reads I d x v dx rx
  obtain ⟨_, right⟩ := Dp.reads I (.tuple ds) y u dy ry
  exact SeqAt.in_tuple_reads right left (SeqAt.canLay_of_shaped sy) (SeqAt.canLay_of_shaped sx) (room_in_shaped sx room) ⟨.bl _, H, I, rfl, goal⟩
theorem op_notInT (room : X.A.units + 65 < cLine) : OpR X (compareOp .NotIn) (rNotInT X.K) := by
  rintro pins s σ H x y v u Q I rx ry ⟨d, ds, dx, dy, sx, sy, goal⟩
  obtain ⟨_, left⟩ := Dp.reads I d x v dx rx
  obtain ⟨_, right⟩ := Dp.reads I (.tuple ds) y u dy ry
  exact SeqAt.notIn_tuple_reads right left (SeqAt.canLay_of_shaped sy) (SeqAt.canLay_of_shaped sx) (room_in_shaped sx room) ⟨.bl _, H, I, rfl, goal⟩
end
end RvT

namespace RvT
open PySem PySem.Spec PyProof.Rows L2 RT
theorem hint_kind : builtinKind "reversed.__length_hint__" = some .method := by decide +kernel
theorem hint_slot : Slot "reversed" "__length_hint__" "reversed.__length_hint__" := by
  refine .of (owner := "reversed") (n := "__length_hint__") sized_hint ?_ ?_ ?_ ?_ ?_
  · decide +kernel
  · decide +kernel
  · decide +kernel
  · first | exact Or.inl (by decide +kernel) | exact Or.inr (by decide +kernel)
  · exact PySem.F.sub_reversed_self
theorem hint_entry : entryFor table "reversed.__length_hint__" = some Builtin.«reversed.__length_hint__» := by
  apply entryFor_of_tree
  kernel_rfl
theorem hint_args (a : Value) : argsOk "reversed.__length_hint__" ⟨[a], []⟩ := by
  unfold argsOk
  rw [signature?_of (id := "reversed.__length_hint__") (n := ("__length_hint__".toList.reverse)) (o := ['d', 'e', 's', 'r', 'e', 'v', 'e', 'r']) (by kernel_rfl) owner_rt]
  kernel_rfl
theorem hint_bind (self : Value) : bindSpecial (.builtin "reversed.__length_hint__") self = pure (.builtin "reversed.__length_hint__", [self]) := by
  have no1 : withoutEnding? "reversed.__length_hint__" "#opaque" = none := by decide +kernel
  have no2 : withoutEnding? "reversed.__length_hint__" "#data" = none := by decide +kernel
  simp only [bindSpecial, typeOf, builtinType, no1, no2, hint_kind]
  rfl
section
variable {prog : Program} {w : World} {A : Around} {E : Value → Shared → Prop} {s : Shared}
theorem collect_back {it t : Addr} {vs : Array Value} {Q : List Value → Shared → Prop} (calm : A.handled = none) (at_ : IsRt s.heap it t ((vs.size : Int) - 1)) (tup : IsTup s.heap t vs) (ne : t ≠ it) (small : vs.size ≤ sizeLine)
    (told : ∀ (h' : Heap) (tk : Nat) (acc : Array Value), (∀ b o, b ≠ it → s.heap.get? b = some o → h'.get? b = some o) → ItemsOf (fun k v => vs[vs.size - 1 - k]? = some v) acc vs.size → Q acc.toList { s with heap := h', toks := tk }) :
    wpAny (model prog w) A (collect (.ref it)) Q E s := by
  have W := Walks.toS (backWalk (prog := prog) (w := w) (A := A.in1) calm it t ne vs small)
  have li : it < s.heap.objs.size := by
    obtain ⟨o, ho, _⟩ := at_
    exact Heap.lt_size ho
  have lt : t < s.heap.objs.size := by
    obtain ⟨o, ho, _⟩ := tup
    exact Heap.lt_size ho
  have apart : s.heap.objs.size ∉ [it, t] := fun z => by
    rcases List.mem_cons.mp z with z | z
    · exact Nat.ne_of_gt li z
    · exact Nat.ne_of_gt lt (List.mem_singleton.mp z)
  unfold collect
  apply wpAny_bind
  apply wpAny_runValue
  apply codeAny_builtin F.entry_proto_collect
  rw [Around.under_plainId F.plain_proto_collect]
  show wpAny _ A.in1 (newList [] >>= fun l' => again (.builtin "list.__iadd__" ⟨[l', Value.ref it], []⟩)) _ _ s
  apply wpAny_bind
  refine wpAny_newObj_type ?_
  apply wpAny_pure
  refine And.intro (plainId_quiet F.plain_list_iadd _) (codeAny_builtin F.entry_list_iadd ?_)
  rw [Around.under_plainId F.plain_list_iadd]
  generalize e1 : ({ cls := .type "list", data := .seq ([] : List Value).toArray } : Obj) = ol
  have l1 : (s.heap.push ol).get? s.heap.objs.size = some ol := Heap.get?_push_size _ (by rw [← e1]; rfl)
  have at1 : IsRt (s.heap.push ol) it t ((vs.size : Int) - 1) := IsRt.at at_ fun o e => Heap.get?_push_of_some _ e
  have tup1 : IsTup (s.heap.push ol) t vs := tup_at tup fun o e => Heap.get?_push_of_some _ e
  have ty : ({ s with heap := s.heap.push ol } : Shared).TypeIs (.ref it) "reversed" := IsRt.typeIs (s := { s with heap := s.heap.push ol }) at1
  have other : Builtin.List.listSameRef (.ref s.heap.objs.size) (.ref it) = false := by
    have : s.heap.objs.size ≠ it := Nat.ne_of_gt li
    simp [Builtin.List.listSameRef, this]
  show wpAny _ A.in1 (Builtin.List.listExtendWith (.ref s.heap.objs.size) (.ref it) (.ref s.heap.objs.size)) _ _ _
  unfold Builtin.List.listExtendWith
  apply wpAny_bind
  refine wpAny_typeOf ty ?_
  rw [if_neg (by rw [other]; decide)]
  apply wpAny_bind
  refine iter_rt (s := { s with heap := s.heap.push ol }) at1 ?_
  apply wpAny_bind
  apply wpAny_holding
  unfold Builtin.List.listLengthHint
  apply wpAny_bind
  refine wpAny_specialOf ty sized_no ?_
  show wpAny _ A.in1 (specialOf (Value.ref it) (Str.ofString "__length_hint__") >>= _) _ _ _
  apply wpAny_bind
  refine wpAny_specialOf ty sized_hint ?_
  generalize hid : ("reversed.__length_hint__" : String) = id0
  wp_delta
  rw [show splitId id0 = some ("reversed", "__length_hint__") from by subst hid; decide +kernel]
  subst hid
  refine wpAny_bind (wpAny_isInstance (b := true) ty PySem.F.sub_reversed_self ?_)
  rw [if_neg (by decide)]
  dsimp only
  rw [if_neg (by decide +kernel)]
  refine wpAny_bind (wpAny_rule ?_)
  rw [hint_bind]
  refine wpAny_bind (wpAny_pure ?_)
  apply wpAny_bind
  apply wpAny_attempt
  refine wpAny_call_entry hint_slot ty hint_entry ?_ (hint_args _)
  unfold Builtin.«reversed.__length_hint__»
  refine wpAny_bind (wpAny_of_eq (a := Value.ref it) rfl ?_)
  obtain ⟨o1, ho1, hc1, hd1⟩ := id at1
  refine wpAny_bind (wpAny_field ho1 hd1 (x := .ref t) rfl ?_)
  have ty2 : ({ s with heap := s.heap.push ol } : Shared).TypeIs (.ref t) "tuple" := IsTup.typeOf' tup1
  rw [if_neg (by intro z; cases z)]
  apply wpAny_bind
  refine len_tuple tup1 ?_ ?_
  · have := small
    have l63 := line63
    omega
  refine wpAny_bind (wpAny_of_eq (a := some ((vs.size : Nat) : Int)) rfl ?_)
  dsimp only
  refine wpAny_bind (wpAny_field ho1 hd1 (x := rawInt ((vs.size : Int) - 1)) rfl ?_)
  show wpAny _ _ (if ((vs.size : Nat) : Int) < (vs.size : Int) - 1 + 1 then _ else retInt ((vs.size : Int) - 1 + 1)) _ _ _
  rw [if_neg (by omega), show (vs.size : Int) - 1 + 1 = ((vs.size : Nat) : Int) by omega]
  unfold retInt
  refine wpAny_bind (wpAny_mkInt (wpAny_pure ⟨_, rfl, ?_⟩))
  dsimp only
  generalize hl : ((vs.size : Nat) : Int) = len
  apply wpAny_bind
  refine wpAny_pure ?_
  dsimp only
  have fits : Builtin.List.listFitsIndex len = true := by
    unfold Builtin.List.listFitsIndex
    have l63 := line63
    rw [decide_eq_true (by omega), decide_eq_true (by omega)]
    rfl
  have few : Builtin.List.listTooLong len.toNat = false := by
    unfold Builtin.List.listTooLong
    rw [← hl, Int.toNat_natCast]
    exact decide_eq_false (Nat.not_lt.mpr small)
  have up : ¬ len < 0 := by omega
  simp only [fits, few, up, Bool.not_true, Bool.false_eq_true, if_false]
  refine wpAny_pure ?_
  -- the walk itself, from any heap that holds the empty list
  have e0 : (vs.size : Int) - 1 - ((0 : Nat) : Int) = (vs.size : Int) - 1 := by omega
  have go : ∀ (h2 : Heap) (tk tk0 : Nat) (c : Nat) {R : Result → Shared → Prop}, h2.get? s.heap.objs.size = some { cls := .type "list", dict := none, data := .seq #[] c, slots := #[] } → (∀ b o, b ≠ s.heap.objs.size → s.heap.get? b = some o → h2.get? b = some o) →
      (∀ s' acc' c', Moved (s.heap.objs.size :: [it]) (fun a b => b = a) { s with heap := h2, toks := tk } s' → s'.heap.get? s.heap.objs.size = some { cls := .type "list", dict := none, data := .seq acc' c', slots := #[] } → ItemsOf (fun k v => vs[vs.size - 1 - k]? = some v) acc' vs.size → R (.ok (.ret (.ref s.heap.objs.size))) s') →
      codeAny (model prog w) A (.builtin "list.extend.loop" ⟨[.ref s.heap.objs.size, .ref it, .ref s.heap.objs.size], []⟩) R { s with heap := h2, toks := tk } := fun h2 tk tk0 c R hS ko told2 =>
    codeAny_extend_loopS W small _ apart _ vs.size 0 _ _ _ rfl (Nat.zero_le _) ⟨Nat.zero_le _, by rw [e0]; exact IsRt.at at_ fun o e => ko it o (fun z => Nat.ne_of_gt li z.symm) e, tup_at tup fun o e => ko t o (fun z => Nat.ne_of_gt lt z.symm) e⟩ hS (ItemsOf.nil _) told2
  have fin : ∀ (h2 : Heap) (tk : Nat), (∀ b o, b ≠ s.heap.objs.size → s.heap.get? b = some o → h2.get? b = some o) → ∀ (s' : Shared) (acc' : Array Value) (c' : Nat), Moved (s.heap.objs.size :: [it]) (fun a b => b = a) { s with heap := h2, toks := tk } s' →
      s'.heap.get? s.heap.objs.size = some { cls := .type "list", dict := none, data := .seq acc' c', slots := #[] } → ItemsOf (fun k v => vs[vs.size - 1 - k]? = some v) acc' vs.size →
      wpAny (model prog w) A (load s.heap.objs.size >>= fun o => match o.data with
        | .seq xs _ => pure xs.toList
        | _ => unsupported "internal:collect") Q E s' := fun h2 tk ko s' acc' c' mv here all => by
    refine wpAny_bind (wpAny_load here (wpAny_pure ?_))
    rw [Moved.eq_with mv]
    refine told s'.heap s'.toks acc' (fun b o nb eo => ?_) all
    have nb2 : b ≠ s.heap.objs.size := Nat.ne_of_lt (Heap.lt_size eo)
    refine mv.heap b o (fun z => ?_) (ko b o nb2 eo)
    rcases List.mem_cons.mp z with z | z
    · exact nb2 z
    · exact nb (List.mem_singleton.mp z)
  subst e1
  have h0 : ∀ b o, b ≠ s.heap.objs.size → s.heap.get? b = some o → (s.heap.push { cls := .type "list", data := .seq ([] : List Value).toArray }).get? b = some o := fun b o _ e => Heap.get?_push_of_some _ e
  by_cases nul : len = 0
  · rw [if_neg (by rw [nul]; decide)]
    refine wpAny_pure ⟨plainId_quiet F.plain_extend_loop _, ?_⟩
    refine go _ _ 0 0 l1 h0 ?_
    intro s' acc' c' mv here all
    exact fin _ _ h0 s' acc' c' mv here all
  · rw [if_pos (by rw [show (len != 0) = true from bne_iff_ne.mpr nul]; rfl)]
    refine wpAny_bind (wpAny_rule ?_)
    apply wpAny_bind
    show wpAny _ A.in1 (updateSeq s.heap.objs.size (·.push .none) >>= fun _ => updateSeq s.heap.objs.size (·.pop)) _ _ _
    have l2 := Heap.get?_update_self (Obj.mapSeq (·.push Value.none)) l1 rfl
    have l3 := Heap.get?_update_self (Obj.mapSeq (·.pop)) l2 rfl
    apply wpAny_bind
    refine wpAny_updateSeq l1 rfl ?_
    refine wpAny_updateSeq l2 rfl ?_
    refine wpAny_pure ⟨plainId_quiet F.plain_extend_loop _, ?_⟩
    have h3 : ∀ b o, b ≠ s.heap.objs.size → s.heap.get? b = some o → (((s.heap.push { cls := .type "list", data := .seq ([] : List Value).toArray }).update s.heap.objs.size (Obj.mapSeq (·.push Value.none))).update s.heap.objs.size (Obj.mapSeq (·.pop))).get? b = some o := fun b o nb e =>
      (Heap.get?_update_other _ _ (Ne.symm nb)).trans ((Heap.get?_update_other _ _ (Ne.symm nb)).trans (h0 b o nb e))
    refine go _ _ 0 _ l3 h3 ?_
    intro s' acc' c' mv here all
    exact fin _ _ h3 s' acc' c' mv here all
theorem code_tuple_back {it t : Addr} {vs : Array Value} {Q : Value → Shared → Prop} (calm : A.handled = none) (at_ : IsRt s.heap it t ((vs.size : Int) - 1)) (tup : IsTup s.heap t vs) (ne : t ≠ it) (small : vs.size ≤ sizeLine)
    (told : ∀ (h' : Heap) (tk : Nat) (acc : Array Value), (∀ b o, b ≠ it → s.heap.get? b = some o → h'.get? b = some o) → ItemsOf (fun k v => vs[vs.size - 1 - k]? = some v) acc vs.size →
      Q (.ref h'.objs.size) { s with heap := h'.push { cls := .type "tuple", data := .seq acc }, toks := tk }) :
    codeAny (model prog w) A (.call (.builtin "tuple.__new__") ⟨[.type "tuple", .ref it], []⟩) (wants Q E) s := by
  apply codeAny_of_tree
  show wpAny _ A.in1 (do checkBuiltinCall "tuple.__new__" ⟨[Value.type "tuple", Value.ref it], []⟩; again (.builtin "tuple.__new__" ⟨[Value.type "tuple", Value.ref it], []⟩)) _ _ s
  apply wpAny_bind
  refine wpAny_of_eq (F.newCall_tuple_1 _) (wpAny_pure (And.intro (plainId_quiet F.plain_tuple_new _) (codeAny_builtin F.entry_tuple_new ?_)))
  rw [Around.under_plainId F.plain_tuple_new]
  have isT : s.TypeIs (.ref it) "reversed" := IsRt.typeIs at_
  have calm1 : A.in1.handled = none := calm
  have h_sub := sub_tuple_self
  have h_init := init_tuple_lookup
  have h_made := madeHere_tuple
  wp_walk using wpAny_typeOf isT, collect_back (A := A.in1) calm1 at_ tup ne small
  intro h' tk acc kp all
  show wpAny _ _ (Builtin.Tuple.tupleExact acc.toList.toArray >>= fun u => ret u) _ _ _
  rw [show acc.toList.toArray = acc by simp]
  unfold Builtin.Tuple.tupleExact
  refine wpAny_bind (wpAny_newObj_type (wpAny_pure (told h' tk acc kp all)) ?_)
  show acc.size ≤ sizeLine
  rw [all.1]
  exact small
theorem call_tuple_back {it t : Addr} {vs : Array Value} {Q : Value → Shared → Prop} (calm : A.handled = none) (at_ : IsRt s.heap it t ((vs.size : Int) - 1)) (tup : IsTup s.heap t vs) (ne : t ≠ it) (small : vs.size ≤ sizeLine)
    (told : ∀ (h' : Heap) (tk : Nat) (acc : Array Value), (∀ b o, b ≠ it → s.heap.get? b = some o → h'.get? b = some o) → ItemsOf (fun k v => vs[vs.size - 1 - k]? = some v) acc vs.size →
      Q (.ref h'.objs.size) { s with heap := h'.push { cls := .type "tuple", data := .seq acc }, toks := tk }) :
    wpAny (model prog w) A (call (.type "tuple") [.ref it]) Q E s := by
  refine callType_codes (Q₁ := fun u s1 => s1.TypeIs u "tuple" ∧ Q u s1) F.called_tuple (F.typeCall_tuple_1 _) F.entry_object_init (code_tuple_back (A := A.in1) calm at_ tup ne small ?_) ?_
  · intro h' tk acc kp all
    exact ⟨⟨_, Heap.get?_push_size _ rfl, rfl⟩, told h' tk acc kp all⟩
  · rintro u s1 ⟨isT, q⟩
    exact ⟨isT, F.args_object_init_2 u _, object_init_meets F.called_tuple.init.lookup F.called_tuple.made (by decide) prog w A.in1 _ s1 ⟨isT, rfl, q⟩⟩
end
section
variable {X : Cx}
/-- tuple(reversed(t)), t a tuple: a new tuple -/
def tTupBack (K : PySem.W.Frag) (te : TE) : TE := fun σ H Q => te σ H fun v H1 => ∃ (a : Addr) (xs : List V), v = .ref a ∧ SqT K H1 a xs ∧ ∀ q, H1 q = none → Q (.ref q) (upd H1 q (.tup xs.reverse))
theorem pe_tupBack {e : Expr} {te : TE} {p p2 pos pos2 : Pos} (calm : X.calm = true) (g1 : Gl X "tuple") (m1 : X.mg "tuple" = none) (g2 : Gl X "reversed") (m2 : X.mg "reversed" = none) (he : PE X e te)
    (a1 : starEach [e] X.env = (false, eval e X.env) :: starEach [] X.env := by rfl)
    (a2 : starEach [.Call (.Name "reversed" p2) [e] [] pos2] X.env = (false, eval (.Call (.Name "reversed" p2) [e] [] pos2) X.env) :: starEach [] X.env := by rfl) :
    PE X (.Call (.Name "tuple" p) [.Call (.Name "reversed" p2) [e] [] pos2] [] pos) (tTupBack X.K te) := by
  constructor
  intro pins s σ H Q I had
  refine Call_ (ld_blt I g1 m1 boot_tuple (PyProof.Rows.callWith_type1 (args_cons (Call_ (ld_blt I g2 m2 PyProof.Rows.boot_reversed (PyProof.Rows.callWith_type1 (args_cons (thn (he.run pins s σ H _ I had) fun u s1 got => args_nil ?_) a1) a1 rfl))) a2) a2 rfl))
  obtain ⟨v, H1, I1, r1, a, xs, rfl, hx, goal⟩ := got
  cases (show u = Value.ref a from r1)
  obtain ⟨its, rv, tup, few⟩ := I1.tuple hx
  have ln := rv.length
  have sz : its.toArray.size = xs.length := by rw [List.size_toArray, ← ln]
  have l63 := line63
  refine call_reversed_tup tup (fun A E Q k => len_tuple tup (by rw [sz]; omega) k) (args_nil ?_)
  have k0 : ∀ b o, s1.heap.get? b = some o → (s1.heap.push (rtObj a ((its.toArray.size : Int) - 1))).get? b = some o := fun b o e => Heap.get?_push_of_some _ e
  have I2 : Inv X pins σ H1 { s1 with heap := s1.heap.push (rtObj a ((its.toArray.size : Int) - 1)), toks := s1.toks + 1 + 1 } := I1.kept (t' := s1.toks + 1 + 1) k0
  obtain ⟨p0, p1, p2, p3, p4, p5⟩ := I1.fpOk (H' := H1) (b := s1.heap.objs.size) (Nat.le_refl _) (I1.hok.fresh (Nat.le_refl _))
  have apart : a ≠ s1.heap.objs.size := by
    obtain ⟨o, ho, _⟩ := id tup
    exact Nat.ne_of_lt (Heap.lt_size ho)
  have small : its.toArray.size ≤ sizeLine := by rw [sz]; exact few
  refine call_tuple_back (s := { s1 with heap := s1.heap.push (rtObj a ((its.toArray.size : Int) - 1)), toks := s1.toks + 1 + 1 }) (I1.ok.hd calm) ⟨_, Heap.get?_push_size _ rfl, rfl, rfl⟩ (tup_at tup fun o e => k0 _ _ e) apart small fun h' tk acc kp all => ?_
  have I3 : Inv X pins σ H1 { s1 with heap := h', toks := tk } := I2.turned (t' := tk) (fun b o nb e => kp b o nb e) p0 p1 p3 p4 p5
  have new : ObjOk X.prog X.w (upd H1 h'.objs.size (.tup xs.reverse)) (h'.push { cls := .type "tuple", data := .seq acc }) h'.objs.size (.tup xs.reverse) := by
    refine ⟨by rw [List.length_reverse]; exact few, acc.toList, vals_rev rv all, ?_⟩
    rw [Array.toArray_toList]
    exact IsTup.new _ _
  exact ⟨.ref h'.objs.size, _, I3.laid (t' := tk) (fun c o e => Heap.get?_push_of_some _ e) (Nat.le_refl _) new, rfl, goal _ (I3.hok.fresh (Nat.le_refl _))⟩
end
end RvT

/-! a walk over zip of three lists of one length -/
namespace RZ3
open PySem PySem.Spec PyProof.Rows L2
/-- three lists of one length as they stand, the items in new triples -/
def It3 (K : PySem.W.Frag) (a b c : Addr) : It where
  go i H := ∃ (xs ys zs : List V), SqL K H a xs ∧ SqL K H b ys ∧ SqL K H c zs ∧ ys.length = xs.length ∧ zs.length = xs.length ∧ i < xs.length
  yld i H v H' := ∃ T x y z, v = .ref T ∧ H T = none ∧ H' = upd H T (.tup [x, y, z]) ∧ (∀ xs, SqL K H a xs → xs[i]? = some x) ∧ (∀ ys, SqL K H b ys → ys[i]? = some y) ∧ ∀ zs, SqL K H c zs → zs[i]? = some z
  stop i H := ∃ (xs ys zs : List V), SqL K H a xs ∧ SqL K H b ys ∧ SqL K H c zs ∧ ys.length = i ∧ zs.length = i ∧ xs.length = i
abbrev cells (z TI TO i1 i2 i3 : Addr) : List Addr := [z, TI, TO, i1, i2, i3]
def Tn3 (a b c z TI TO i1 i2 i3 : Addr) (i : Nat) (h : Heap) : Prop :=
  IsZip h z TI TO .none ∧ IsTupOf3 h TI (.ref i1) (.ref i2) (.ref i3) ∧ (∃ x y u, IsTupOf3 h TO x y u) ∧ h.IsListIter i1 a i ∧ h.IsListIter i2 b i ∧ h.IsListIter i3 c i
theorem turn3 {P : Program} {w : World} {K : PySem.W.Frag} {elts : List Expr} {kk : Nat} {tpos : Pos} {a b c z TI TO i1 i2 i3 : Addr} (S : ZipSep3 z TI TO i1 i2 i3 [i1, a] [i2, b] [i3, c]) (n1 : a ≠ i1) (n2 : b ≠ i2) (n3 : c ≠ i3) :
    Turn P w K (.Tuple elts kk tpos) (It3 K a b c) (cells z TI TO i1 i2 i3) z (Tn3 a b c z TI TO i1 i2 i3) where
  mem := List.mem_cons_self
  obj i h st q hq := by
    obtain ⟨hz, hTI, ⟨x, y, u, hTO⟩, ⟨o1, e1, _, d1⟩, ⟨o2, e2, _, d2⟩, ⟨o3, e3, _, d3⟩⟩ := st
    simp only [cells, List.mem_cons, List.not_mem_nil, or_false] at hq
    rcases hq with rfl | rfl | rfl | rfl | rfl | rfl
    · exact ⟨_, hz, fun v e => nomatch e⟩
    · exact ⟨_, hTI, fun v e => nomatch e⟩
    · exact ⟨_, hTO, fun v e => nomatch e⟩
    · exact ⟨o1, e1, fun v e => by rw [d1] at e; cases e⟩
    · exact ⟨o2, e2, fun v e => by rw [d2] at e; cases e⟩
    · exact ⟨o3, e3, fun v e => by rw [d3] at e; cases e⟩
  keep i h h' st k := by
    obtain ⟨hz, hTI, ⟨x, y, u, hTO⟩, h1, h2, h3⟩ := st
    exact ⟨k z (by simp) _ hz, k TI (by simp) _ hTI, ⟨x, y, u, k TO (by simp) _ hTO⟩, h1.at fun o q => k i1 (by simp) o q, h2.at fun o q => k i2 (by simp) o q, h3.at fun o q => k i3 (by simp) o q⟩
  item := by
    rintro X rfl rfl rfl calm i pins s σ H E I free st ⟨xs, ys, zs, q1, q2, q3, l2, l3, lt⟩
    obtain ⟨hz, hTI, ⟨x0, y0, u0, hTO⟩, h1, h2, h3⟩ := st
    obtain ⟨v1, r1, p1, _⟩ := I.list q1
    obtain ⟨v2, r2, p2, _⟩ := I.list q2
    obtain ⟨v3, r3, p3, _⟩ := I.list q3
    have hh : X.A.in1.handled = none := I.ok.hd calm
    have D1 := Draws.list (prog := X.prog) (w := X.w) hh i1 a n1 v1.toArray
    have D2 := Draws.list (prog := X.prog) (w := X.w) hh i2 b n2 v2.toArray
    have D3 := Draws.list (prog := X.prog) (w := X.w) hh i3 c n3 v3.toArray
    have s1 : v1.toArray.size = xs.length := by rw [List.size_toArray, ← r1.length]
    have s2 : v2.toArray.size = ys.length := by rw [List.size_toArray, ← r2.length]
    have s3 : v3.toArray.size = zs.length := by rw [List.size_toArray, ← r3.length]
    have zl : z < s.heap.objs.size := Heap.lt_size hz
    refine wpAny_pyNext_zipD3_item (i := i) S D1 D2 D3 hz hTI hTO ⟨h1, p1.isList⟩ ⟨h2, p2.isList⟩ ⟨h3, p3.isList⟩ (by omega) (by omega) (by omega) fun x1 x2 x3 h' tk g1 g2 g3 z' TO' t1 t2 t3 tup sz kp => ?_
    refine ⟨_, rfl, wpAny_letOwnedTupleGo_zip (s := { s with heap := h', toks := tk }) z' fun h'' z'' sb => ?_⟩
    have tup2 : h''.get? s.heap.objs.size = some { cls := .type "tuple", data := .seq #[x1, x2, x3] } := (sb.2 _ (Nat.ne_of_gt zl)).trans tup
    obtain ⟨u1, e1, w1⟩ : ∃ u, xs[i]? = some u ∧ RelV u x1 := by
      have hx : xs[i]? = some xs[i] := List.getElem?_eq_getElem lt
      obtain ⟨u, hu, ru⟩ := r1.get hx
      rw [← Array.getElem?_toList] at g1
      rw [show v1.toArray.toList = v1 from rfl, hu] at g1
      exact ⟨_, hx, Option.some.inj g1 ▸ ru⟩
    obtain ⟨u2, e2, w2⟩ : ∃ u, ys[i]? = some u ∧ RelV u x2 := by
      have hx : ys[i]? = some ys[i] := List.getElem?_eq_getElem (by omega)
      obtain ⟨u, hu, ru⟩ := r2.get hx
      rw [← Array.getElem?_toList] at g2
      rw [show v2.toArray.toList = v2 from rfl, hu] at g2
      exact ⟨_, hx, Option.some.inj g2 ▸ ru⟩
    obtain ⟨u3, e3, w3⟩ : ∃ u, zs[i]? = some u ∧ RelV u x3 := by
      have hx : zs[i]? = some zs[i] := List.getElem?_eq_getElem (by omega)
      obtain ⟨u, hu, ru⟩ := r3.get hx
      rw [← Array.getElem?_toList] at g3
      rw [show v3.toArray.toList = v3 from rfl, hu] at g3
      exact ⟨_, hx, Option.some.inj g3 ▸ ru⟩
    have new : ObjOk X.prog X.w (upd H s.heap.objs.size (.tup [u1, u2, u3])) h'' s.heap.objs.size (.tup [u1, u2, u3]) :=
      ⟨by show 3 ≤ sizeLine; decide, [x1, x2, x3], .cons w1 (.cons w2 (.cons w3 .nil)), _, tup2, rfl, _, rfl⟩
    have kp2 : ∀ q o, q ∉ cells z TI TO i1 i2 i3 → s.heap.get? q = some o → h''.get? q = some o := fun q o nq e => by
      simp only [cells, List.mem_cons, List.not_mem_nil, or_false, not_or] at nq
      exact (sb.2 q nq.1).trans (kp q o nq.1 nq.2.2.1 nq.2.2.2.1 nq.2.2.2.2.1 nq.2.2.2.2.2 e)
    have I1 : Inv X pins σ (upd H s.heap.objs.size (.tup [u1, u2, u3])) { s with heap := h'', toks := tk } := I.turnedNew (t' := tk) (ch := cells z TI TO i1 i2 i3) kp2 free (Nat.le_refl _) new
    refine ⟨.ref s.heap.objs.size, _, I1, rfl, ⟨_, u1, u2, u3, rfl, I.hok.fresh (Nat.le_refl _), rfl, fun l hl => by rw [I.list_inj hl q1]; exact e1, fun l hl => by rw [I.list_inj hl q2]; exact e2, fun l hl => by rw [I.list_inj hl q3]; exact e3⟩, ⟨z'', ?_, ⟨x1, x2, x3, ?_⟩, ?_, ?_, ?_⟩, fun q hq => ?_⟩
    · exact (sb.2 _ S.TIz).trans (kp _ _ S.TIz S.TITO S.TIi1 S.TIi2 S.TIi3 hTI)
    · exact (sb.2 _ S.TOz).trans TO'
    · exact t1.1.at fun o e => (sb.2 _ S.zi1.symm).trans e
    · exact t2.1.at fun o e => (sb.2 _ S.zi2.symm).trans e
    · exact t3.1.at fun o e => (sb.2 _ S.zi3.symm).trans e
    · have below : q < s.heap.objs.size := by
        simp only [cells, List.mem_cons, List.not_mem_nil, or_false] at hq
        rcases hq with rfl | rfl | rfl | rfl | rfl | rfl
        · exact zl
        · exact Heap.lt_size hTI
        · exact Heap.lt_size hTO
        · obtain ⟨_, e, _⟩ := h1; exact Heap.lt_size e
        · obtain ⟨_, e, _⟩ := h2; exact Heap.lt_size e
        · obtain ⟨_, e, _⟩ := h3; exact Heap.lt_size e
      rw [upd_ne (Nat.ne_of_lt below)]
      exact (free q hq).1
  done := by
    rintro X rfl rfl rfl calm i pins s σ H E I free st ⟨xs, ys, zs, q1, q2, q3, l2, l3, l1⟩
    obtain ⟨hz, hTI, ⟨x0, y0, u0, hTO⟩, h1, h2, h3⟩ := st
    obtain ⟨v1, r1, p1, _⟩ := I.list q1
    obtain ⟨v2, r2, p2, _⟩ := I.list q2
    obtain ⟨v3, r3, p3, _⟩ := I.list q3
    have hh : X.A.in1.handled = none := I.ok.hd calm
    have D1 := Draws.list (prog := X.prog) (w := X.w) hh i1 a n1 v1.toArray
    have D2 := Draws.list (prog := X.prog) (w := X.w) hh i2 b n2 v2.toArray
    have D3 := Draws.list (prog := X.prog) (w := X.w) hh i3 c n3 v3.toArray
    have s1 : v1.toArray.size = xs.length := by rw [List.size_toArray, ← r1.length]
    have s2 : v2.toArray.size = ys.length := by rw [List.size_toArray, ← r2.length]
    have s3 : v3.toArray.size = zs.length := by rw [List.size_toArray, ← r3.length]
    refine wpAny_pyNext_zipD3_end (i := i) S D1 D2 D3 hz hTI hTO ⟨h1, p1.isList⟩ ⟨h2, p2.isList⟩ ⟨h3, p3.isList⟩ (by omega) (by omega) (by omega) (Or.inl (by omega)) fun h' tk kp => ⟨rfl, I.turnedL (t' := tk) (ch := cells z TI TO i1 i2 i3) (fun q o nq e => ?_) free⟩
    simp only [cells, List.mem_cons, List.not_mem_nil, or_false, not_or] at nq
    exact kp q o nq.1 nq.2.2.1 nq.2.2.2.1 nq.2.2.2.2.1 nq.2.2.2.2.2 e
  self A i s Q E st h := wpAny_pyIter_zip st.1 h
def iZip3 (K : PySem.W.Frag) (ta : TA) : TI := fun σ H R => ta σ H fun vs H1 => ∃ a b c xs ys zs, vs = [.ref a, .ref b, .ref c] ∧ SqL K H1 a xs ∧ SqL K H1 b ys ∧ SqL K H1 c zs ∧ R (It3 K a b c) H1
theorem pi_zip3 {X : Cx} {e e2 e3 : Expr} {ta : TA} {p pos tpos : Pos} {elts : List Expr} {kk : Nat} (gl : Gl X "zip") (nm : X.mg "zip" = none) (args : PA X [e, e2, e3] ta)
    (one : starEach [e, e2, e3] X.env = (false, eval e X.env) :: starEach [e2, e3] X.env := by rfl) (more : (backTo pos (starEach [e2, e3] X.env)).any (·.1) = false := by rfl) :
    PI X (.Tuple elts kk tpos) (.Call (.Name "zip" p) [e, e2, e3] [] pos) (iZip3 X.K ta) := by
  constructor
  intro pins s σ H R I had
  refine Call_ (ld_blt I gl nm PyProof.Rows.boot_zip (PyProof.Rows.callWith_type1 (thn (args.run pos pins s σ H _ I had) fun us s1 got => ?_) one more))
  obtain ⟨vs, H1, I1, rel, a, b, c, xs, ys, zs, rfl, q1, q2, q3, goal⟩ := got
  obtain ⟨u1, us, rfl, ra, rel⟩ : ∃ u us', us = u :: us' ∧ RelV (.ref a) u ∧ Vals [V.ref b, V.ref c] us' := by
    cases rel with
    | cons r rr => exact ⟨_, _, rfl, r, rr⟩
  obtain ⟨u2, u3, rfl, rb, rc⟩ := vals2 rel
  cases (show u1 = Value.ref a from ra)
  cases (show u2 = Value.ref b from rb)
  cases (show u3 = Value.ref c from rc)
  obtain ⟨v1, r1, p1, _⟩ := I1.list q1
  obtain ⟨v2, r2, p2, _⟩ := I1.list q2
  obtain ⟨v3, r3, p3, _⟩ := I1.list q3
  have la : a < s1.heap.objs.size := p1.lt
  have lb : b < s1.heap.objs.size := p2.lt
  have lc : c < s1.heap.objs.size := p3.lt
  refine zip_begins3 (begins_list a v1.toArray) (begins_list b v2.toArray) (begins_list c v3.toArray) p1.isList p2.isList p3.isList fun h' hz hTI hTO g1 g2 g3 sz kp => wpAny_pyIter_zip hz ?_
  have I2 : Inv X pins σ H1 { s1 with heap := h' } := I1.kept (t' := s1.toks) kp
  have S := zip_sep3 (N := s1.heap.objs.size) (fp1 := [a]) (fp2 := [b]) (fp3 := [c]) (by simpa using la) (by simpa using lb) (by simpa using lc)
  refine ⟨s1.heap.objs.size + 5, cells (s1.heap.objs.size + 5) (s1.heap.objs.size + 3) (s1.heap.objs.size + 4) s1.heap.objs.size (s1.heap.objs.size + 1) (s1.heap.objs.size + 2), _, _, H1, rfl, I2, turn3 S (Nat.ne_of_lt la) (Nat.ne_of_lt (Nat.lt_succ_of_lt lb)) (Nat.ne_of_lt (Nat.lt_succ_of_lt (Nat.lt_succ_of_lt lc))), ⟨hz, hTI, ⟨_, _, _, hTO⟩, ⟨_, g1, rfl, rfl⟩, ⟨_, g2, rfl, rfl⟩, ⟨_, g3, rfl, rfl⟩⟩, fun q hq => ?_, goal⟩
  have le : s1.heap.objs.size ≤ q := by
    simp only [cells, List.mem_cons, List.not_mem_nil, or_false] at hq
    rcases hq with rfl | rfl | rfl | rfl | rfl | rfl
    · exact Nat.le_add_right _ _
    · exact Nat.le_add_right _ _
    · exact Nat.le_add_right _ _
    · exact Nat.le_refl _
    · exact Nat.le_add_right _ _
    · exact Nat.le_add_right _ _
  exact I1.fpOk le (I1.hok.fresh le)
/-- a new triple of the i-th ones -/
def YTri (xs ys zs : List V) : Nat → Hp → V → Hp → Prop := fun i H v H' => ∃ T x y z, v = .ref T ∧ H T = none ∧ H' = upd H T (.tup [x, y, z]) ∧ xs[i]? = some x ∧ ys[i]? = some y ∧ zs[i]? = some z
theorem walk_zip3 {K : PySem.W.Frag} {a b c : Addr} {xs ys zs : List V} (l2 : ys.length = xs.length) (l3 : zs.length = xs.length) : Walk (It3 K a b c) xs.length (fun H => SqL K H a xs ∧ SqL K H b ys ∧ SqL K H c zs) (YTri xs ys zs) where
  goes _ _ lt q := ⟨xs, ys, zs, q.1, q.2.1, q.2.2, l2, l3, lt⟩
  stops _ q := ⟨xs, ys, zs, q.1, q.2.1, q.2.2, l2, l3, rfl⟩
  yields _ _ _ _ _ q := fun ⟨T, x, y, z, e1, e2, e3, e4, e5, e6⟩ => ⟨T, x, y, z, e1, e2, e3, e4 xs q.1, e5 ys q.2.1, e6 zs q.2.2⟩
end RZ3

/-! a def called in an except suite with the exception itself -/
namespace HotE
open PySem PySem.Spec PyProof.Rows L2 L2H
/-- a promise that is told of the handled exception: its place, its class, its dict -/
abbrev SpE := Addr → Value → Option Addr → Sp
structure FnE (P : Program) (w : World) (K : PySem.W.Frag) (mg : Str → Option Value) (base : Heap) (CX : CXT) (k : Nat) (f : Addr) (fd : FuncData) (ps : List Str) (sp : SpE) : Prop where
  len : ∀ a c d vs H Q E, sp a c d vs H Q E → vs.length = ps.length
  run : ∀ (A : Around) (outer : List Env) (s : Shared) (H : Hp) (args : Args) (us : List Value) (vs : List V) (Q : VK) (E : XK) (p : Addr × Obj) (c : Value) (d : Option Addr),
    RoomH k A → Hot1 A p → PinOk outer H s p → Zc c d p.2 → Env0 P w K mg base A outer s H → BindsTo s fd args (ps.zip us) → Vals vs us → sp p.1 c d vs H Q E →
      codeAny (model P w) A (.call (.ref f) args) (CR CX outer P w H s Q E) s
section
variable {CX : CXT} {P : Program} {w : World} {K : PySem.W.Frag} {mg : Str → Option Value} {base : Heap} {k : Nat} {f : Addr} {N ps : List Str} {sp : SpE}
theorem fn_ofE {name qual : Str} {params : Arguments} {body : List Stmt} {scope : Scope} {dV kV doc pm cdv ct oc : Value} {an od : Option Addr} {osl : Array (Option Value)}
    (there : K.lookup f = some ⟨oc, od, .func (PySem.W.fnOf name qual params body scope dV kV doc pm an cdv ct), osl⟩) (code : PySem.W.codeIn K cdv qual = true) (S : FnScope N ps scope)
    (len : ∀ a c d vs H Q E, sp a c d vs H Q E → vs.length = ps.length)
    (does : ∀ (A : Around) (outer : List Env) (s : Shared) (H : Hp) (vs : List V) (Q : VK) (E : XK) (p : Addr × Obj) (c : Value) (d : Option Addr), Hot1 A p → Zc c d p.2 → RoomH k (A.deeper (envOfC qual scope s.heap.objs.size f cdv)) → sp p.1 c d vs H Q E →
      ∃ t, PSs (cxH CX P w K mg base N qual scope f cdv A outer s H E p) body t ∧ t { nx := fun _ H' => Q .non H', rt := Q } (L2.start N vs) H) :
    FnE P w K mg base CX (k + 1) f (PySem.W.fnOf name qual params body scope dV kV doc pm an cdv ct) ps sp where
  len := len
  run A outer s H args us vs Q E p c d room hot pin zc env bound rel told := by
    have ln := len _ _ _ _ _ _ _ told
    have KX : K.In s.heap := env.mod.kin.keeps fun b o e => And.left (env.bs b o e)
    have free := env.mod.nolimit.keeps fun b o e => And.left (env.bs b o e)
    refine codeAny_call_function room.depth (KX _ _ there) rfl S.co S.gen rfl (PySem.W.codeRec_of KX code) (bound _ _ _ _ (wpAny_newFunctionEnv_cells S.kind (fun nv inz => ?_) fun env2 eq2 s1 x => ?_))
    · obtain ⟨n, v⟩ := nv
      cases S.par n (List.of_mem_zip inz).1 with
      | inl q => exact Or.inl q
      | inr q => exact Or.inr ⟨q, PySem.W.cellsFrom_some _ _ _ (Or.inl q)⟩
    subst eq2
    obtain ⟨t, ht, goal⟩ := does A outer s H vs Q E p c d hot zc (room.deeper _) told
    have I : Inv (cxH CX P w K mg base N qual scope f cdv A outer s H E p) [] (L2.start N vs) H s1 := by exact inv_startH S pin env ln rel x
    refine ⟨free.keeps x.toInCall.keep, codeAny_func (wpAny_mono (ht.run [] s1 _ H _ I goal) (fun fl s' out => ?_) fun _ _ z => z)⟩
    match fl, out with
    | .ret u, ⟨v, σ', H', J, rv, q⟩ => exact ⟨v, H', J.os, J.bare, J.base, J.hok, rv, q⟩
    | .next, ⟨σ', H', J, q⟩ => exact ⟨V.non, H', J.os, J.bare, J.base, J.hok, rfl, q⟩
    | .brk, ⟨_, _, _, q⟩ => exact q.elim
    | .cont, ⟨_, _, _, q⟩ => exact q.elim
/-- a def of the text, called so; it lets nothing out -/
theorem okE {x qual : Str} {st : Stmt} {fd : FuncData} (F : Fun K x qual st f fd) (S : FnScope N ps (defScope st)) (len : ∀ a c d vs H Q E, sp a c d vs H Q E → vs.length = ps.length)
    (does : ∀ (cdv : Value) (A : Around) (outer : List Env) (s : Shared) (H : Hp) (vs : List V) (Q : VK) (E : XK) (p : Addr × Obj) (c : Value) (d : Option Addr), Hot1 A p → Zc c d p.2 → RoomH k (A.deeper (envOfC qual (defScope st) s.heap.objs.size f cdv)) → sp p.1 c d vs H Q E →
      ∃ t, PSs (cxH CX0 P w K mg base N qual (defScope st) f cdv A outer s H E p).nox (defBody st) t ∧ t { nx := fun _ H' => Q .non H', rt := Q } (L2.start N vs) H) : FnE P w K mg base CX0 (k + 1) f fd ps sp := by
  obtain ⟨oc, od, kV, doc, pm, an, cdv, ct, osl, rfl, there, code⟩ := F.ex
  refine fn_ofE there code S len fun A outer s H vs Q E p c d hot zc room told => ?_
  obtain ⟨t, h, q⟩ := does cdv A outer s H vs Q E p c d hot zc room told
  exact ⟨t, h.nox, q⟩
end
/-- the context bears the exception at a, of this class and dict -/
def HotP (X : Cx) (a : Addr) (c : Value) (d : Option Addr) : Prop := ∃ o : Obj, Hot1 X.A (a, o) ∧ (a, o) ∈ X.pn ∧ Zc c d o
theorem hotP_suite {X : Cx} {a : Addr} {oe : Obj} {c : Value} {d : Option Addr} {pn : List (Addr × Obj)} (hz : L2N.Zn c d oe) (hf : ∃ vs, oe.data = .fields vs) : HotP (X.suite a ((a, oe) :: pn)) a c d := by
  obtain ⟨vs, hv⟩ := hf
  exact ⟨oe, ⟨rfl, vs, hv, hz.2.2 vs hv⟩, List.mem_cons_self, hz.zc⟩
section
variable {X : Cx} {CX : CXT} {k : Nat} {f a : Addr} {c : Value} {d : Option Addr} {fd : FuncData} {ps : List Str} {sp : SpE} {E : L2.St → XK} {x : Str} {q pos : Pos} {e : Expr} {es : List Expr} {t : TA}
/-- f(.., the exception, ..) in its suite -/
theorem pe_callE (F : FnE X.prog X.w X.K X.mg X.base CX k f fd ps sp) (room : RoomH k X.A) (hot : HotP X a c d) (gl : Gl X x) (there : X.mg x = some (.ref f)) (kp : PySem.W.keepIn X.K (.ref f) = true) (bi : Binds X.K fd ps []) (pass : ∀ σ, PassesAt CX X σ (E σ))
    (args : PA X (e :: es) t) (nodebug : (x == ("__debug__" : Str)) = false := by decide) (one : starEach (e :: es) X.env = (false, eval e X.env) :: starEach es X.env := by rfl) (more : (backTo pos (starEach es X.env)).any (·.1) = false := by rfl) :
    PE X (.Call (.Name x q) (e :: es) [] pos) (tCallS (sp a c d) E t) := by
  constructor
  intro pins s σ H Q I had
  refine wpAny_Call_Name_kw (ld_glob I gl there ?_ nodebug)
  refine PySem.W.callWith_K (h₀ := X.base) I.ok.mod.kin kp (thn (args.run pos pins s σ H _ I had) ?_) one more
  rintro us s1 ⟨vs, G, I1, rel, told⟩
  obtain ⟨o, h1, inp, zc⟩ := hot
  have bnd := bi s1 us I1.kIn (by rw [List.append_nil, ← rel.length]; exact F.len _ _ _ _ _ _ _ told)
  rw [List.append_nil] at bnd
  obtain ⟨p1, p2, p3, p4, p5⟩ := I1.pin (a, o) (List.mem_append_left _ inp)
  have pin : PinOk X.stack G s1 (a, o) := ⟨p1, p2, fun z => (List.mem_cons.mp (I1.stkSub a z)).elim p3 p4, p5⟩
  refine ⟨I1.kIn, wpAny_call (codeAny_mono (F.run X.A X.stack s1 G ⟨us, []⟩ us vs Q (E σ) (a, o) c d room h1 pin zc I1.env0 bnd rel told) fun r s2 h2 => ?_)⟩
  match r, h2 with
  | .error er, h2 => exact pass σ pins G s1 er s2 I1 h2
  | .ok (.ret u), h2 => exact I1.after h2
  | .ok .next, h2 => exact h2.elim
  | .ok .brk, h2 => exact h2.elim
  | .ok .cont, h2 => exact h2.elim
end
/-- isinstance(e, c), e the exception that the context bears -/
theorem call_isP {X : Cx} {K : PySem.W.Frag} {a : Addr} {cls : Value} {d : Option Addr} (hK : X.K = K) (hot : HotP X a cls d) : CallR X (.builtin "isinstance") (rIsS2 K a cls d) := by
  subst hK
  rintro pins s σ H _ us Q I rel ⟨C, c, u, b, rfl, rfl, kind, D, isC, ans, goal⟩
  obtain ⟨u1, u2, rfl, r1, r2⟩ := vals2 rel
  cases isC.eq r2
  cases (show u1 = Value.ref a from r1)
  obtain ⟨o, ⟨_, vs, hv, _⟩, inp, zc1, zc2⟩ := hot
  have here : s.heap.get? a = some o := (I.pin (a, o) (List.mem_append_left _ inp)).1
  have nc : PySem.W.notCls o = true := by
    unfold PySem.W.notCls
    rw [show o.data = .fields vs from hv]
  rcases kind with rfl | ⟨dd, fs, rfl, there⟩
  · have J : PySem.W.InstAt s.heap a o C none := ⟨here, zc1, nc, by rw [zc2]; trivial⟩
    exact PySem.W.kia_one (kitX_err D) I.kIn J ans (fun z => nomatch z) fun tk => ⟨.bl b, H, I.kept (t' := tk) fun _ _ z => z, rfl, goal⟩
  · have hx : ObjOk X.prog X.w H s.heap dd (.xd fs) := I.hok dd _ there
    obtain ⟨mA, hns, _⟩ := hx
    obtain ⟨od, ho, _⟩ := lookIn_ns hns
    have J : PySem.W.InstAt s.heap a o C (some od) := ⟨here, zc1, nc, by rw [zc2]; exact ho⟩
    exact PySem.W.kia_one (kitX_err D) I.kIn J ans (fun z => nomatch z) fun tk => ⟨.bl b, H, I.kept (t' := tk) fun _ _ z => z, rfl, goal⟩
end HotE

namespace StK
open PySem PySem.Spec PyProof.Rows L2 StX
section
variable {X : Cx} {CX : CXT} {k : Nat} {f : Addr} {sp : Sp} {E : L2.St → XK} {x : Str} {p pos : Pos} {e : Expr} {es : List Expr} {t : TA}
/-- f(e, ..) of a def that may raise and is told of its values alone -/
theorem pe_callRS (F : FnR X.prog X.w X.K X.mg X.base CX k f sp) (room : Room k X.A) (gl : Gl X x) (there : X.mg x = some (.ref f)) (kp : PySem.W.keepIn X.K (.ref f) = true) (pass : ∀ σ, PassesAt CX X σ (E σ))
    (ha : PA X (e :: es) t) (nd : (x == ("__debug__" : Str)) = false := by decide) (st : starEach (e :: es) X.env = (false, eval e X.env) :: starEach es X.env := by rfl) (pl : (backTo pos (starEach es X.env)).any (·.1) = false := by rfl) :
    PE X (.Call (.Name x p) (e :: es) [] pos) (tCallS sp E t) := by
  constructor
  intro pins s σ H Q I had
  refine wpAny_Call_Name_kw (ld_glob I gl there ?_ nd)
  refine PySem.W.callWith_K (h₀ := X.base) I.ok.mod.kin kp (thn (ha.run pos pins s σ H _ I had) ?_) st pl
  rintro us s1 ⟨vs, H1, I1, r, g1⟩
  refine ⟨I1.kIn, wpAny_call (codeAny_mono (F X.A X.stack s1 H1 us vs Q (E σ) room I1.env0 r g1) fun out s' h' => ?_)⟩
  match out, h' with
  | .error e, h' => exact pass σ pins H1 s1 e s' I1 h'
  | .ok (.ret u), h' => exact I1.after h'
  | .ok .next, h' => exact h'.elim
  | .ok .brk, h' => exact h'.elim
  | .ok .cont, h' => exact h'.elim
theorem pe_callRS0 (F : FnR X.prog X.w X.K X.mg X.base CX k f sp) (room : Room k X.A) (gl : Gl X x) (there : X.mg x = some (.ref f)) (kp : PySem.W.keepIn X.K (.ref f) = true) (pass : ∀ σ, PassesAt CX X σ (E σ))
    (nd : (x == ("__debug__" : Str)) = false := by decide) : PE X (.Call (.Name x p) [] [] pos) (tCallS sp E tNil) := by
  constructor
  intro pins s σ H Q I had
  refine wpAny_Call_Name_kw (ld_glob I gl there (PySem.W.callWith_K0 I.kIn kp ?_) nd)
  refine wpAny_call (codeAny_mono (F X.A X.stack s H [] [] Q (E σ) room I.env0 .nil had) fun out s' h' => ?_)
  match out, h' with
  | .error e, h' => exact pass σ pins H s e s' I h'
  | .ok (.ret u), h' => exact I.after h'
  | .ok .next, h' => exact h'.elim
  | .ok .brk, h' => exact h'.elim
  | .ok .cont, h' => exact h'.elim
end
end StK
namespace RvT
open PySem PySem.Spec PyProof.Rows L2
theorem op_notInTK {X : Cx} {K : PySem.W.Frag} (h : X.K = K) (room : X.A.units + 65 < cLine) : OpR X (compareOp .NotIn) (rNotInT K) := by
  subst h
  exact op_notInT room
end RvT

/-! xs[::-1] of a list; x in d as a test -/
namespace StK
open PySem PySem.Spec PyProof.Rows L2
section
variable {X : Cx} {e st : Expr} {te tk : TE} {pos p2 : Pos}
def tBack (K : PySem.W.Frag) (te tk : TE) : TE := fun σ H Q => te σ H fun x H1 => tk σ H1 fun z H2 => z = .int (-1) ∧ ∃ a xs, x = .ref a ∧ SqL K H2 a xs ∧ ∀ p, H2 p = none → Q (.ref p) (upd H2 p (.lst xs.reverse))
theorem pe_back (he : PE X e te) (hk : PE X st tk) : PE X (.Subscript e (.Slice none none (some st) p2) pos) (tBack X.K te tk) := by
  refine ⟨fun pins s σ H Q I h => Subscript_ (thn (he.run pins s σ H _ I h) ?_)⟩
  rintro v s1 ⟨x, H1, I1, r1, q1⟩
  refine wpAny_Slice ?_
  rw [evalPart_none]
  refine wpAny_pure (wpAny_pure ?_)
  rw [evalPart_some]
  refine thn (hk.run pins s1 σ H1 _ I1 q1) ?_
  rintro vk s3 ⟨z, H3, I3, rz, rfl, a, xs, rfl, hx, q⟩
  cases r1
  obtain ⟨tk3, rfl⟩ : ∃ t, vk = .int (-1) t := by
    obtain ⟨t, e⟩ := rz
    exact ⟨t, e⟩
  have I4 : Inv X pins σ H3 { s3 with heap := s3.heap.push { cls := .type "slice", data := .fields #[.none, .none, .int (-1) tk3] } } := I3.kept (t' := s3.toks) fun b ob g => Heap.get?_push_of_some _ g
  obtain ⟨its, r, ht, hz⟩ := I4.list hx
  have rl := r.length
  have sl : ({ s3 with heap := s3.heap.push { cls := .type "slice", data := .fields #[.none, .none, .int (-1) tk3] } } : Shared).heap.IsSliceOf s3.heap.objs.size .none .none (.int (-1) tk3) := Heap.IsSliceOf.new ..
  refine tail_any (T := "list") (ops := [.ref a, .ref s3.heap.objs.size]) ht.isList.typeIs slot_list_getitem.lookup ?_ rfl
  refine wpAny_getItem_list_slice ht.isList sl .none .none (.int _ _) (by decide) ?_ (by rw [List.size_toArray]; omega)
  rw [PySem.W.krv_pick]
  refine ⟨.ref _, _, I4.laid (t' := s3.toks) (o := .lst xs.reverse) (fun b ob g => Heap.get?_push_of_some _ g) (Nat.le_refl _) ?_, rfl, q _ (I4.hok.fresh (Nat.le_refl _))⟩
  exact ⟨by rw [List.length_reverse]; omega, _, 0, r.reverse, Heap.get?_push_size _ rfl⟩
end
end StK

/-! data of one shape: <, <= and sorted; xs[:0:-1]; C(e, ..) that may raise -/
namespace DaS
open PySem PySem.Spec PyProof.Rows PySem.W L2
/-- two things of one shape, compared -/
def Two (K : PySem.W.Frag) (H : Hp) (x y : V) (d e : PyData) : Prop := Dp K H x d ∧ Dp K H y e ∧ alike d e = true ∧ d ≠ .none ∧ d.depth ≤ 64
def rLeD (K : PySem.W.Frag) : R2 := fun x y H Q => ∃ d e, Two K H x y d e ∧ Q (.bl (!dataLt e d)) H
def rLtD (K : PySem.W.Frag) : R2 := fun x y H Q => ∃ d e, Two K H x y d e ∧ Q (.bl (dataLt d e)) H
section
variable {X : Cx}
theorem op_leD (room : X.A.units + 64 < cLine) : OpR X (compareOp .LtE) (rLeD X.K) := by
  rintro pins s σ H x y v u Q I rx ry ⟨d, e, ⟨hd, he, al, nn, dp⟩, q⟩
  obtain ⟨as, reads1⟩ := Dp.reads I d x v hd rx
  obtain ⟨bs, reads2⟩ := Dp.reads I e y u he ry
  exact le_data reads1 reads2 al nn (by omega) ⟨.bl _, H, I, rfl, q⟩
theorem op_ltD (room : X.A.units + 64 < cLine) : OpR X (compareOp .Lt) (rLtD X.K) := by
  rintro pins s σ H x y v u Q I rx ry ⟨d, e, ⟨hd, he, al, nn, dp⟩, q⟩
  obtain ⟨as, reads1⟩ := Dp.reads I d x v hd rx
  obtain ⟨bs, reads2⟩ := Dp.reads I e y u he ry
  exact lt_data reads1 reads2 al nn (by omega) ⟨.bl _, H, I, rfl, q⟩
/-- sorted of a list of things of one shape -/
def rSortD (K : PySem.W.Frag) : List V → Hp → VK → Prop := fun vs H Q => ∃ (a : Addr) (bs : List (V × PyData)), vs = [.ref a] ∧ SqL K H a (bs.map Prod.fst) ∧ (∀ b ∈ bs, Dp K H b.1 b.2 ∧ b.2.depth ≤ 60) ∧ AllAlike (bs.map Prod.snd) ∧ Sortable (bs.map Prod.snd) ∧
  ∀ p, H p = none → Q (.ref p) (upd H p (.lst ((bs.mergeSort (dataLe false Prod.snd)).map Prod.fst)))
theorem each_vals {R : V × PyData → Prop} : ∀ {bs : List (V × PyData)} {us : List Value}, Vals (bs.map Prod.fst) us → (∀ b ∈ bs, R b) → EachIs (fun v b => RelV b.1 v ∧ R b) us bs
  | [], _, r, _ => by cases r; exact .nil
  | b :: bs, _, r, h => by
    cases r with
    | cons r1 r2 => exact .cons ⟨r1, h b (List.mem_cons_self ..)⟩ (each_vals r2 fun c hc => h c (List.mem_cons_of_mem _ hc))
theorem vals_each {R : V × PyData → Prop} : ∀ {bs : List (V × PyData)} {us : List Value}, EachIs (fun v b => RelV b.1 v ∧ R b) us bs → Vals (bs.map Prod.fst) us
  | _, _, .nil => .nil
  | _, _, .cons h t => .cons h.1 (vals_each t)
theorem each_mono {α β : Type} {R S : α → β → Prop} (h : ∀ a b, R a b → S a b) : ∀ {as : List α} {bs : List β}, EachIs R as bs → EachIs S as bs
  | _, _, .nil => .nil
  | _, _, .cons r t => .cons (h _ _ r) (each_mono h t)
theorem cr_sortD (room : X.A.units + 64 < cLine) : CallR X (.builtin "sorted") (rSortD X.K) := by
  rintro pins s σ H vs us Q I r ⟨a, bs, rfl, hs, hd, al, so, q⟩
  obtain ⟨its, rv, hl, hz⟩ := I.list hs
  rw [Vals.ref1 r]
  have ln : its.length = bs.length := by rw [← rv.length, List.length_map]
  rw [List.length_map] at hz
  have E1 := each_vals (R := fun b => b ∈ bs) rv fun b hb => hb
  refine sorted_data (enc := Prod.snd) hl.isList E1 (each_mono (fun v b rb => Dp.reads I b.2 b.1 v (hd b rb.2).1 rb.1) E1) al so hz (fun b hb => ?_) fun out lo eo => ?_
  · have := (hd b hb).2
    omega
  · obtain ⟨n, hn⟩ := sortedAll_at s.heap its out.toArray
    have rv2 := vals_each eo
    have kp : ∀ b o, s.heap.get? b = some o → (sortedAll s.heap its out.toArray).get? b = some o := fun b o e => sortedAll_old e
    have hz2 : ((bs.mergeSort (dataLe false Prod.snd)).map Prod.fst).length ≤ sizeLine := by
      rw [List.length_map, List.length_mergeSort]
      exact hz
    refine ⟨.ref (s.heap.objs.size + 1), upd H (s.heap.objs.size + 1) (.lst ((bs.mergeSort (dataLe false Prod.snd)).map Prod.fst)), I.laid (t' := s.toks) kp (Nat.le_succ _) ⟨hz2, out, n, rv2, hn⟩, rfl, q _ (I.hok.fresh (Nat.le_succ _))⟩
end
section
variable {X : Cx} {CX : CXT} {k : Nat} {f C : Addr} {fd : FuncData} {ps : List Str} {sp : Sp} {E : L2.St → XK} {x : Str} {p pos : Pos} {e : Expr} {es : List Expr} {t : TA}
/-- C(e, ..), its __init__ may raise -/
def tMakeP (C : Addr) (sp : Sp) (E : L2.St → XK) (t : TA) : TE := fun σ H Q => t σ H fun vs G => ∀ c dx, G c = none → G dx = none → dx ≠ c →
  sp (.ref c :: (vs ++ [])) (upd (upd G dx (.own c)) c (.ins C dx [])) (fun v G2 => v = .non ∧ Q (.ref c) G2) (E σ)
theorem pe_makeP (M : Mk X.K C f) (F : FnOk X.prog X.w X.K X.mg X.base CX k f fd ps sp) (room : Room (k + 1) X.A) (g : Gl X x) (m : X.mg x = some (.ref C)) (b : Binds X.K fd ps []) (pass : ∀ σ, PassesAt CX X σ (E σ)) (args : PA X (e :: es) t)
    (nodebug : (x == ("__debug__" : Str)) = false := by decide) (one : starEach (e :: es) X.env = (false, eval e X.env) :: starEach es X.env := by rfl) (more : (backTo pos (starEach es X.env)).any (·.1) = false := by rfl) :
    PE X (.Call (.Name x p) (e :: es) [] pos) (tMakeP C sp E t) := by
  constructor
  intro pins s σ H Q I had
  refine wpAny_Call_Name_kw (ld_glob I g m ?_ nodebug)
  refine PySem.W.callWith_K (h₀ := X.base) I.ok.mod.kin M.kp (thn (args.run pos pins s σ H _ I had) ?_) one more
  rintro us s1 ⟨vs, G, I1, rel, q⟩
  have free : ∀ c, s1.heap.objs.size ≤ c → G c = none := fun c le => I1.hok.fresh le
  have had1 := q (s1.heap.objs.size + 1) s1.heap.objs.size (free _ (Nat.le_succ _)) (free _ (Nat.le_refl _)) (Nat.ne_of_lt (Nat.lt_succ_self _))
  have I2 := Inv.made I1 (C := C)
  have rel2 : Vals (V.ref (s1.heap.objs.size + 1) :: (vs ++ [])) ((Value.ref (s1.heap.objs.size + 1) :: us) ++ []) := by
    rw [List.append_nil, List.append_nil]
    exact .cons rfl rel
  have len : ((Value.ref (s1.heap.objs.size + 1) :: us) ++ []).length = ps.length := by
    rw [← F.len _ _ _ _ had1]
    exact rel2.length.symm
  refine ⟨I1.kIn, wpAny_call (make_map (f := f) I1.kIn M.makes M.init (beq_iff_eq.mp M.fn) (codeAny_mono (F.run _ X.stack _ _ ⟨Value.ref (s1.heap.objs.size + 1) :: us, []⟩ ((Value.ref (s1.heap.objs.size + 1) :: us) ++ []) _ _ (E σ) (room.make C us [])
    (I2.env0.make C us []) (b _ _ I2.kIn len) rel2 had1) fun r s2 told => ?_))⟩
  match r, told with
  | .error er, told => exact pass σ pins _ _ er s2 I2 told
  | .ok (.ret u), told =>
    obtain ⟨v, G2, I3, ru, rfl, q2⟩ := I2.after told
    exact ⟨ru, V.ref (s1.heap.objs.size + 1), G2, I3, rfl, q2⟩
  | .ok .next, told => exact told.elim
  | .ok .brk, told => exact told.elim
  | .ok .cont, told => exact told.elim
end
end DaS
namespace DaS
open PySem PySem.Spec PyProof.Rows PySem.W L2
theorem low_range (n : Nat) : (List.range n).map (fun k => n - k) = ((List.range n).map (1 + ·)).reverse := by
  apply List.ext_getElem
  · simp
  · intro i h1 h2
    rw [List.length_map, List.length_range] at h1
    rw [List.getElem_map, List.getElem_range, List.getElem_reverse, List.getElem_map, List.getElem_range, List.length_map, List.length_range]
    omega
theorem low_bounds (n : Nat) : sliceBounds none (some 0) (some (-1)) n = ((n : Int) - 1, (if n = 0 then -1 else 0), -1) := by
  unfold sliceBounds
  show ((n : Int) - 1, max (-1) (min 0 ((n : Int) - 1)), (-1 : Int)) = _
  by_cases c : n = 0
  · rw [if_pos c, c]
    rfl
  · rw [if_neg c, show min (0 : Int) ((n : Int) - 1) = 0 by omega]
    rfl
theorem low_sliceRange (n : Nat) : sliceRange ((n : Int) - 1) (if n = 0 then -1 else 0) (-1) = (List.range (n - 1)).map fun k => n - 1 - k := by
  unfold sliceRange
  have h1 : ¬ ((-1 : Int) > 0) := by decide
  by_cases c : n = 0
  · subst c
    rfl
  · rw [if_neg c]
    by_cases h : (n : Int) - 1 > 0
    · have e : ((n : Int) - 1 - 0 - -1 - 1) / (- -1) = ((n - 1 : Nat) : Int) := by
        rw [show (- -1 : Int) = 1 by decide, Int.ediv_one]
        omega
      simp only [h1, if_false, h, if_true, e, Int.toNat_natCast]
      apply List.map_congr_left
      intro k hk
      have := List.mem_range.mp hk
      omega
    · have e : n = 1 := by omega
      subst e
      rfl
theorem low_pick (items : Array Value) : slicePick items none (some 0) (some (-1)) = items.toList.tail.reverse.toArray := by
  unfold slicePick
  rw [low_bounds]
  show ((sliceRange ((items.size : Int) - 1) (if items.size = 0 then -1 else 0) (-1)).filterMap (items[·]?)).toArray = _
  rw [low_sliceRange, low_range, List.filterMap_reverse, pick_run]
  congr 2
  rw [List.take_of_length_le (by rw [List.length_drop, Array.length_toList]; omega), List.drop_one]
section
variable {X : Cx} {e up st : Expr} {te tu tk : TE} {pos p2 : Pos}
/-- xs[:0:-1]: all but the first, backwards -/
def tLow (K : PySem.W.Frag) (te tu tk : TE) : TE := fun σ H Q => te σ H fun x H1 => tu σ H1 fun y H2 => y = .int 0 ∧ tk σ H2 fun z H3 => z = .int (-1) ∧ ∃ a xs, x = .ref a ∧ SqL K H3 a xs ∧ ∀ p, H3 p = none → Q (.ref p) (upd H3 p (.lst xs.tail.reverse))
theorem pe_low (he : PE X e te) (hu : PE X up tu) (hk : PE X st tk) : PE X (.Subscript e (.Slice none (some up) (some st) p2) pos) (tLow X.K te tu tk) := by
  refine ⟨fun pins s σ H Q I h => Subscript_ (thn (he.run pins s σ H _ I h) ?_)⟩
  rintro v s1 ⟨x, H1, I1, r1, q1⟩
  refine wpAny_Slice ?_
  rw [evalPart_none]
  refine wpAny_pure ?_
  rw [evalPart_some]
  refine thn (hu.run pins s1 σ H1 _ I1 q1) ?_
  rintro vu s2 ⟨y, H2, I2, ry, rfl, q2⟩
  rw [evalPart_some]
  refine thn (hk.run pins s2 σ H2 _ I2 q2) ?_
  rintro vk s3 ⟨z, H3, I3, rz, rfl, a, xs, rfl, hx, q⟩
  cases r1
  obtain ⟨tu3, rfl⟩ : ∃ t, vu = .int 0 t := by
    obtain ⟨t, e⟩ := ry
    exact ⟨t, e⟩
  obtain ⟨tk3, rfl⟩ : ∃ t, vk = .int (-1) t := by
    obtain ⟨t, e⟩ := rz
    exact ⟨t, e⟩
  have I4 : Inv X pins σ H3 { s3 with heap := s3.heap.push { cls := .type "slice", data := .fields #[.none, .int 0 tu3, .int (-1) tk3] } } := I3.kept (t' := s3.toks) fun b ob g => Heap.get?_push_of_some _ g
  obtain ⟨its, r, ht, hz⟩ := I4.list hx
  have rl := r.length
  have sl : ({ s3 with heap := s3.heap.push { cls := .type "slice", data := .fields #[.none, .int 0 tu3, .int (-1) tk3] } } : Shared).heap.IsSliceOf s3.heap.objs.size .none (.int 0 tu3) (.int (-1) tk3) := Heap.IsSliceOf.new ..
  refine tail_any (T := "list") (ops := [.ref a, .ref s3.heap.objs.size]) ht.isList.typeIs slot_list_getitem.lookup ?_ rfl
  refine wpAny_getItem_list_slice ht.isList sl .none (.int _ _) (.int _ _) (by decide) ?_ (by rw [List.size_toArray]; omega)
  rw [low_pick]
  have r' : Vals xs.tail its.tail := by
    cases r with
    | nil => exact .nil
    | cons _ r2 => exact r2
  refine ⟨.ref _, _, I4.laid (t' := s3.toks) (o := .lst xs.tail.reverse) (fun b ob g => Heap.get?_push_of_some _ g) (Nat.le_refl _) ?_, rfl, q _ (I4.hok.fresh (Nat.le_refl _))⟩
  exact ⟨by rw [List.length_reverse, List.length_tail]; omega, _, 0, r'.reverse, Heap.get?_push_size _ rfl⟩
end
end DaS

/-! sorted of a tuple of data of one shape -/
namespace DaS
open PySem PySem.Spec PyProof.Rows PySem.W PySem.Calls L2
section
variable {X : Cx}
def rSortT (K : PySem.W.Frag) : List V → Hp → VK → Prop := fun vs H Q => ∃ (a : Addr) (bs : List (V × PyData)), vs = [.ref a] ∧ SqT K H a (bs.map Prod.fst) ∧ (∀ b ∈ bs, Dp K H b.1 b.2 ∧ b.2.depth ≤ 60) ∧ AllAlike (bs.map Prod.snd) ∧ Sortable (bs.map Prod.snd) ∧
  ∀ p, H p = none → Q (.ref p) (upd H p (.lst ((bs.mergeSort (dataLe false Prod.snd)).map Prod.fst)))
theorem cr_sortT (room : X.A.units + 64 < cLine) : CallR X (.builtin "sorted") (rSortT X.K) := by
  rintro pins s σ H vs us Q I r ⟨a, bs, rfl, hs, hd, al, so, q⟩
  obtain ⟨its, rv, hl, hz⟩ := I.tuple hs
  rw [Vals.ref1 r]
  have ln : its.length = bs.length := by rw [← rv.length, List.length_map]
  rw [List.length_map] at hz
  have E1 := each_vals (R := fun b => b ∈ bs) rv fun b hb => hb
  obtain ⟨o, ho, hc, n, hdat⟩ := hl
  refine call_function_entry kind_sorted plain_sorted entry_sorted (args_sorted1 _) ?_
  unfold Builtin.«sorted»
  refine wpAny_bind (m := checkCount "sorted" 1 1 _) (wpAny_pure ?_)
  refine wpAny_bind (wpAny_collect_seq a (.inr rfl) ho hc hdat (fun h' kp => ?_) (by rw [List.size_toArray, ln]; exact hz))
  refine wpAny_bind (wpAny_newList ?_ (by show its.length ≤ _; rw [ln]; exact hz))
  have e2 : its.toArray.toList = its := rfl
  show wpAny _ X.A.in1 _ _ _ { s with heap := h'.push (seqObj "list" its.toArray 0) }
  have hD : (h'.push (seqObj "list" its.toArray 0)).get? h'.objs.size = some (seqObj "list" its.toArray 0) := Heap.get?_push_size _ rfl
  have old : ∀ b o, s.heap.get? b = some o → b ≠ h'.objs.size ∧ (h'.push (seqObj "list" its.toArray 0)).get? b = some o := fun b o e =>
    ⟨Nat.ne_of_lt (Heap.lt_size (kp b o e)), Heap.get?_push_of_some _ (kp b o e)⟩
  have er : EachIs (fun v b => ∃ as, Reads (sortingHeap (h'.push (seqObj "list" its.toArray 0)) h'.objs.size its) v b.2 as) its bs := each_mono (fun v b rb => by
    obtain ⟨as, r⟩ := Dp.reads I b.2 b.1 v (hd b rb.2).1 rb.1
    exact ⟨as, PyProof.Rows.Reads.keeps (fun b o e => sortingHeap_old (old b o e).1 (old b o e).2) r⟩) E1
  have run : wpAny (model X.prog X.w) X.A.in1 (call (.builtin "list.sort") [.ref h'.objs.size]) (fun _ s' => s' = { s with heap := sortedHeap (h'.push (seqObj "list" its.toArray 0)) h'.objs.size its (sortVals (dataKind (sortingHeap (h'.push (seqObj "list" its.toArray 0)) h'.objs.size its) (bs.map Prod.snd)) false its its).toArray }) X.xe { s with heap := h'.push (seqObj "list" its.toArray 0) } :=
    wpAny_call_entry slot_list_sort ⟨_, hD, rfl⟩ entry_list_sort (list_sort_vals (κ := dataKind (sortingHeap (h'.push (seqObj "list" its.toArray 0)) h'.objs.size its) (bs.map Prod.snd)) hD
      (SortsAt.data (s := { s with heap := sortingHeap (h'.push (seqObj "list" its.toArray 0)) h'.objs.size its }) (each_map (R := fun v d => ∃ as, Reads (sortingHeap (h'.push (seqObj "list" its.toArray 0)) h'.objs.size its) v d as) Prod.snd er) al so (bound_map fun b hb => by
        have := (hd b hb).2
        show X.A.units + 1 + 1 + b.2.depth < cLine
        omega)) (by rw [ln]; exact hz) ⟨.none, rfl, rfl⟩) (args_list_sort _)
  refine wpAny_bind (wpAny_holding (wpAny_mono run (fun _ s' x => ?_) fun _ _ e => e))
  subst x
  refine wpAny_pure ⟨_, rfl, ?_⟩
  obtain ⟨m, hm⟩ := sortedHeap_at (out := (sortVals (dataKind (sortingHeap (h'.push (seqObj "list" its.toArray 0)) h'.objs.size its) (bs.map Prod.snd)) false its its).toArray) hD
  have rs := vals_each (sortVals_data (enc := Prod.snd) false E1 er al)
  have hz2 : ((bs.mergeSort (dataLe false Prod.snd)).map Prod.fst).length ≤ sizeLine := by
    rw [List.length_map, List.length_mergeSort]
    exact hz
  have I1 : Inv X pins σ H { s with heap := h' } := I.kept (t' := s.toks) kp
  exact ⟨.ref h'.objs.size, upd H h'.objs.size (.lst ((bs.mergeSort (dataLe false Prod.snd)).map Prod.fst)), I1.laid (t' := s.toks) (fun b o e => by rw [sortedHeap_old (Nat.ne_of_lt (Heap.lt_size e)) (Heap.lt_size (Heap.get?_push_of_some _ e))]; exact Heap.get?_push_of_some _ e) (Nat.le_refl _) ⟨hz2, _, m, rs, hm⟩, rfl, q _ (I1.hok.fresh (Nat.le_refl _))⟩
end
end DaS

/-! a walk over zip of four lists of one length: by a loop lemma over the iterators -/
namespace RZ4
open PySem PySem.Spec PyProof.Rows L2
/-- a for loop over a list that never leaves early -/
theorem forIn_all {α β : Type} {M : Model} {A : Around} {E : Value → Shared → Prop} {F : α → β → Sem (ForInStep β)} {b : β} {Q : β → Shared → Prop} (J : List α → Shared → Prop)
    (step : ∀ x xs s, J (x :: xs) s → wpAny M A (F x b) (fun r s' => r = .yield b ∧ J xs s') E s) : ∀ (l : List α) (s : Shared), J l s → (∀ s', J [] s' → Q b s') → wpAny M A (forIn l b F) Q E s
  | [], s, j, q => by
    rw [List.forIn_nil]
    exact wpAny_pure (q s j)
  | x :: xs, s, j, q => by
    rw [List.forIn_cons]
    refine wpAny_bind (thn (step x xs s j) fun r s' ⟨e, j'⟩ => ?_)
    subst e
    exact forIn_all J step xs s' j' q
abbrev Tup4 (h : Heap) (T : Addr) (xs : Array Value) : Prop := h.get? T = some { cls := .type "tuple", data := .seq xs }
/-- the cells of a zip over iterators (js: iterator, list) lie apart -/
structure Sep (zp TI TO : Addr) (js : List (Addr × Addr)) : Prop where
  iz : TI ≠ zp
  oz : TO ≠ zp
  io : TI ≠ TO
  ti : ∀ j ∈ js, TI ≠ j.1
  z1 : ∀ j ∈ js, zp ≠ j.1
  z2 : ∀ j ∈ js, zp ≠ j.2
  o1 : ∀ j ∈ js, TO ≠ j.1
  o2 : ∀ j ∈ js, TO ≠ j.2
  nd : (js.map Prod.fst).Nodup
  ap : ∀ j ∈ js, ∀ k ∈ js, j.2 ≠ k.1
/-- the list j of lists at its i-th item -/
def At (h : Heap) (j : Addr × Addr) (v : Array Value) (i : Nat) : Prop := h.IsListIter j.1 j.2 i ∧ h.IsList j.2 v
theorem At.keep {h h' : Heap} {j : Addr × Addr} {v : Array Value} {i : Nat} (a : At h j v i) (k1 : ∀ o, h.get? j.1 = some o → h'.get? j.1 = some o) (k2 : ∀ o, h.get? j.2 = some o → h'.get? j.2 = some o) : At h' j v i :=
  ⟨a.1.at k1, a.2.at k2⟩
section
variable {prog : Program} {w : World} {A : Around} {E : Value → Shared → Prop} {s : Shared} {zp TI TO : Addr} {js : List (Addr × Addr)} {vs : List (Array Value)} {i n : Nat}
/-- in a turn: q iterators have told their item -/
structure Mid (zp TI TO : Addr) (js : List (Addr × Addr)) (vs : List (Array Value)) (i : Nat) (hp0 h : Heap) (q : Nat) : Prop where
  zz : IsZip h zp TI TO .ellipsis
  sz : h.objs.size = hp0.objs.size
  out : ∃ xs : Array Value, Tup4 h TO xs ∧ xs.size = js.length ∧ ∀ (p : Nat) (v : Array Value), p < q → vs[p]? = some v → v[i]? = xs[p]?
  its : ∀ (p : Nat) (j : Addr × Addr) (v : Array Value), js[p]? = some j → vs[p]? = some v → At h j v (if p < q then i + 1 else i)
  kept : ∀ c o, c ≠ zp → c ≠ TO → c ∉ js.map Prod.fst → hp0.get? c = some o → h.get? c = some o
theorem next_item {Q : Value → Shared → Prop} (calm : A.handled = none) (S : Sep zp TI TO js) (lv : vs.length = js.length) (few : js.length ≤ 4) (hz0 : IsZip s.heap zp TI TO .none) (hI : Tup4 s.heap TI (js.map fun j => Value.ref j.1).toArray) {xs0 : Array Value} (hO : Tup4 s.heap TO xs0) (x0 : xs0.size = js.length) (ne : js ≠ [])
    (at_ : ∀ (p : Nat) (j : Addr × Addr) (v : Array Value), js[p]? = some j → vs[p]? = some v → At s.heap j v i ∧ i < v.size)
    (hQ : ∀ (xs : Array Value) (h' : Heap) (tk : Tok), xs.size = js.length → (∀ (p : Nat) (v : Array Value), vs[p]? = some v → v[i]? = xs[p]?) → IsZip h' zp TI TO (rawInt s.heap.objs.size) → Tup4 h' TO xs → (∀ (p : Nat) (j : Addr × Addr) (v : Array Value), js[p]? = some j → vs[p]? = some v → At h' j v (i + 1)) → Tup4 h' s.heap.objs.size xs → h'.objs.size = s.heap.objs.size + 1 →
      (∀ c o, c ≠ zp → c ≠ TO → c ∉ js.map Prod.fst → s.heap.get? c = some o → h'.get? c = some o) → Q (.ref s.heap.objs.size) { s with heap := h', toks := tk }) :
    wpAny (model prog w) A (Builtin.«zip.__next__» ⟨[.ref zp], []⟩) (fun fin s' => ∃ v, fin = .done (.ret v) ∧ Q v s') E s := by
  obtain ⟨hp0, g, d, tk0, os⟩ := s
  show wpAny _ _ (field (.ref zp) 2 >>= _) _ _ _
  refine wpAny_bind (wpAny_field hz0 rfl (x := .bool false) rfl ?_)
  refine wpAny_bind (wpAny_field hz0 rfl (x := .ref TI) rfl ?_)
  refine wpAny_bind (wpAny_seqItems hI rfl ?_)
  have em : (js.map fun j => Value.ref j.1).toArray.isEmpty = false := by
    cases js with
    | nil => exact absurd rfl ne
    | cons a b => simp
  simp only [em, if_false, Bool.false_eq_true]
  show wpAny _ _ (Builtin.SmallTypes.ownedTupleIsFree (.ref zp) >>= _) _ _ _
  refine wpAny_bind ?_; unfold Builtin.SmallTypes.ownedTupleIsFree
  refine wpAny_bind (wpAny_field hz0 rfl (x := .none) rfl (wpAny_pure ?_))
  simp only [if_true]
  refine wpAny_bind (wpAny_rule ?_)
  refine wpAny_bind (wpAny_field hz0 rfl (x := .ref TO) rfl ?_)
  refine wpAny_bind (wpAny_setField_rec hz0 (by simp) fun g0 hz1 hs0 => ?_)
  replace hz1 : IsZip g0 zp TI TO .ellipsis := hz1
  replace hs0 : Heap.SameBut zp hp0 g0 := hs0
  refine wpAny_bind ?_
  refine forIn_all (fun rest s' => ∃ q h tk, rest = ((js.map fun j => Value.ref j.1).zipIdx).drop q ∧ q ≤ js.length ∧ s' = ⟨h, g, d, tk, os⟩ ∧ Mid zp TI TO js vs i hp0 h q) ?_ _ _ ?_ ?_
  · rintro x rest s' ⟨q, h, tk, er, ql, rfl, M⟩
    have q2 : q < js.length := by
      rcases Nat.lt_or_ge q js.length with c | c
      · exact c
      · rw [List.drop_eq_nil_of_le (by rw [List.length_zipIdx, List.length_map]; exact c)] at er
        cases er
    rw [List.drop_eq_getElem_cons (by rw [List.length_zipIdx, List.length_map]; exact q2), List.getElem_zipIdx, List.getElem_map, Nat.zero_add] at er
    injection er with ex erest
    subst ex
    have jq : js[q]? = some js[q] := List.getElem?_eq_getElem q2
    have vq : vs[q]? = some (vs[q]'(by omega)) := List.getElem?_eq_getElem (by omega)
    generalize hj : js[q] = j at jq ⊢
    generalize vs[q]'(by omega) = v at vq
    have jm : j ∈ js := List.mem_of_getElem? jq
    have aq := M.its q j v jq vq
    rw [if_neg (Nat.lt_irrefl q)] at aq
    have iv := (at_ q j v jq vq).2
    refine wpAny_bind (wpAny_onRaise ?_)
    show wpAny _ _ (Builtin.SmallTypes.nextOf (.ref j.1) >>= _) _ _ ⟨h, g, d, tk, os⟩
    refine wpAny_bind ((Draws.list (prog := prog) (w := w) calm j.1 j.2 (S.ap j jm j jm) v).item i _ _ _ iv aq fun y p1 tk1 hy sn hp1 => wpAny_pure ?_)
    replace hp1 : Heap.SameBut j.1 h p1 := hp1
    obtain ⟨xs, hx, xsz, xv⟩ := M.out
    have hU : Tup4 p1 TO xs := hp1.extBut _ _ (S.o1 j jm) hx
    refine wpAny_bind (wpAny_seqItems (s := ⟨p1, g, d, tk1, os⟩) hU rfl ?_)
    refine wpAny_bind (wpAny_updateSeq (s := ⟨p1, g, d, tk1, os⟩) hU rfl ?_ (by rw [xsz]; exact Nat.le_trans few (by decide)) (by rw [Array.size_setIfInBounds, xsz]; exact Nat.le_trans few (by decide)))
    refine wpAny_bind (wpAny_letGo (wpAny_pure ⟨rfl, q + 1, _, tk1, erest, q2, rfl, ?_⟩))
    have same : Heap.SameBut TO p1 (p1.update TO (Obj.mapSeq fun a => a.setIfInBounds q y)) := Heap.SameBut.update ..
    have hN : Tup4 (p1.update TO (Obj.mapSeq fun a => a.setIfInBounds q y)) TO (xs.setIfInBounds q y) := by
      show Heap.get? _ _ = _
      rw [Heap.get?_update_self _ hU rfl]
      simp [Obj.mapSeq]
    show Mid zp TI TO js vs i hp0 (p1.update TO (Obj.mapSeq fun a => a.setIfInBounds q y)) (q + 1)
    generalize p1.update TO (Obj.mapSeq fun a => a.setIfInBounds q y) = h2 at same hN ⊢
    refine ⟨same.extBut _ _ S.oz.symm (hp1.extBut _ _ (S.z1 j jm) M.zz), by rw [same.1, hp1.1, M.sz], ⟨_, hN, by rw [Array.size_setIfInBounds, xsz], fun p u pl hu => ?_⟩, fun p k u hk hu => ?_, fun c o c1 c2 c3 ho => ?_⟩
    · rw [Array.getElem?_setIfInBounds]
      by_cases e : q = p
      · subst e
        rw [if_pos rfl, if_pos (by rw [xsz]; exact q2)]
        rw [hu] at vq
        cases vq
        exact hy
      · rw [if_neg e]
        exact xv p u (by omega) hu
    · have km : k ∈ js := List.mem_of_getElem? hk
      by_cases e : p = q
      · subst e
        rw [hk] at jq
        cases jq
        rw [hu] at vq
        cases vq
        rw [if_pos (Nat.lt_succ_self _)]
        exact At.keep (h := p1) sn (fun o e => same.extBut _ _ (S.o1 _ jm).symm e) fun o e => same.extBut _ _ (S.o2 _ jm).symm e
      · have a0 := M.its p k u hk hu
        have e3 : (if p < q + 1 then i + 1 else i) = (if p < q then i + 1 else i) := by
          by_cases c : p < q
          · rw [if_pos c, if_pos (by omega)]
          · rw [if_neg c, if_neg (by omega)]
        rw [e3]
        have n1 : k.1 ≠ j.1 := fun zp => e (by
          have lp : p < (js.map Prod.fst).length := by
            rw [List.length_map]
            exact (List.getElem?_eq_some_iff.mp hk).1
          exact (List.getElem?_inj lp S.nd).mp (by rw [List.getElem?_map, List.getElem?_map, hk, jq]; exact congrArg some zp))
        exact At.keep a0 (fun o e => same.extBut _ _ (S.o1 k km).symm (hp1.extBut _ _ n1 e)) fun o e => same.extBut _ _ (S.o2 k km).symm (hp1.extBut _ _ (S.ap k km j jm) e)
    · exact same.extBut _ _ c2 (hp1.extBut _ _ (fun e => c3 (List.mem_map.mpr ⟨j, jm, e.symm⟩)) (M.kept c o c1 c2 c3 ho))
  · refine ⟨0, g0, tk0, by rw [List.drop_zero], Nat.zero_le _, rfl, hz1, hs0.1, ⟨xs0, hs0.extBut _ _ S.oz hO, x0, fun p v l => by omega⟩, fun p j v hj hv => ?_, fun c o c1 _ _ ho => hs0.extBut _ _ c1 ho⟩
    rw [if_neg (Nat.not_lt_zero _)]
    have jm : j ∈ js := List.mem_of_getElem? hj
    exact At.keep (at_ p j v hj hv).1 (fun o e => hs0.extBut _ _ (S.z1 j jm).symm e) fun o e => hs0.extBut _ _ (S.z2 j jm).symm e
  · rintro s' ⟨q, h, tk, er, ql, rfl, M⟩
    have qe : q = js.length := by
      have h1 := congrArg List.length er
      rw [List.length_drop, List.length_zipIdx, List.length_map] at h1
      have h1 : 0 = js.length - q := h1
      omega
    subst qe
    obtain ⟨xs, hx, xsz, xv⟩ := M.out
    refine wpAny_bind (wpAny_seqItems (s := ⟨h, g, d, tk, os⟩) hx rfl ?_)
    refine wpAny_bind (wpAny_newTuple ?_ (by show xs.toList.length ≤ sizeLine; rw [Array.length_toList, xsz]; exact Nat.le_trans few (by decide)))
    have eN : h.objs.size = hp0.objs.size := M.sz
    have zlt : zp < h.objs.size := Heap.lt_size M.zz
    show wpAny _ _ (Builtin.SmallTypes.ownedTupleHandOut (.ref zp) (.ref h.objs.size) >>= _) _ _ ⟨h.push { cls := .type "tuple", data := .seq xs }, g, d, tk, os⟩
    refine wpAny_bind ?_; unfold Builtin.SmallTypes.ownedTupleHandOut
    have w1 : IsZip (h.push { cls := .type "tuple", data := .seq xs }) zp TI TO .ellipsis := Heap.get?_push_of_some _ M.zz
    refine wpAny_bind (wpAny_setField_rec w1 (by simp) fun h1 w2 s1 => ?_)
    replace w2 : IsZip h1 zp TI TO (rawInt h.objs.size) := w2
    refine wpAny_setField_rec w2 (by simp) fun h2 w3 s2 => ?_
    replace w3 : IsZip h2 zp TI TO (rawInt h.objs.size) := w3
    replace s1 : Heap.SameBut zp (h.push { cls := .type "tuple", data := .seq xs }) h1 := s1
    replace s2 : Heap.SameBut zp h1 h2 := s2
    have up : ∀ c o, c ≠ zp → h.get? c = some o → h2.get? c = some o := fun c o cz e => s2.extBut _ _ cz (s1.extBut _ _ cz (Heap.get?_push_of_some _ e))
    have new : Tup4 h2 h.objs.size xs := s2.extBut _ _ (Nat.ne_of_gt zlt) (s1.extBut _ _ (Nat.ne_of_gt zlt) (Heap.get?_push_size _ rfl))
    have len : h2.objs.size = h.objs.size + 1 := by rw [s2.1, s1.1, Heap.size_push]
    rw [eN] at w3 new len
    refine wpAny_pure ⟨_, rfl, ?_⟩
    show Q (.ref h.objs.size) ⟨h2, g, d, tk, os⟩
    rw [eN]
    refine hQ xs h2 tk xsz (fun p v hv => xv p v (by rw [← lv]; exact (List.getElem?_eq_some_iff.mp hv).1) hv) w3 (up _ _ S.oz hx) (fun p j v hj hv => ?_) new len fun c o c1 c2 c3 ho => up c o c1 (M.kept c o c1 c2 c3 ho)
    have jm : j ∈ js := List.mem_of_getElem? hj
    have a0 := M.its p j v hj hv
    rw [if_pos (List.getElem?_eq_some_iff.mp hj).1] at a0
    exact At.keep a0 (fun o e => up _ _ (S.z1 j jm).symm e) fun o e => up _ _ (S.z2 j jm).symm e
theorem next_end {Q : Fin → Shared → Prop} (calm : A.handled = none) (S : Sep zp TI TO js) (few : js.length ≤ 4) (hz0 : IsZip s.heap zp TI TO .none) (hI : Tup4 s.heap TI (js.map fun j => Value.ref j.1).toArray)
    {j0 : Addr × Addr} {v0 : Array Value} (j0q : js[0]? = some j0) (a0 : At s.heap j0 v0 v0.size)
    (hE : ∀ (h' : Heap) (tk : Tok) (e : Addr), (∀ c o, c ≠ zp → c ≠ TO → c ∉ js.map Prod.fst → s.heap.get? c = some o → h'.get? c = some o) → (∃ o, h'.get? e = some o ∧ o.cls = .type "StopIteration") → E (.ref e) { s with heap := h', toks := tk }) :
    wpAny (model prog w) A (Builtin.«zip.__next__» ⟨[.ref zp], []⟩) Q E s := by
  obtain ⟨hp0, g, d, tk0, os⟩ := s
  have jm : j0 ∈ js := List.mem_of_getElem? j0q
  show wpAny _ _ (field (.ref zp) 2 >>= _) _ _ _
  refine wpAny_bind (wpAny_field hz0 rfl (x := .bool false) rfl ?_)
  refine wpAny_bind (wpAny_field hz0 rfl (x := .ref TI) rfl ?_)
  refine wpAny_bind (wpAny_seqItems hI rfl ?_)
  obtain ⟨rest, ejs⟩ : ∃ rest, js = j0 :: rest := by
    cases js with
    | nil => cases j0q
    | cons a b => cases j0q; exact ⟨b, rfl⟩
  have em : (js.map fun j => Value.ref j.1).toArray.isEmpty = false := by
    rw [ejs]
    simp
  simp only [em, if_false, Bool.false_eq_true]
  show wpAny _ _ (Builtin.SmallTypes.ownedTupleIsFree (.ref zp) >>= _) _ _ _
  refine wpAny_bind ?_; unfold Builtin.SmallTypes.ownedTupleIsFree
  refine wpAny_bind (wpAny_field hz0 rfl (x := .none) rfl (wpAny_pure ?_))
  simp only [if_true]
  refine wpAny_bind (wpAny_rule ?_)
  refine wpAny_bind (wpAny_field hz0 rfl (x := .ref TO) rfl ?_)
  refine wpAny_bind (wpAny_setField_rec hz0 (by simp) fun g0 hz1 hs0 => ?_)
  replace hz1 : IsZip g0 zp TI TO .ellipsis := hz1
  replace hs0 : Heap.SameBut zp hp0 g0 := hs0
  have lst : ((js.map fun j => Value.ref j.1).toArray.toList.zipIdx) = (Value.ref j0.1, 0) :: (rest.map fun j => Value.ref j.1).zipIdx 1 := by rw [ejs]; rfl
  rw [lst]
  refine wpAny_bind ?_
  rw [List.forIn_cons]
  refine wpAny_bind (wpAny_bind (wpAny_onRaise ?_))
  show wpAny _ _ (Builtin.SmallTypes.nextOf (.ref j0.1) >>= _) _ _ ⟨g0, g, d, tk0, os⟩
  refine wpAny_bind ((Draws.list (prog := prog) (w := w) calm j0.1 j0.2 (S.ap j0 jm j0 jm) v0).done ⟨g0, g, d, tk0, os⟩ _ _ (At.keep a0 (fun o e => hs0.extBut _ _ (S.z1 j0 jm).symm e) fun o e => hs0.extBut _ _ (S.z2 j0 jm).symm e) fun p e hq he => ?_)
  replace hq : Heap.ExtBut j0.1 g0 p := hq
  obtain ⟨oe, ho, hc⟩ := he
  replace ho : p.get? e = some oe := ho
  have w1 : IsZip p zp TI TO .ellipsis := hq _ _ (S.z1 j0 jm) hz1
  have nz : e ≠ zp := fun x => by
    subst x
    rw [w1] at ho
    cases ho
    simp at hc
  refine wpAny_setField_rec (s := ⟨p, g, d, tk0, os⟩) w1 (by simp) fun p2 _ s2 => ?_
  replace s2 : Heap.SameBut zp p p2 := s2
  exact hE p2 tk0 e (fun c o c1 c2 c3 x => s2.extBut _ _ c1 (hq _ _ (fun y => c3 (List.mem_map.mpr ⟨j0, jm, y.symm⟩)) (hs0.extBut _ _ c1 x))) ⟨oe, s2.extBut _ _ nz ho, hc⟩
end
section
variable {prog : Program} {w : World} {A : Around} {E : Value → Shared → Prop} {s : Shared} {zp TI TO : Addr} {js : List (Addr × Addr)} {vs : List (Array Value)} {i n : Nat}
theorem py_item {Q : Option Value → Shared → Prop} (calm : A.in1.handled = none) (S : Sep zp TI TO js) (lv : vs.length = js.length) (few : js.length ≤ 4) (hz0 : IsZip s.heap zp TI TO .none) (hI : Tup4 s.heap TI (js.map fun j => Value.ref j.1).toArray) {xs0 : Array Value} (hO : Tup4 s.heap TO xs0) (x0 : xs0.size = js.length) (ne : js ≠ [])
    (at_ : ∀ (p : Nat) (j : Addr × Addr) (v : Array Value), js[p]? = some j → vs[p]? = some v → At s.heap j v i ∧ i < v.size)
    (hQ : ∀ (xs : Array Value) (h' : Heap) (tk : Tok), xs.size = js.length → (∀ (p : Nat) (v : Array Value), vs[p]? = some v → v[i]? = xs[p]?) → IsZip h' zp TI TO (rawInt s.heap.objs.size) → Tup4 h' TO xs → (∀ (p : Nat) (j : Addr × Addr) (v : Array Value), js[p]? = some j → vs[p]? = some v → At h' j v (i + 1)) → Tup4 h' s.heap.objs.size xs → h'.objs.size = s.heap.objs.size + 1 →
      (∀ c o, c ≠ zp → c ≠ TO → c ∉ js.map Prod.fst → s.heap.get? c = some o → h'.get? c = some o) → Q (some (.ref s.heap.objs.size)) { s with heap := h', toks := tk }) :
    wpAny (model prog w) A (pyNext (.ref zp)) Q E s := by
  have ty : s.TypeIs (.ref zp) "zip" := ⟨_, hz0, rfl⟩
  unfold pyNext
  exact wpAny_bind (wpAny_attempt (wpAny_callSpecial?_slot (name := Str.ofString "__next__") ty F.slot_zip_next (wpAny_call_entry F.slot_zip_next ty F.entry_zip_next
      (next_item calm S lv few hz0 hI hO x0 ne at_ fun xs h' tk b1 b2 b3 b4 b5 b6 b7 b8 => wpAny_pure (hQ xs h' tk b1 b2 b3 b4 b5 b6 b7 b8)) (F.args_zip_next_1 _))))
theorem py_end {Q : Option Value → Shared → Prop} (calm : A.in1.handled = none) (S : Sep zp TI TO js) (few : js.length ≤ 4) (hz0 : IsZip s.heap zp TI TO .none) (hI : Tup4 s.heap TI (js.map fun j => Value.ref j.1).toArray)
    {j0 : Addr × Addr} {v0 : Array Value} (j0q : js[0]? = some j0) (a0 : At s.heap j0 v0 v0.size)
    (hQ : ∀ (h' : Heap) (tk : Tok), (∀ c o, c ≠ zp → c ≠ TO → c ∉ js.map Prod.fst → s.heap.get? c = some o → h'.get? c = some o) → Q none { s with heap := h', toks := tk }) : wpAny (model prog w) A (pyNext (.ref zp)) Q E s := by
  have ty : s.TypeIs (.ref zp) "zip" := ⟨_, hz0, rfl⟩
  unfold pyNext
  refine wpAny_bind (wpAny_attempt (wpAny_callSpecial?_slot (name := Str.ofString "__next__") ty F.slot_zip_next (wpAny_call_entry F.slot_zip_next ty F.entry_zip_next
    (next_end calm S few hz0 hI j0q a0 fun h' tk e kp ⟨o, ho, hc⟩ => ?_) (F.args_zip_next_1 _))))
  exact wpAny_bind (wpAny_isInstance (T := "StopIteration") (b := true) ⟨o, ho, hc⟩ isSubtype_stop (wpAny_pure (hQ _ _ kp)))
end
/-- four lists of one length as they stand, the items in new tuples -/
def It4 (K : PySem.W.Frag) (a b c d : Addr) : It where
  go i H := ∃ (xs ys zs ws : List V), SqL K H a xs ∧ SqL K H b ys ∧ SqL K H c zs ∧ SqL K H d ws ∧ ys.length = xs.length ∧ zs.length = xs.length ∧ ws.length = xs.length ∧ i < xs.length
  yld i H v H' := ∃ T x y z u, v = .ref T ∧ H T = none ∧ H' = upd H T (.tup [x, y, z, u]) ∧ (∀ xs, SqL K H a xs → xs[i]? = some x) ∧ (∀ ys, SqL K H b ys → ys[i]? = some y) ∧ (∀ zs, SqL K H c zs → zs[i]? = some z) ∧ ∀ ws, SqL K H d ws → ws[i]? = some u
  stop i H := ∃ (xs ys zs ws : List V), SqL K H a xs ∧ SqL K H b ys ∧ SqL K H c zs ∧ SqL K H d ws ∧ ys.length = i ∧ zs.length = i ∧ ws.length = i ∧ xs.length = i
abbrev cells4 (zp TI TO i1 i2 i3 i4 : Addr) : List Addr := [zp, TI, TO, i1, i2, i3, i4]
def Tn4 (a b c d zp TI TO i1 i2 i3 i4 : Addr) (i : Nat) (h : Heap) : Prop :=
  IsZip h zp TI TO .none ∧ Tup4 h TI #[.ref i1, .ref i2, .ref i3, .ref i4] ∧ (∃ xs : Array Value, Tup4 h TO xs ∧ xs.size = 4) ∧ h.IsListIter i1 a i ∧ h.IsListIter i2 b i ∧ h.IsListIter i3 c i ∧ h.IsListIter i4 d i
theorem turn4 {P : Program} {w : World} {K : PySem.W.Frag} {elts : List Expr} {kk : Nat} {tpos : Pos} {a b c d zp TI TO i1 i2 i3 i4 : Addr} (S : Sep zp TI TO [(i1, a), (i2, b), (i3, c), (i4, d)]) :
    Turn P w K (.Tuple elts kk tpos) (It4 K a b c d) (cells4 zp TI TO i1 i2 i3 i4) zp (Tn4 a b c d zp TI TO i1 i2 i3 i4) where
  mem := List.mem_cons_self
  obj i h st q hq := by
    obtain ⟨hz, hTI, ⟨xs, hTO, _⟩, ⟨o1, e1, _, d1⟩, ⟨o2, e2, _, d2⟩, ⟨o3, e3, _, d3⟩, ⟨o4, e4, _, d4⟩⟩ := st
    simp only [cells4, List.mem_cons, List.not_mem_nil, or_false] at hq
    rcases hq with rfl | rfl | rfl | rfl | rfl | rfl | rfl
    · exact ⟨_, hz, fun v e => nomatch e⟩
    · exact ⟨_, hTI, fun v e => nomatch e⟩
    · exact ⟨_, hTO, fun v e => nomatch e⟩
    · exact ⟨o1, e1, fun v e => by rw [d1] at e; cases e⟩
    · exact ⟨o2, e2, fun v e => by rw [d2] at e; cases e⟩
    · exact ⟨o3, e3, fun v e => by rw [d3] at e; cases e⟩
    · exact ⟨o4, e4, fun v e => by rw [d4] at e; cases e⟩
  keep i h h' st k := by
    obtain ⟨hz, hTI, ⟨xs, hTO, x4⟩, h1, h2, h3, h4⟩ := st
    exact ⟨k zp (by simp) _ hz, k TI (by simp) _ hTI, ⟨xs, k TO (by simp) _ hTO, x4⟩, h1.at fun o q => k i1 (by simp) o q, h2.at fun o q => k i2 (by simp) o q, h3.at fun o q => k i3 (by simp) o q, h4.at fun o q => k i4 (by simp) o q⟩
  item := by
    rintro X rfl rfl rfl calm i pins s σ H E I free st ⟨xs, ys, zs, ws, q1, q2, q3, q4, l2, l3, l4, lt⟩
    obtain ⟨hz, hTI, ⟨xs0, hTO, x4⟩, h1, h2, h3, h4⟩ := st
    obtain ⟨v1, r1, p1, _⟩ := I.list q1
    obtain ⟨v2, r2, p2, _⟩ := I.list q2
    obtain ⟨v3, r3, p3, _⟩ := I.list q3
    obtain ⟨v4, r4, p4, _⟩ := I.list q4
    have s1 : v1.toArray.size = xs.length := by rw [List.size_toArray, ← r1.length]
    have s2 : v2.toArray.size = ys.length := by rw [List.size_toArray, ← r2.length]
    have s3 : v3.toArray.size = zs.length := by rw [List.size_toArray, ← r3.length]
    have s4 : v4.toArray.size = ws.length := by rw [List.size_toArray, ← r4.length]
    have hh : X.A.in1.handled = none := I.ok.hd calm
    have zl : zp < s.heap.objs.size := Heap.lt_size hz
    refine py_item (vs := [v1.toArray, v2.toArray, v3.toArray, v4.toArray]) (i := i) hh S rfl (Nat.le_refl 4) hz hTI hTO x4 (by simp) (fun p j v hj hv => ?_) fun rs h' tk rsz rv zz o2 its tup sz kp => ?_
    · match p, hj, hv with
      | 0, hj, hv => cases hj; cases hv; exact ⟨⟨h1, p1.isList⟩, by omega⟩
      | 1, hj, hv => cases hj; cases hv; exact ⟨⟨h2, p2.isList⟩, by omega⟩
      | 2, hj, hv => cases hj; cases hv; exact ⟨⟨h3, p3.isList⟩, by omega⟩
      | 3, hj, hv => cases hj; cases hv; exact ⟨⟨h4, p4.isList⟩, by omega⟩
      | p + 4, hj, hv => cases hj
    obtain ⟨x1, x2, x3, x4, rfl⟩ : ∃ x1 x2 x3 x4 : Value, rs = #[x1, x2, x3, x4] := by
      obtain ⟨l⟩ := rs
      match l, rsz with
      | [x1, x2, x3, x4], _ => exact ⟨x1, x2, x3, x4, rfl⟩
    have g1 : v1.toArray[i]? = some x1 := rv 0 _ rfl
    have g2 : v2.toArray[i]? = some x2 := rv 1 _ rfl
    have g3 : v3.toArray[i]? = some x3 := rv 2 _ rfl
    have g4 : v4.toArray[i]? = some x4 := rv 3 _ rfl
    refine ⟨_, rfl, wpAny_letOwnedTupleGo_zip (s := { s with heap := h', toks := tk }) zz fun h'' z'' sb => ?_⟩
    have tup2 : h''.get? s.heap.objs.size = some { cls := .type "tuple", data := .seq #[x1, x2, x3, x4] } := (sb.2 _ (Nat.ne_of_gt zl)).trans tup
    obtain ⟨u1, e1, w1⟩ : ∃ u, xs[i]? = some u ∧ RelV u x1 := by
      have hx : xs[i]? = some xs[i] := List.getElem?_eq_getElem (by omega)
      obtain ⟨u, hu, ru⟩ := r1.get hx
      rw [← Array.getElem?_toList] at g1
      rw [show v1.toArray.toList = v1 from rfl, hu] at g1
      exact ⟨_, hx, Option.some.inj g1 ▸ ru⟩
    obtain ⟨u2, e2, w2⟩ : ∃ u, ys[i]? = some u ∧ RelV u x2 := by
      have hx : ys[i]? = some ys[i] := List.getElem?_eq_getElem (by omega)
      obtain ⟨u, hu, ru⟩ := r2.get hx
      rw [← Array.getElem?_toList] at g2
      rw [show v2.toArray.toList = v2 from rfl, hu] at g2
      exact ⟨_, hx, Option.some.inj g2 ▸ ru⟩
    obtain ⟨u3, e3, w3⟩ : ∃ u, zs[i]? = some u ∧ RelV u x3 := by
      have hx : zs[i]? = some zs[i] := List.getElem?_eq_getElem (by omega)
      obtain ⟨u, hu, ru⟩ := r3.get hx
      rw [← Array.getElem?_toList] at g3
      rw [show v3.toArray.toList = v3 from rfl, hu] at g3
      exact ⟨_, hx, Option.some.inj g3 ▸ ru⟩
    obtain ⟨u4, e4, w4⟩ : ∃ u, ws[i]? = some u ∧ RelV u x4 := by
      have hx : ws[i]? = some ws[i] := List.getElem?_eq_getElem (by omega)
      obtain ⟨u, hu, ru⟩ := r4.get hx
      rw [← Array.getElem?_toList] at g4
      rw [show v4.toArray.toList = v4 from rfl, hu] at g4
      exact ⟨_, hx, Option.some.inj g4 ▸ ru⟩
    have new : ObjOk X.prog X.w (upd H s.heap.objs.size (.tup [u1, u2, u3, u4])) h'' s.heap.objs.size (.tup [u1, u2, u3, u4]) :=
      ⟨by show 4 ≤ sizeLine; decide, [x1, x2, x3, x4], .cons w1 (.cons w2 (.cons w3 (.cons w4 .nil))), _, tup2, rfl, _, rfl⟩
    have kp2 : ∀ q o, q ∉ cells4 zp TI TO i1 i2 i3 i4 → s.heap.get? q = some o → h''.get? q = some o := fun q o nq e => by
      simp only [cells4, List.mem_cons, List.not_mem_nil, or_false, not_or] at nq
      exact (sb.2 q nq.1).trans (kp q o nq.1 nq.2.2.1 (by simp only [List.map_cons, List.map_nil, List.mem_cons, List.not_mem_nil, or_false, not_or]; exact nq.2.2.2) e)
    have I1 : Inv X pins σ (upd H s.heap.objs.size (.tup [u1, u2, u3, u4])) { s with heap := h'', toks := tk } := I.turnedNew (t' := tk) (ch := cells4 zp TI TO i1 i2 i3 i4) kp2 free (Nat.le_refl _) new
    refine ⟨.ref s.heap.objs.size, _, I1, rfl, ⟨_, u1, u2, u3, u4, rfl, I.hok.fresh (Nat.le_refl _), rfl, fun l hl => by rw [I.list_inj hl q1]; exact e1, fun l hl => by rw [I.list_inj hl q2]; exact e2, fun l hl => by rw [I.list_inj hl q3]; exact e3, fun l hl => by rw [I.list_inj hl q4]; exact e4⟩, ⟨z'', ?_, ⟨_, ?_, rsz⟩, ?_, ?_, ?_, ?_⟩, fun q hq => ?_⟩
    · refine (sb.2 _ S.iz).trans (kp _ _ S.iz S.io (fun m => ?_) hTI)
      obtain ⟨j, hj, e⟩ := List.mem_map.mp m
      exact S.ti j hj e.symm
    · exact (sb.2 _ S.oz).trans o2
    · exact (its 0 _ _ rfl rfl).1.at fun o e => (sb.2 _ (S.z1 (i1, a) (by simp)).symm).trans e
    · exact (its 1 _ _ rfl rfl).1.at fun o e => (sb.2 _ (S.z1 (i2, b) (by simp)).symm).trans e
    · exact (its 2 _ _ rfl rfl).1.at fun o e => (sb.2 _ (S.z1 (i3, c) (by simp)).symm).trans e
    · exact (its 3 _ _ rfl rfl).1.at fun o e => (sb.2 _ (S.z1 (i4, d) (by simp)).symm).trans e
    · have below : q < s.heap.objs.size := by
        simp only [cells4, List.mem_cons, List.not_mem_nil, or_false] at hq
        rcases hq with rfl | rfl | rfl | rfl | rfl | rfl | rfl
        · exact zl
        · exact Heap.lt_size hTI
        · exact Heap.lt_size hTO
        · obtain ⟨_, e, _⟩ := h1; exact Heap.lt_size e
        · obtain ⟨_, e, _⟩ := h2; exact Heap.lt_size e
        · obtain ⟨_, e, _⟩ := h3; exact Heap.lt_size e
        · obtain ⟨_, e, _⟩ := h4; exact Heap.lt_size e
      rw [upd_ne (Nat.ne_of_lt below)]
      exact (free q hq).1
  done := by
    rintro X rfl rfl rfl calm i pins s σ H E I free st ⟨xs, ys, zs, ws, q1, q2, q3, q4, l2, l3, l4, l1⟩
    obtain ⟨hz, hTI, ⟨xs0, hTO, x4⟩, h1, h2, h3, h4⟩ := st
    obtain ⟨v1, r1, p1, _⟩ := I.list q1
    have s1 : v1.toArray.size = i := by rw [List.size_toArray, ← r1.length, l1]
    have hh : X.A.in1.handled = none := I.ok.hd calm
    refine py_end (v0 := v1.toArray) hh S (Nat.le_refl 4) hz hTI rfl (by rw [s1]; exact ⟨h1, p1.isList⟩) fun h' tk kp => ⟨rfl, I.turnedL (t' := tk) (ch := cells4 zp TI TO i1 i2 i3 i4) (fun q o nq e => ?_) free⟩
    simp only [cells4, List.mem_cons, List.not_mem_nil, or_false, not_or] at nq
    exact kp q o nq.1 nq.2.2.1 (by simp only [List.map_cons, List.map_nil, List.mem_cons, List.not_mem_nil, or_false, not_or]; exact nq.2.2.2) e
  self A i s Q E st h := wpAny_pyIter_zip st.1 h
abbrev hT4 (h : Heap) (o1 o2 o3 o4 : Obj) : Heap := ((((h.push o1).push o2).push o3).push o4).push { cls := .type "tuple", data := .seq #[.ref h.objs.size, .ref (h.push o1).objs.size, .ref ((h.push o1).push o2).objs.size, .ref (((h.push o1).push o2).push o3).objs.size] }
abbrev hO4 (h : Heap) (o1 o2 o3 o4 : Obj) : Heap := (hT4 h o1 o2 o3 o4).push { cls := .type "tuple", data := .seq #[.none, .none, .none, .none] }
abbrev hZ4 (h : Heap) (o1 o2 o3 o4 : Obj) : Heap := (hO4 h o1 o2 o3 o4).push { cls := .type "zip", data := .fields #[.none, .bool false, .bool false, .ref ((((h.push o1).push o2).push o3).push o4).objs.size, .ref (hT4 h o1 o2 o3 o4).objs.size] }
theorem typeCall4 (a b c d : Value) : checkTypeCall "zip" ⟨[a, b, c, d], []⟩ = pure () := by kernel_rfl
theorem newCall4 (a b c d : Value) : checkBuiltinCall "zip.__new__" ⟨[.type "zip", a, b, c, d], []⟩ = pure () := by kernel_rfl
theorem initArgs5 (obj a b c d : Value) : argsOk "object.__init__" ⟨[obj, a, b, c, d], []⟩ := by unfold argsOk; kernel_rfl
theorem meets4 {v1 v2 v3 v4 : Value} {o1 o2 o3 o4 : Obj} {J1 J2 J3 J4 : Heap → Prop} (B1 : Begins v1 o1 J1) (B2 : Begins v2 o2 J2) (B3 : Begins v3 o3 J3) (B4 : Begins v4 o4 J4) :
    Meets (Builtin.«zip.__new__» ⟨[.type "zip", v1, v2, v3, v4], []⟩) (fun _ R s => (J1 s.heap ∧ J2 s.heap ∧ J3 s.heap ∧ J4 s.heap) ∧
      R (.ok (.ret (.ref (hO4 s.heap o1 o2 o3 o4).objs.size))) { s with heap := hZ4 s.heap o1 o2 o3 o4 }) :=
  .of_wp fun prog w A R s hh => by
    obtain ⟨h0, g, d, tk, os⟩ := s
    obtain ⟨⟨j1, j2, j3, j4⟩, hh⟩ := hh
    have hsub := sub_zip
    have q1 : ∀ {A' : Around} {E : Value → Shared → Prop} {Q : Value → Shared → Prop}, Q (.ref h0.objs.size) ⟨(h0.push o1), g, d, tk, os⟩ → wpAny (model prog w) A' (pyIter v1) Q E ⟨h0, g, d, tk, os⟩ :=
      fun q => B1.iter prog w _ _ ⟨h0, g, d, tk, os⟩ _ (B1.keeps _ _ j1 fun b o' e => e) q
    have q2 : ∀ {A' : Around} {E : Value → Shared → Prop} {Q : Value → Shared → Prop}, Q (.ref (h0.push o1).objs.size) ⟨((h0.push o1).push o2), g, d, tk, os⟩ → wpAny (model prog w) A' (pyIter v2) Q E ⟨(h0.push o1), g, d, tk, os⟩ :=
      fun q => B2.iter prog w _ _ ⟨(h0.push o1), g, d, tk, os⟩ _ (B2.keeps _ _ j2 fun b o' e => (Heap.get?_push_of_some _ e)) q
    have q3 : ∀ {A' : Around} {E : Value → Shared → Prop} {Q : Value → Shared → Prop}, Q (.ref ((h0.push o1).push o2).objs.size) ⟨(((h0.push o1).push o2).push o3), g, d, tk, os⟩ → wpAny (model prog w) A' (pyIter v3) Q E ⟨((h0.push o1).push o2), g, d, tk, os⟩ :=
      fun q => B3.iter prog w _ _ ⟨((h0.push o1).push o2), g, d, tk, os⟩ _ (B3.keeps _ _ j3 fun b o' e => (Heap.get?_push_of_some _ (Heap.get?_push_of_some _ e))) q
    have q4 : ∀ {A' : Around} {E : Value → Shared → Prop} {Q : Value → Shared → Prop}, Q (.ref (((h0.push o1).push o2).push o3).objs.size) ⟨((((h0.push o1).push o2).push o3).push o4), g, d, tk, os⟩ → wpAny (model prog w) A' (pyIter v4) Q E ⟨(((h0.push o1).push o2).push o3), g, d, tk, os⟩ :=
      fun q => B4.iter prog w _ _ ⟨(((h0.push o1).push o2).push o3), g, d, tk, os⟩ _ (B4.keeps _ _ j4 fun b o' e => (Heap.get?_push_of_some _ (Heap.get?_push_of_some _ (Heap.get?_push_of_some _ e)))) q
    wp_walk using q1, q2, q3, q4
    exact ⟨_, rfl, hh⟩
theorem begins4 {prog : Program} {w : World} {A : Around} {E : Value → Shared → Prop} {s : Shared} {v1 v2 v3 v4 : Value} {o1 o2 o3 o4 : Obj} {J1 J2 J3 J4 : Heap → Prop} {Q : Value → Shared → Prop} (B1 : Begins v1 o1 J1) (B2 : Begins v2 o2 J2) (B3 : Begins v3 o3 J3) (B4 : Begins v4 o4 J4) (j1 : J1 s.heap) (j2 : J2 s.heap) (j3 : J3 s.heap) (j4 : J4 s.heap)
    (h : ∀ h', IsZip h' (s.heap.objs.size + 6) (s.heap.objs.size + 4) (s.heap.objs.size + 5) .none → Tup4 h' (s.heap.objs.size + 4) #[.ref s.heap.objs.size, .ref (s.heap.objs.size + 1), .ref (s.heap.objs.size + 2), .ref (s.heap.objs.size + 3)] →
      Tup4 h' (s.heap.objs.size + 5) #[.none, .none, .none, .none] → h'.get? s.heap.objs.size = some o1 → h'.get? (s.heap.objs.size + 1) = some o2 → h'.get? (s.heap.objs.size + 2) = some o3 → h'.get? (s.heap.objs.size + 3) = some o4 →
      (∀ c o, s.heap.get? c = some o → h'.get? c = some o) → Q (.ref (s.heap.objs.size + 6)) { s with heap := h' }) :
    wpAny (model prog w) A (call (.type "zip") [v1, v2, v3, v4]) Q E s := by
  refine callType_new F.called_zip (by decide) (typeCall4 _ _ _ _) (newCall4 _ _ _ _) (fun obj => initArgs5 obj _ _ _ _) F.entry_zip_new (meets4 B1 B2 B3 B4) ⟨⟨j1, j2, j3, j4⟩, ?_⟩
  have k1 : (s.heap.push o1).objs.size = s.heap.objs.size + 1 := by rw [Heap.size_push]
  have k2 : ((s.heap.push o1).push o2).objs.size = s.heap.objs.size + 2 := by rw [Heap.size_push, k1]
  have k3 : (((s.heap.push o1).push o2).push o3).objs.size = s.heap.objs.size + 3 := by rw [Heap.size_push, k2]
  have k4 : ((((s.heap.push o1).push o2).push o3).push o4).objs.size = s.heap.objs.size + 4 := by rw [Heap.size_push, k3]
  have kT : (hT4 s.heap o1 o2 o3 o4).objs.size = s.heap.objs.size + 5 := by rw [Heap.size_push, k4]
  have kO : (hO4 s.heap o1 o2 o3 o4).objs.size = s.heap.objs.size + 6 := by rw [Heap.size_push, kT]
  have up : ∀ {h : Heap} {o o' : Obj} {c : Addr}, h.get? c = some o → (h.push o').get? c = some o := fun e => Heap.get?_push_of_some _ e
  have tZ : (hZ4 s.heap o1 o2 o3 o4).get? (hO4 s.heap o1 o2 o3 o4).objs.size = some { cls := .type "zip", data := .fields #[.none, .bool false, .bool false, .ref ((((s.heap.push o1).push o2).push o3).push o4).objs.size, .ref (hT4 s.heap o1 o2 o3 o4).objs.size] } := Heap.get?_push_size _ rfl
  have tO : (hZ4 s.heap o1 o2 o3 o4).get? (hT4 s.heap o1 o2 o3 o4).objs.size = some { cls := .type "tuple", data := .seq #[.none, .none, .none, .none] } := up (Heap.get?_push_size _ rfl)
  have tT : (hZ4 s.heap o1 o2 o3 o4).get? ((((s.heap.push o1).push o2).push o3).push o4).objs.size = some { cls := .type "tuple", data := .seq #[.ref s.heap.objs.size, .ref (s.heap.push o1).objs.size, .ref ((s.heap.push o1).push o2).objs.size, .ref (((s.heap.push o1).push o2).push o3).objs.size] } := up (up (Heap.get?_push_size _ rfl))
  have t1 : (hZ4 s.heap o1 o2 o3 o4).get? s.heap.objs.size = some o1 := up (up (up (up (up (up (Heap.get?_push_size _ B1.free))))))
  have t2 : (hZ4 s.heap o1 o2 o3 o4).get? (s.heap.push o1).objs.size = some o2 := up (up (up (up (up (Heap.get?_push_size _ B2.free)))))
  have t3 : (hZ4 s.heap o1 o2 o3 o4).get? ((s.heap.push o1).push o2).objs.size = some o3 := up (up (up (up (Heap.get?_push_size _ B3.free))))
  have t4 : (hZ4 s.heap o1 o2 o3 o4).get? (((s.heap.push o1).push o2).push o3).objs.size = some o4 := up (up (up (Heap.get?_push_size _ B4.free)))
  rw [kO, kT, k4] at tZ
  rw [kT] at tO
  rw [k4, k3, k2, k1] at tT
  rw [k1] at t2
  rw [k2] at t3
  rw [k3] at t4
  show _ ∧ _
  rw [kO]
  exact ⟨⟨_, tZ, rfl⟩, h _ tZ tT tO t1 t2 t3 t4 fun c o e => up (up (up (up (up (up (up e))))))⟩
def iZip4 (K : PySem.W.Frag) (ta : TA) : TI := fun σ H R => ta σ H fun vs H1 => ∃ a b c d xs ys zs ws, vs = [.ref a, .ref b, .ref c, .ref d] ∧ SqL K H1 a xs ∧ SqL K H1 b ys ∧ SqL K H1 c zs ∧ SqL K H1 d ws ∧ R (It4 K a b c d) H1
theorem pi_zip4 {X : Cx} {e e2 e3 e4 : Expr} {ta : TA} {p pos tpos : Pos} {elts : List Expr} {kk : Nat} (gl : Gl X "zip") (nm : X.mg "zip" = none) (args : PA X [e, e2, e3, e4] ta)
    (one : starEach [e, e2, e3, e4] X.env = (false, eval e X.env) :: starEach [e2, e3, e4] X.env := by rfl) (more : (backTo pos (starEach [e2, e3, e4] X.env)).any (·.1) = false := by rfl) :
    PI X (.Tuple elts kk tpos) (.Call (.Name "zip" p) [e, e2, e3, e4] [] pos) (iZip4 X.K ta) := by
  constructor
  intro pins s σ H R I had
  refine Call_ (ld_blt I gl nm PyProof.Rows.boot_zip (PyProof.Rows.callWith_type1 (thn (args.run pos pins s σ H _ I had) fun us s1 got => ?_) one more))
  obtain ⟨vs, H1, I1, rel, a, b, c, d, xs, ys, zs, ws, rfl, q1, q2, q3, q4, goal⟩ := got
  obtain ⟨u1, us, rfl, ra, rel⟩ : ∃ u us', us = u :: us' ∧ RelV (.ref a) u ∧ Vals [V.ref b, V.ref c, V.ref d] us' := by
    cases rel with
    | cons r rr => exact ⟨_, _, rfl, r, rr⟩
  obtain ⟨u2, us, rfl, rb, rel⟩ : ∃ u us', us = u :: us' ∧ RelV (.ref b) u ∧ Vals [V.ref c, V.ref d] us' := by
    cases rel with
    | cons r rr => exact ⟨_, _, rfl, r, rr⟩
  obtain ⟨u3, u4, rfl, rc, rd⟩ := vals2 rel
  cases (show u1 = Value.ref a from ra)
  cases (show u2 = Value.ref b from rb)
  cases (show u3 = Value.ref c from rc)
  cases (show u4 = Value.ref d from rd)
  obtain ⟨v1, r1, p1, _⟩ := I1.list q1
  obtain ⟨v2, r2, p2, _⟩ := I1.list q2
  obtain ⟨v3, r3, p3, _⟩ := I1.list q3
  obtain ⟨v4, r4, p4, _⟩ := I1.list q4
  have la := Nat.lt_of_lt_of_le p1.lt (Nat.le_refl _)
  have lb := Nat.lt_of_lt_of_le p2.lt (Nat.le_refl _)
  have lc := Nat.lt_of_lt_of_le p3.lt (Nat.le_refl _)
  have ld := Nat.lt_of_lt_of_le p4.lt (Nat.le_refl _)
  refine begins4 (begins_list a v1.toArray) (begins_list b v2.toArray) (begins_list c v3.toArray) (begins_list d v4.toArray) p1.isList p2.isList p3.isList p4.isList fun h' hz hTI hTO g1 g2 g3 g4 kp => wpAny_pyIter_zip hz ?_
  have I2 : Inv X pins σ H1 { s1 with heap := h' } := I1.kept (t' := s1.toks) kp
  have S : Sep (s1.heap.objs.size + 6) (s1.heap.objs.size + 4) (s1.heap.objs.size + 5) [(s1.heap.objs.size, a), (s1.heap.objs.size + 1, b), (s1.heap.objs.size + 2, c), (s1.heap.objs.size + 3, d)] := by
    have e4 : ∀ {p : Addr × Addr → Prop}, p (s1.heap.objs.size, a) → p (s1.heap.objs.size + 1, b) → p (s1.heap.objs.size + 2, c) → p (s1.heap.objs.size + 3, d) → ∀ j ∈ [(s1.heap.objs.size, a), (s1.heap.objs.size + 1, b), (s1.heap.objs.size + 2, c), (s1.heap.objs.size + 3, d)], p j := fun {p} y1 y2 y3 y4 j hj => by
      simp only [List.mem_cons, List.not_mem_nil, or_false] at hj
      rcases hj with rfl | rfl | rfl | rfl
      · exact y1
      · exact y2
      · exact y3
      · exact y4
    refine ⟨Nat.ne_of_lt (by omega), Nat.ne_of_lt (by omega), Nat.ne_of_lt (by omega), e4 (Nat.ne_of_gt (by omega)) (Nat.ne_of_gt (by omega)) (Nat.ne_of_gt (by omega)) (Nat.ne_of_gt (by omega)), e4 (Nat.ne_of_gt (by omega)) (Nat.ne_of_gt (by omega)) (Nat.ne_of_gt (by omega)) (Nat.ne_of_gt (by omega)), e4 (Nat.ne_of_gt (by omega)) (Nat.ne_of_gt (by omega)) (Nat.ne_of_gt (by omega)) (Nat.ne_of_gt (by omega)), e4 (Nat.ne_of_gt (by omega)) (Nat.ne_of_gt (by omega)) (Nat.ne_of_gt (by omega)) (Nat.ne_of_gt (by omega)), e4 (Nat.ne_of_gt (by omega)) (Nat.ne_of_gt (by omega)) (Nat.ne_of_gt (by omega)) (Nat.ne_of_gt (by omega)), ?_, ?_⟩
    · simp only [List.map_cons, List.map_nil, List.nodup_cons, List.mem_cons, List.not_mem_nil, or_false, not_or, List.nodup_nil]
      exact ⟨⟨Nat.ne_of_lt (by omega), Nat.ne_of_lt (by omega), Nat.ne_of_lt (by omega)⟩, ⟨Nat.ne_of_lt (by omega), Nat.ne_of_lt (by omega)⟩, Nat.ne_of_lt (by omega), not_false, trivial⟩
    · exact e4 (e4 (Nat.ne_of_lt (by omega)) (Nat.ne_of_lt (by omega)) (Nat.ne_of_lt (by omega)) (Nat.ne_of_lt (by omega))) (e4 (Nat.ne_of_lt (by omega)) (Nat.ne_of_lt (by omega)) (Nat.ne_of_lt (by omega)) (Nat.ne_of_lt (by omega))) (e4 (Nat.ne_of_lt (by omega)) (Nat.ne_of_lt (by omega)) (Nat.ne_of_lt (by omega)) (Nat.ne_of_lt (by omega))) (e4 (Nat.ne_of_lt (by omega)) (Nat.ne_of_lt (by omega)) (Nat.ne_of_lt (by omega)) (Nat.ne_of_lt (by omega)))
  refine ⟨s1.heap.objs.size + 6, cells4 (s1.heap.objs.size + 6) (s1.heap.objs.size + 4) (s1.heap.objs.size + 5) s1.heap.objs.size (s1.heap.objs.size + 1) (s1.heap.objs.size + 2) (s1.heap.objs.size + 3), _, _, H1, rfl, I2, turn4 S, ⟨hz, hTI, ⟨_, hTO, rfl⟩, ⟨_, g1, rfl, rfl⟩, ⟨_, g2, rfl, rfl⟩, ⟨_, g3, rfl, rfl⟩, ⟨_, g4, rfl, rfl⟩⟩, fun q hq => ?_, goal⟩
  have le : s1.heap.objs.size ≤ q := by
    simp only [cells4, List.mem_cons, List.not_mem_nil, or_false] at hq
    rcases hq with rfl | rfl | rfl | rfl | rfl | rfl | rfl
    all_goals first | exact Nat.le_refl _ | exact Nat.le_add_right _ _
  exact I1.fpOk le (I1.hok.fresh le)
/-- a new tuple of the four i-th ones -/
def YQua (xs ys zs ws : List V) : Nat → Hp → V → Hp → Prop := fun i H v H' => ∃ T x y z u, v = .ref T ∧ H T = none ∧ H' = upd H T (.tup [x, y, z, u]) ∧ xs[i]? = some x ∧ ys[i]? = some y ∧ zs[i]? = some z ∧ ws[i]? = some u
theorem walk_zip4 {K : PySem.W.Frag} {a b c d : Addr} {xs ys zs ws : List V} (l2 : ys.length = xs.length) (l3 : zs.length = xs.length) (l4 : ws.length = xs.length) : Walk (It4 K a b c d) xs.length (fun H => SqL K H a xs ∧ SqL K H b ys ∧ SqL K H c zs ∧ SqL K H d ws) (YQua xs ys zs ws) where
  goes _ _ lt q := ⟨xs, ys, zs, ws, q.1, q.2.1, q.2.2.1, q.2.2.2, l2, l3, l4, lt⟩
  stops _ q := ⟨xs, ys, zs, ws, q.1, q.2.1, q.2.2.1, q.2.2.2, l2, l3, l4, rfl⟩
  yields _ _ _ _ _ q := fun ⟨T, x, y, z, u, e1, e2, e3, e4, e5, e6, e7⟩ => ⟨T, x, y, z, u, e1, e2, e3, e4 xs q.1, e5 ys q.2.1, e6 zs q.2.2.1, e7 ws q.2.2.2⟩
end RZ4

namespace Pv
open PySem L2
/-! ### error classes -/
def veM (M : Addr) : List Value := [.ref M, .type "ValueError", .type "Exception", .type "BaseException", .type "object"]
structure ErrK (K : PySem.W.Frag) (mg : Str → Option Value) (M C : Addr) (x : Str) : Prop where
  g : mg x = some (.ref C)
  k : PySem.W.keepIn K (.ref C) = true
  l : ∃ nm q N bs sn sub ab col dd k0 k1 k2 k3 k5, K.lookup C = some (excClassObj nm q C N bs (veM M) true sn sub ab col dd k0 k1 k2 k3 k5 "ValueError.__new__")
  sa : PySem.W.findIn K (.ref C) "__setattr__" = some (some (.builtin "object.__setattr__"))
  ga : PySem.W.findIn K (.ref C) "__getattribute__" = some (some (.builtin "BaseException.__getattribute__"))
  gg : PySem.W.findIn K (.ref C) "__getattr__" = some none
  ca : PySem.W.findIn K (.ref C) "__class__" = some (some (.builtin "object.__class__"))
structure ErrM (K : PySem.W.Frag) (mg : Str → Option Value) (M : Addr) : Prop where
  g : mg "MendError" = some (.ref M)
  l : ∃ nm q N bs bm sn sub ab col dd k0 k1 k2 k3 k5, K.lookup M = some (excClassObj nm q M N bs bm true sn sub ab col dd k0 k1 k2 k3 k5 "ValueError.__new__")
structure ErrF (K : PySem.W.Frag) (C I : Addr) (qual f : Str) (st : Stmt) : Prop where
  i : PySem.W.findIn K (.ref C) "__init__" = some (some (.ref I))
  t : PySem.W.typeIn K (.ref I) = some (.type "function")
  nf : PySem.W.findIn K (.ref C) f = some none
  fn : ∃ fd, Fun K "__init__" qual st I fd
section
variable {K : PySem.W.Frag} {mg : Str → Option Value} {M C D : Addr} {x : Str}
theorem ErrK.ty (E : ErrK K mg M C x) : PySem.W.typeIn K (.ref C) = some (.type "type") := by
  obtain ⟨nm, q, N, bs, sn, sub, ab, col, dd, k0, k1, k2, k3, k5, h⟩ := E.l
  show (K.lookup C).map (·.cls) = _
  rw [h]
  rfl
theorem ErrM.ty (E : ErrM K mg M) : PySem.W.typeIn K (.ref M) = some (.type "type") := by
  obtain ⟨nm, q, N, bs, bm, sn, sub, ab, col, dd, k0, k1, k2, k3, k5, h⟩ := E.l
  show (K.lookup M).map (·.cls) = _
  rw [h]
  rfl
theorem ErrM.cls (E : ErrM K mg M) : (PySem.W.clsIn K M).isSome = true := by
  obtain ⟨nm, q, N, bs, bm, sn, sub, ab, col, dd, k0, k1, k2, k3, k5, h⟩ := E.l
  unfold PySem.W.clsIn
  rw [h]
  rfl
theorem ErrK.mro (E : ErrK K mg M C x) (v : Value) : PySem.W.mroIn K C v = some ((Value.ref C :: veM M).contains v) := by
  obtain ⟨nm, q, N, bs, sn, sub, ab, col, dd, k0, k1, k2, k3, k5, h⟩ := E.l
  unfold PySem.W.mroIn PySem.W.clsIn
  rw [h]
  rfl
theorem ErrK.cls (E : ErrK K mg M C x) : (PySem.W.clsIn K C).isSome = true := by
  obtain ⟨nm, q, N, bs, sn, sub, ab, col, dd, k0, k1, k2, k3, k5, h⟩ := E.l
  unfold PySem.W.clsIn
  rw [h]
  rfl
theorem ErrK.hd (E : ErrK K mg M C x) : PySem.W.hasDictIn K C = true := by
  obtain ⟨nm, q, N, bs, sn, sub, ab, col, dd, k0, k1, k2, k3, k5, h⟩ := E.l
  unfold PySem.W.hasDictIn PySem.W.clsIn
  rw [h]
  rfl
theorem ErrK.sub (E : ErrK K mg M C x) : PySem.W.subIn K (.ref C) (.type "BaseException") = some true := by
  show PySem.W.mroIn K C _ = _
  rw [E.mro]
  simp [veM]
theorem ErrK.xfc (E : ErrK K mg M C x) : XfC K C := ⟨E.ga, E.gg, E.sub, E.hd⟩
theorem ErrK.oex (E : ErrK K mg M C x) : OexC K C := by
  obtain ⟨nm, q, N, bs, sn, sub, ab, col, dd, k0, k1, k2, k3, k5, h⟩ := E.l
  exact ⟨⟨nm, q, N, bs, veM M, sn, sub, ab, col, dd, k0, k1, k2, k3, k5, h, rfl⟩, E.sa, E.sub, E.ty, E.k⟩
theorem ErrK.exc (E : ErrK K mg M C x) (cn : PySem.W.specialIn K (.builtin "object.__class__") "__get__" = some (some (.builtin "getset_descriptor.__get__"))) (ct : PySem.W.takesIn K (.builtin "object.__class__") = some true) : ExcC K C :=
  ⟨E.ga, E.gg, E.sub, E.hd, E.ca, cn, ct, by rw [E.mro]; simp [veM]⟩
theorem kitCls_ref {t : Value} (h1 : (PySem.W.clsIn K D).isSome = true) (h2 : PySem.W.typeIn K (.ref D) = some (.type "type")) : PySem.W.kitCls K t (.ref D) = PySem.W.subIn K t (.ref D) := by
  show (if ((PySem.W.clsIn K D).isSome && PySem.W.typeIn K (.ref D) == some (.type "type")) = true then PySem.W.subIn K t (.ref D) else none) = _
  rw [h1, h2, if_pos (by simp)]
/-- isinstance against the class itself, its base, ValueError, another class -/
theorem kit_self : PySem.W.kitOne K (.ref C) (.ref C) = some true := by
  unfold PySem.W.kitOne
  rw [if_pos (by simp)]
theorem ErrK.kit_ne {y : Str} (E : ErrK K mg M C x) (F : ErrK K mg M D y) (h : C ≠ D) (hM : M ≠ D) : PySem.W.kitOne K (.ref C) (.ref D) = some false := by
  unfold PySem.W.kitOne
  rw [if_neg (by simp [h])]
  rw [kitCls_ref F.cls F.ty]
  show PySem.W.mroIn K C _ = _
  rw [E.mro]
  have h1 : D ≠ C := fun z => h z.symm
  have h2 : D ≠ M := fun z => hM z.symm
  simp [veM, h1, h2]
theorem ErrK.kit_base (E : ErrK K mg M C x) (F : ErrM K mg M) (h : C ≠ M) : PySem.W.kitOne K (.ref C) (.ref M) = some true := by
  unfold PySem.W.kitOne
  rw [if_neg (by simp [h])]
  rw [kitCls_ref F.cls F.ty]
  show PySem.W.mroIn K C _ = _
  rw [E.mro]
  simp [veM]
theorem ErrK.kit_ve (E : ErrK K mg M C x) : PySem.W.kitOne K (.ref C) (.type "ValueError") = some true := by
  unfold PySem.W.kitOne
  rw [if_neg (by simp)]
  unfold PySem.W.kitCls
  show (if PySem.W.kitMeta "ValueError" = true then PySem.W.mroIn K C (.type "ValueError") else none) = _
  rw [if_pos (by decide +kernel), E.mro]
  simp [veM]
theorem ErrK.exm (E : ErrK K mg M C x) : PySem.W.exmOne K (.ref C) (.ref C) = some true := by
  unfold PySem.W.exmOne
  rw [E.sub, if_pos (by simp)]
  rw [kitCls_ref E.cls E.ty]
  show PySem.W.mroIn K C _ = _
  rw [E.mro]
  simp
theorem ErrK.exm_ne {y : Str} (E : ErrK K mg M C x) (F : ErrK K mg M D y) (h : C ≠ D) (hM : M ≠ D) : PySem.W.exmOne K (.ref C) (.ref D) = some false := by
  unfold PySem.W.exmOne
  rw [F.sub, if_pos (by simp)]
  rw [kitCls_ref F.cls F.ty]
  show PySem.W.mroIn K C _ = _
  rw [E.mro]
  have h1 : D ≠ C := fun z => h z.symm
  have h2 : D ≠ M := fun z => hM z.symm
  simp [veM, h1, h2]
end
def word : Nat → Str
  | 0 => "free" | 1 => "pair" | 2 => "claim" | 3 => "hook" | 4 => "relay" | 5 => "clamp" | 6 => "trail" | _ => "wheel"
def wordsV : List V := [.str "free", .str "pair", .str "claim", .str "hook", .str "relay", .str "clamp", .str "trail", .str "wheel"]
def formsT : List (List Nat × Str) := [([0], "free"), ([1, 0], "pair"), ([1, 1], "claim"), ([1, 2, 1], "hook"), ([1, 2, 2], "relay"), ([1, 2, 1, 2], "clamp"), ([1, 2, 3, 2], "trail"), ([1, 2, 3, 0], "wheel")]
/-- a def with its promise: how it binds, too -/
def Okd (P : Program) (w : World) (K : PySem.W.Frag) (mg : Str → Option Value) (base : Heap) (CX : CXT) (k : Nat) (f : Addr) (ps : List Str) (sp : Sp) : Prop := ∃ fd, FnOk P w K mg base CX k f fd ps sp ∧ Binds K fd ps []
/-- a def called where an exception is handled, with its promise -/
def Okh (P : Program) (w : World) (K : PySem.W.Frag) (mg : Str → Option Value) (base : Heap) (CX : CXT) (k : Nat) (f : Addr) (ps : List Str) (sp : Sp) : Prop := ∃ fd, L2H.FnH P w K mg base CX k f fd ps sp ∧ Binds K fd ps []
/-! ### the text -/
def top (i : Nat) : Stmt := PySem.Challenge.pw_peermend_k20_whole_clash_of_every_kind.main.body.getD i (.Pass ⟨0, 0, 0, 0⟩)
abbrev s_check_kind : Stmt := top 7
abbrev s_sample_rows : Stmt := top 8
abbrev s_is_entry : Stmt := top 9
abbrev s_paired : Stmt := top 10
abbrev s_m_init : Stmt := inClass (top 13) 0
abbrev s_m_holds : Stmt := inClass (top 13) 1
abbrev s_kind_clash : Stmt := top 14
abbrev s_first_clash : Stmt := top 15
abbrev s_first_unsafe : Stmt := top 16
abbrev s_clash_between : Stmt := top 17
abbrev s_rest_after : Stmt := top 18
abbrev s_renamed : Stmt := top 19
abbrev s_own_rows : Stmt := top 20
abbrev s_is_torn : Stmt := top 21
abbrev s_other_way : Stmt := top 22
abbrev s_law_whole : Stmt := top 24
abbrev s_law_bag : Stmt := top 25
abbrev s_law_draw : Stmt := top 26
abbrev s_law_part : Stmt := top 27
abbrev s_law_kind : Stmt := top 28
abbrev s_law_tame : Stmt := top 29
abbrev s_law_bent_kind : Stmt := top 30
abbrev s_law_entry_right : Stmt := top 31
abbrev s_law_kind_right : Stmt := top 32
abbrev s_law_safe : Stmt := top 33
abbrev s_law_kinds : Stmt := top 34
abbrev s_law_alone : Stmt := top 35
abbrev s_law_holds : Stmt := top 36
abbrev s_law_kind_of : Stmt := top 37
abbrev s_law_state_right : Stmt := top 38
abbrev s_law_clash_right : Stmt := top 39
abbrev s_law_met_kind : Stmt := top 40
abbrev s_law_call : Stmt := top 41
abbrev s_law_met_first : Stmt := top 42
abbrev s_law_one_right : Stmt := top 43
abbrev s_law_first_right : Stmt := top 44
abbrev s_law : Stmt := top 45
structure Ad where
  check_kind : Addr
  sample_rows : Addr
  is_entry : Addr
  paired : Addr
  m_init : Addr
  m_holds : Addr
  kind_clash : Addr
  first_clash : Addr
  first_unsafe : Addr
  clash_between : Addr
  rest_after : Addr
  renamed : Addr
  own_rows : Addr
  is_torn : Addr
  other_way : Addr
  law_whole : Addr
  law_bag : Addr
  law_draw : Addr
  law_part : Addr
  law_kind : Addr
  law_tame : Addr
  law_bent_kind : Addr
  law_entry_right : Addr
  law_kind_right : Addr
  law_safe : Addr
  law_kinds : Addr
  law_alone : Addr
  law_holds : Addr
  law_kind_of : Addr
  law_state_right : Addr
  law_clash_right : Addr
  law_met_kind : Addr
  law_call : Addr
  law_met_first : Addr
  law_one_right : Addr
  law_first_right : Addr
  law : Addr
  SAFE_KINDS : Addr
  MendError : Addr
  InvalidUpdate : Addr
  InvalidKind : Addr
  InvalidChange : Addr
  InvalidOrder : Addr
  Clash : Addr
abbrev N_check_kind : List Str := ["kind", "entry"]
abbrev P_check_kind : List Str := ["kind"]
theorem sc_check_kind : FnScope N_check_kind P_check_kind (defScope s_check_kind) := ⟨rfl, rfl, rfl, by decide +kernel, rfl, by decide +kernel, by decide +kernel⟩
abbrev N_sample_rows : List Str := ["kind", "before", "after", "shape", "length", "gain", "start", "first", "second"]
abbrev P_sample_rows : List Str := ["kind"]
theorem sc_sample_rows : FnScope N_sample_rows P_sample_rows (defScope s_sample_rows) := ⟨rfl, rfl, rfl, by decide +kernel, rfl, by decide +kernel, by decide +kernel⟩
abbrev N_is_entry : List Str := ["entry", "shape", "length", "gain"]
abbrev P_is_entry : List Str := ["entry"]
theorem sc_is_entry : FnScope N_is_entry P_is_entry (defScope s_is_entry) := ⟨rfl, rfl, rfl, by decide +kernel, rfl, by decide +kernel, by decide +kernel⟩
abbrev N_paired : List Str := ["start", "length", "skipped", "names", "place"]
abbrev P_paired : List Str := ["start", "length", "skipped"]
theorem sc_paired : FnScope N_paired P_paired (defScope s_paired) := ⟨rfl, rfl, rfl, by decide +kernel, rfl, by decide +kernel, by decide +kernel⟩
abbrev N_m_init : List Str := ["self", "first", "second", "image"]
abbrev P_m_init : List Str := ["self", "first", "second", "image"]
theorem sc_m_init : FnScope N_m_init P_m_init (defScope s_m_init) := ⟨rfl, rfl, rfl, by decide +kernel, rfl, by decide +kernel, by decide +kernel⟩
abbrev N_m_holds : List Str := ["self", "row"]
abbrev P_m_holds : List Str := ["self"]
theorem sc_m_holds : FnScope N_m_holds P_m_holds (defScope s_m_holds) := ⟨rfl, rfl, rfl, by decide +kernel, rfl, by decide +kernel, by decide +kernel⟩
abbrev N_kind_clash : List Str := ["kind", "first"]
abbrev P_kind_clash : List Str := ["kind"]
theorem sc_kind_clash : FnScope N_kind_clash P_kind_clash (defScope s_kind_clash) := ⟨rfl, rfl, rfl, by decide +kernel, rfl, by decide +kernel, by decide +kernel⟩
abbrev N_first_clash : List Str := ["kinds", "number"]
abbrev P_first_clash : List Str := ["kinds"]
theorem sc_first_clash : FnScope N_first_clash P_first_clash (defScope s_first_clash) := ⟨rfl, rfl, rfl, by decide +kernel, rfl, by decide +kernel, by decide +kernel⟩
abbrev N_first_unsafe : List Str := ["kinds", "kind", "number"]
abbrev P_first_unsafe : List Str := ["kinds"]
theorem sc_first_unsafe : FnScope N_first_unsafe P_first_unsafe (defScope s_first_unsafe) := ⟨rfl, rfl, rfl, by decide +kernel, rfl, by decide +kernel, by decide +kernel⟩
abbrev N_clash_between : List Str := ["first", "second", "image", "old", "new", "one", "other"]
abbrev P_clash_between : List Str := ["first", "second"]
theorem sc_clash_between : FnScope N_clash_between P_clash_between (defScope s_clash_between) := ⟨rfl, rfl, rfl, by decide +kernel, rfl, by decide +kernel, by decide +kernel⟩
abbrev N_rest_after : List Str := ["update", "records", "before", "after", "row", "name", "record"]
abbrev P_rest_after : List Str := ["update", "records"]
theorem sc_rest_after : FnScope N_rest_after P_rest_after (defScope s_rest_after) := ⟨rfl, rfl, rfl, by decide +kernel, rfl, by decide +kernel, by decide +kernel⟩
abbrev N_renamed : List Str := ["row", "names", "found", "record", "name"]
abbrev P_renamed : List Str := ["row", "names"]
theorem sc_renamed : FnScope N_renamed P_renamed (defScope s_renamed) := ⟨rfl, rfl, rfl, by decide +kernel, rfl, by decide +kernel, by decide +kernel⟩
abbrev N_own_rows : List Str := ["update", "before", "after"]
abbrev P_own_rows : List Str := ["update"]
theorem sc_own_rows : FnScope N_own_rows P_own_rows (defScope s_own_rows) := ⟨rfl, rfl, rfl, by decide +kernel, rfl, by decide +kernel, by decide +kernel⟩
abbrev N_is_torn : List Str := ["update", "image", "before", "after", "name", "new", "old"]
abbrev P_is_torn : List Str := ["update", "image"]
theorem sc_is_torn : FnScope N_is_torn P_is_torn (defScope s_is_torn) := ⟨rfl, rfl, rfl, by decide +kernel, rfl, by decide +kernel, by decide +kernel⟩
abbrev N_other_way : List Str := ["update", "before", "after", "names"]
abbrev P_other_way : List Str := ["update"]
theorem sc_other_way : FnScope N_other_way P_other_way (defScope s_other_way) := ⟨rfl, rfl, rfl, by decide +kernel, rfl, by decide +kernel, by decide +kernel⟩
abbrev N_law_whole : List Str := ["told"]
abbrev P_law_whole : List Str := ["told"]
theorem sc_law_whole : FnScope N_law_whole P_law_whole (defScope s_law_whole) := ⟨rfl, rfl, rfl, by decide +kernel, rfl, by decide +kernel, by decide +kernel⟩
abbrev N_law_bag : List Str := ["script", "cells", "seed", "cell"]
abbrev P_law_bag : List Str := ["script"]
theorem sc_law_bag : FnScope N_law_bag P_law_bag (defScope s_law_bag) := ⟨rfl, rfl, rfl, by decide +kernel, rfl, by decide +kernel, by decide +kernel⟩
abbrev N_law_draw : List Str := ["bag", "many", "cell", "digit", "mixed"]
abbrev P_law_draw : List Str := ["bag", "many"]
theorem sc_law_draw : FnScope N_law_draw P_law_draw (defScope s_law_draw) := ⟨rfl, rfl, rfl, by decide +kernel, rfl, by decide +kernel, by decide +kernel⟩
abbrev N_law_part : List Str := ["bag", "room", "pick", "wide", "top", "length"]
abbrev P_law_part : List Str := ["bag", "room"]
theorem sc_law_part : FnScope N_law_part P_law_part (defScope s_law_part) := ⟨rfl, rfl, rfl, by decide +kernel, rfl, by decide +kernel, by decide +kernel⟩
abbrev N_law_kind : List Str := ["bag", "most", "pick", "count", "row", "turn", "room", "part"]
abbrev P_law_kind : List Str := ["bag", "most"]
theorem sc_law_kind : FnScope N_law_kind P_law_kind (defScope s_law_kind) := ⟨rfl, rfl, rfl, by decide +kernel, rfl, by decide +kernel, by decide +kernel⟩
abbrev N_law_tame : List Str := ["bag", "pick"]
abbrev P_law_tame : List Str := ["bag"]
theorem sc_law_tame : FnScope N_law_tame P_law_tame (defScope s_law_tame) := ⟨rfl, rfl, rfl, by decide +kernel, rfl, by decide +kernel, by decide +kernel⟩
abbrev N_law_bent_kind : List Str := ["bag", "kind", "how", "more", "sign", "place", "placed", "word", "odd", "row"]
abbrev P_law_bent_kind : List Str := ["bag", "kind"]
theorem sc_law_bent_kind : FnScope N_law_bent_kind P_law_bent_kind (defScope s_law_bent_kind) := ⟨rfl, rfl, rfl, by decide +kernel, rfl, by decide +kernel, by decide +kernel⟩
abbrev N_law_entry_right : List Str := ["entry"]
abbrev P_law_entry_right : List Str := ["entry"]
theorem sc_law_entry_right : FnScope N_law_entry_right P_law_entry_right (defScope s_law_entry_right) := ⟨rfl, rfl, rfl, by decide +kernel, rfl, by decide +kernel, by decide +kernel⟩
abbrev N_law_kind_right : List Str := ["kind", "k"]
abbrev P_law_kind_right : List Str := ["kind"]
theorem sc_law_kind_right : FnScope N_law_kind_right P_law_kind_right (defScope s_law_kind_right) := ⟨rfl, rfl, rfl, by decide +kernel, rfl, by decide +kernel, by decide +kernel⟩
abbrev N_law_safe : List Str := ["kind", "plain"]
abbrev P_law_safe : List Str := ["kind"]
theorem sc_law_safe : FnScope N_law_safe P_law_safe (defScope s_law_safe) := ⟨rfl, rfl, rfl, by decide +kernel, rfl, by decide +kernel, by decide +kernel⟩
abbrev N_law_kinds : List Str := ["bag", "count", "most", "tame", "spoil", "row", "turn", "place"]
abbrev P_law_kinds : List Str := ["bag", "count", "most"]
theorem sc_law_kinds : FnScope N_law_kinds P_law_kinds (defScope s_law_kinds) := ⟨rfl, rfl, rfl, by decide +kernel, rfl, by decide +kernel, by decide +kernel⟩
abbrev N_law_alone : List Str := ["raised", "other"]
abbrev P_law_alone : List Str := ["raised"]
theorem sc_law_alone : FnScope N_law_alone P_law_alone (defScope s_law_alone) := ⟨rfl, rfl, rfl, by decide +kernel, rfl, by decide +kernel, by decide +kernel⟩
abbrev N_law_holds : List Str := ["rows", "size", "row", "k"]
abbrev P_law_holds : List Str := ["rows"]
theorem sc_law_holds : FnScope N_law_holds P_law_holds (defScope s_law_holds) := ⟨rfl, rfl, rfl, by decide +kernel, rfl, by decide +kernel, by decide +kernel⟩
abbrev N_law_kind_of : List Str := ["before", "after", "seen", "found", "start", "line", "step", "y", "old", "new", "x"]
abbrev P_law_kind_of : List Str := ["before", "after"]
theorem sc_law_kind_of : FnScope N_law_kind_of P_law_kind_of (defScope s_law_kind_of) := ⟨rfl, rfl, rfl, by decide +kernel, rfl, by decide +kernel, by decide +kernel⟩
abbrev N_law_state_right : List Str := ["row", "size", "x"]
abbrev P_law_state_right : List Str := ["row", "size"]
theorem sc_law_state_right : FnScope N_law_state_right P_law_state_right (defScope s_law_state_right) := ⟨rfl, rfl, rfl, by decide +kernel, rfl, by decide +kernel, by decide +kernel⟩
abbrev N_law_clash_right : List Str := ["told", "kind", "size", "rows", "both", "row", "image", "part", "x"]
abbrev P_law_clash_right : List Str := ["told", "kind"]
theorem sc_law_clash_right : FnScope N_law_clash_right P_law_clash_right (defScope s_law_clash_right) := ⟨rfl, rfl, rfl, by decide +kernel, rfl, by decide +kernel, by decide +kernel⟩
abbrev N_law_met_kind : List Str := ["kind", "raised"]
abbrev P_law_met_kind : List Str := ["kind"]
theorem sc_law_met_kind : FnScope N_law_met_kind P_law_met_kind (defScope s_law_met_kind) := ⟨rfl, rfl, rfl, by decide +kernel, rfl, by decide +kernel, by decide +kernel⟩
abbrev N_law_call : List Str := ["row"]
abbrev P_law_call : List Str := ["row"]
theorem sc_law_call : FnScope N_law_call P_law_call (defScope s_law_call) := ⟨rfl, rfl, rfl, by decide +kernel, rfl, by decide +kernel, by decide +kernel⟩
abbrev N_law_met_first : List Str := ["row", "raised"]
abbrev P_law_met_first : List Str := ["row"]
theorem sc_law_met_first : FnScope N_law_met_first P_law_met_first (defScope s_law_met_first) := ⟨rfl, rfl, rfl, by decide +kernel, rfl, by decide +kernel, by decide +kernel⟩
abbrev N_law_one_right : List Str := ["kind", "met"]
abbrev P_law_one_right : List Str := ["kind"]
theorem sc_law_one_right : FnScope N_law_one_right P_law_one_right (defScope s_law_one_right) := ⟨rfl, rfl, rfl, by decide +kernel, rfl, by decide +kernel, by decide +kernel⟩
abbrev N_law_first_right : List Str := ["row", "met", "kind", "k"]
abbrev P_law_first_right : List Str := ["row"]
theorem sc_law_first_right : FnScope N_law_first_right P_law_first_right (defScope s_law_first_right) := ⟨rfl, rfl, rfl, by decide +kernel, rfl, by decide +kernel, by decide +kernel⟩
abbrev N_law : List Str := ["script", "bag", "wide", "count", "row", "kind"]
abbrev P_law : List Str := ["script"]
theorem sc_law : FnScope N_law P_law (defScope s_law) := ⟨rfl, rfl, rfl, by decide +kernel, rfl, by decide +kernel, by decide +kernel⟩
structure Txt (K : PySem.W.Frag) (mg : Str → Option Value) (A : Ad) : Prop where
  g_check_kind : mg "check_kind" = some (.ref A.check_kind)
  k_check_kind : PySem.W.keepIn K (.ref A.check_kind) = true
  d_check_kind : ∃ fd, Fun K "check_kind" "check_kind" s_check_kind A.check_kind fd
  g_sample_rows : mg "sample_rows" = some (.ref A.sample_rows)
  k_sample_rows : PySem.W.keepIn K (.ref A.sample_rows) = true
  d_sample_rows : ∃ fd, Fun K "sample_rows" "sample_rows" s_sample_rows A.sample_rows fd
  g_is_entry : mg "_is_entry" = some (.ref A.is_entry)
  k_is_entry : PySem.W.keepIn K (.ref A.is_entry) = true
  d_is_entry : ∃ fd, Fun K "_is_entry" "_is_entry" s_is_entry A.is_entry fd
  g_paired : mg "_paired" = some (.ref A.paired)
  k_paired : PySem.W.keepIn K (.ref A.paired) = true
  d_paired : ∃ fd, Fun K "_paired" "_paired" s_paired A.paired fd
  d_m_init : ∃ fd, Fun K "__init__" "Clash.__init__" s_m_init A.m_init fd
  d_m_holds : ∃ fd, Fun K "holds" "Clash.holds" s_m_holds A.m_holds fd
  g_kind_clash : mg "kind_clash" = some (.ref A.kind_clash)
  k_kind_clash : PySem.W.keepIn K (.ref A.kind_clash) = true
  d_kind_clash : ∃ fd, Fun K "kind_clash" "kind_clash" s_kind_clash A.kind_clash fd
  g_first_clash : mg "first_clash" = some (.ref A.first_clash)
  k_first_clash : PySem.W.keepIn K (.ref A.first_clash) = true
  d_first_clash : ∃ fd, Fun K "first_clash" "first_clash" s_first_clash A.first_clash fd
  g_first_unsafe : mg "first_unsafe" = some (.ref A.first_unsafe)
  k_first_unsafe : PySem.W.keepIn K (.ref A.first_unsafe) = true
  d_first_unsafe : ∃ fd, Fun K "first_unsafe" "first_unsafe" s_first_unsafe A.first_unsafe fd
  g_clash_between : mg "clash_between" = some (.ref A.clash_between)
  k_clash_between : PySem.W.keepIn K (.ref A.clash_between) = true
  d_clash_between : ∃ fd, Fun K "clash_between" "clash_between" s_clash_between A.clash_between fd
  g_rest_after : mg "rest_after" = some (.ref A.rest_after)
  k_rest_after : PySem.W.keepIn K (.ref A.rest_after) = true
  d_rest_after : ∃ fd, Fun K "rest_after" "rest_after" s_rest_after A.rest_after fd
  g_renamed : mg "renamed" = some (.ref A.renamed)
  k_renamed : PySem.W.keepIn K (.ref A.renamed) = true
  d_renamed : ∃ fd, Fun K "renamed" "renamed" s_renamed A.renamed fd
  g_own_rows : mg "_own_rows" = some (.ref A.own_rows)
  k_own_rows : PySem.W.keepIn K (.ref A.own_rows) = true
  d_own_rows : ∃ fd, Fun K "_own_rows" "_own_rows" s_own_rows A.own_rows fd
  g_is_torn : mg "_is_torn" = some (.ref A.is_torn)
  k_is_torn : PySem.W.keepIn K (.ref A.is_torn) = true
  d_is_torn : ∃ fd, Fun K "_is_torn" "_is_torn" s_is_torn A.is_torn fd
  g_other_way : mg "_other_way" = some (.ref A.other_way)
  k_other_way : PySem.W.keepIn K (.ref A.other_way) = true
  d_other_way : ∃ fd, Fun K "_other_way" "_other_way" s_other_way A.other_way fd
  g_law_whole : mg "_law_whole" = some (.ref A.law_whole)
  k_law_whole : PySem.W.keepIn K (.ref A.law_whole) = true
  d_law_whole : ∃ fd, Fun K "_law_whole" "_law_whole" s_law_whole A.law_whole fd
  g_law_bag : mg "_law_bag" = some (.ref A.law_bag)
  k_law_bag : PySem.W.keepIn K (.ref A.law_bag) = true
  d_law_bag : ∃ fd, Fun K "_law_bag" "_law_bag" s_law_bag A.law_bag fd
  g_law_draw : mg "_law_draw" = some (.ref A.law_draw)
  k_law_draw : PySem.W.keepIn K (.ref A.law_draw) = true
  d_law_draw : ∃ fd, Fun K "_law_draw" "_law_draw" s_law_draw A.law_draw fd
  g_law_part : mg "_law_part" = some (.ref A.law_part)
  k_law_part : PySem.W.keepIn K (.ref A.law_part) = true
  d_law_part : ∃ fd, Fun K "_law_part" "_law_part" s_law_part A.law_part fd
  g_law_kind : mg "_law_kind" = some (.ref A.law_kind)
  k_law_kind : PySem.W.keepIn K (.ref A.law_kind) = true
  d_law_kind : ∃ fd, Fun K "_law_kind" "_law_kind" s_law_kind A.law_kind fd
  g_law_tame : mg "_law_tame" = some (.ref A.law_tame)
  k_law_tame : PySem.W.keepIn K (.ref A.law_tame) = true
  d_law_tame : ∃ fd, Fun K "_law_tame" "_law_tame" s_law_tame A.law_tame fd
  g_law_bent_kind : mg "_law_bent_kind" = some (.ref A.law_bent_kind)
  k_law_bent_kind : PySem.W.keepIn K (.ref A.law_bent_kind) = true
  d_law_bent_kind : ∃ fd, Fun K "_law_bent_kind" "_law_bent_kind" s_law_bent_kind A.law_bent_kind fd
  g_law_entry_right : mg "_law_entry_right" = some (.ref A.law_entry_right)
  k_law_entry_right : PySem.W.keepIn K (.ref A.law_entry_right) = true
  d_law_entry_right : ∃ fd, Fun K "_law_entry_right" "_law_entry_right" s_law_entry_right A.law_entry_right fd
  g_law_kind_right : mg "_law_kind_right" = some (.ref A.law_kind_right)
  k_law_kind_right : PySem.W.keepIn K (.ref A.law_kind_right) = true
  d_law_kind_right : ∃ fd, Fun K "_law_kind_right" "_law_kind_right" s_law_kind_right A.law_kind_right fd
  g_law_safe : mg "_law_safe" = some (.ref A.law_safe)
  k_law_safe : PySem.W.keepIn K (.ref A.law_safe) = true
  d_law_safe : ∃ fd, Fun K "_law_safe" "_law_safe" s_law_safe A.law_safe fd
  g_law_kinds : mg "_law_kinds" = some (.ref A.law_kinds)
  k_law_kinds : PySem.W.keepIn K (.ref A.law_kinds) = true
  d_law_kinds : ∃ fd, Fun K "_law_kinds" "_law_kinds" s_law_kinds A.law_kinds fd
  g_law_alone : mg "_law_alone" = some (.ref A.law_alone)
  k_law_alone : PySem.W.keepIn K (.ref A.law_alone) = true
  d_law_alone : ∃ fd, Fun K "_law_alone" "_law_alone" s_law_alone A.law_alone fd
  g_law_holds : mg "_law_holds" = some (.ref A.law_holds)
  k_law_holds : PySem.W.keepIn K (.ref A.law_holds) = true
  d_law_holds : ∃ fd, Fun K "_law_holds" "_law_holds" s_law_holds A.law_holds fd
  g_law_kind_of : mg "_law_kind_of" = some (.ref A.law_kind_of)
  k_law_kind_of : PySem.W.keepIn K (.ref A.law_kind_of) = true
  d_law_kind_of : ∃ fd, Fun K "_law_kind_of" "_law_kind_of" s_law_kind_of A.law_kind_of fd
  g_law_state_right : mg "_law_state_right" = some (.ref A.law_state_right)
  k_law_state_right : PySem.W.keepIn K (.ref A.law_state_right) = true
  d_law_state_right : ∃ fd, Fun K "_law_state_right" "_law_state_right" s_law_state_right A.law_state_right fd
  g_law_clash_right : mg "_law_clash_right" = some (.ref A.law_clash_right)
  k_law_clash_right : PySem.W.keepIn K (.ref A.law_clash_right) = true
  d_law_clash_right : ∃ fd, Fun K "_law_clash_right" "_law_clash_right" s_law_clash_right A.law_clash_right fd
  g_law_met_kind : mg "_law_met_kind" = some (.ref A.law_met_kind)
  k_law_met_kind : PySem.W.keepIn K (.ref A.law_met_kind) = true
  d_law_met_kind : ∃ fd, Fun K "_law_met_kind" "_law_met_kind" s_law_met_kind A.law_met_kind fd
  g_law_call : mg "_law_call" = some (.ref A.law_call)
  k_law_call : PySem.W.keepIn K (.ref A.law_call) = true
  d_law_call : ∃ fd, Fun K "_law_call" "_law_call" s_law_call A.law_call fd
  g_law_met_first : mg "_law_met_first" = some (.ref A.law_met_first)
  k_law_met_first : PySem.W.keepIn K (.ref A.law_met_first) = true
  d_law_met_first : ∃ fd, Fun K "_law_met_first" "_law_met_first" s_law_met_first A.law_met_first fd
  g_law_one_right : mg "_law_one_right" = some (.ref A.law_one_right)
  k_law_one_right : PySem.W.keepIn K (.ref A.law_one_right) = true
  d_law_one_right : ∃ fd, Fun K "_law_one_right" "_law_one_right" s_law_one_right A.law_one_right fd
  g_law_first_right : mg "_law_first_right" = some (.ref A.law_first_right)
  k_law_first_right : PySem.W.keepIn K (.ref A.law_first_right) = true
  d_law_first_right : ∃ fd, Fun K "_law_first_right" "_law_first_right" s_law_first_right A.law_first_right fd
  g_law : mg "law" = some (.ref A.law)
  k_law : PySem.W.keepIn K (.ref A.law) = true
  d_law : ∃ fd, Fun K "law" "law" s_law A.law fd
  e_MendError : ErrM K mg A.MendError
  e_InvalidUpdate : ErrK K mg A.MendError A.InvalidUpdate "InvalidUpdate"
  q_InvalidUpdate : PySem.W.excIn K A.InvalidUpdate [.type "ValueError", .type "Exception", .type "BaseException", .type "object"] "ValueError.__new__" = true
  e_InvalidKind : ErrK K mg A.MendError A.InvalidKind "InvalidKind"
  q_InvalidKind : PySem.W.excIn K A.InvalidKind [.type "ValueError", .type "Exception", .type "BaseException", .type "object"] "ValueError.__new__" = true
  e_InvalidChange : ErrK K mg A.MendError A.InvalidChange "InvalidChange"
  q_InvalidChange : PySem.W.excIn K A.InvalidChange [.type "ValueError", .type "Exception", .type "BaseException", .type "object"] "ValueError.__new__" = true
  e_InvalidOrder : ErrK K mg A.MendError A.InvalidOrder "InvalidOrder"
  q_InvalidOrder : PySem.W.excIn K A.InvalidOrder [.type "ValueError", .type "Exception", .type "BaseException", .type "object"] "ValueError.__new__" = true
  g_SAFE_KINDS : mg "SAFE_KINDS" = some (.ref A.SAFE_KINDS)
  g_Clash : mg "Clash" = some (.ref A.Clash)
  cR : Cls K A.Clash
  mkR : Mk K A.Clash A.m_init
  mt_holds : Meth K A.Clash "holds" A.m_holds
  nc_first : NoAttr K A.Clash "first"
  nc_second : NoAttr K A.Clash "second"
  nc_image : NoAttr K A.Clash "image"
  n_ValueError : mg "ValueError" = none
  n_int : mg "int" = none
  n_bool : mg "bool" = none
  n_str : mg "str" = none
  n_list : mg "list" = none
  n_tuple : mg "tuple" = none
  n_len : mg "len" = none
  n_range : mg "range" = none
  n_enumerate : mg "enumerate" = none
  n_isinstance : mg "isinstance" = none
  n_min : mg "min" = none
  n_abs : mg "abs" = none
  n_sorted : mg "sorted" = none
  n_all : mg "all" = none
  n_sum : mg "sum" = none
  n_zip : mg "zip" = none
  n_reversed : mg "reversed" = none
  cc : PySem.W.findIn K (.ref A.Clash) "__class__" = some (some (.builtin "object.__class__"))
  co : PySem.W.mroIn K A.Clash (.type "object") = some true
  cn : PySem.W.specialIn K (.builtin "object.__class__") "__get__" = some (some (.builtin "getset_descriptor.__get__"))
  ct : PySem.W.takesIn K (.builtin "object.__class__") = some true
  nd : [A.MendError, A.InvalidUpdate, A.InvalidKind, A.InvalidChange, A.InvalidOrder].Nodup
end Pv

namespace Pv
open PySem L2
/-- all but what stands at b is as it was -/
def Mut (b : Addr) (H H' : Hp) : Prop := ∀ a o, a ≠ b → H a = some o → H' a = some o
theorem Mut.refl (b : Addr) (H : Hp) : Mut b H H := fun _ _ _ e => e
theorem Mut.trans {b : Addr} {H H1 H2 : Hp} (x : Mut b H H1) (y : Mut b H1 H2) : Mut b H H2 := fun a o n e => y a o n (x a o n e)
theorem Mut.upd {b : Addr} {H H1 : Hp} {o : HO} (x : Mut b H H1) : Mut b H (L2.upd H1 b o) := fun a u n e => by
  rw [upd_ne n]
  exact x a u n e
theorem Mut.new {b p : Addr} {H H1 : Hp} {o : HO} (x : Mut b H H1) (hp : H1 p = none) : Mut b H (L2.upd H1 p o) := fun a u n e => by
  have e1 := x a u n e
  rw [upd_ne (ne_of_none e1 hp)]
  exact e1
theorem Mut.free {b p : Addr} {H H1 : Hp} (x : Mut b H H1) (h : p ≠ b) (hp : H1 p = none) : H p = none := by
  cases e : H p with
  | none => rfl
  | some o =>
    rw [x p o h e] at hp
    cases hp
/-- the bag of the draws -/
def bagL (g f s : Int) : List V := [.int g, .int f, .int s]
structure BagOk (g f s : Int) : Prop where
  g0 : 0 ≤ g
  f0 : 0 ≤ f
  f1 : f < 2147483647
  s0 : 0 ≤ s
  s1 : s < 2147483647
def Bag (H : Hp) (b : Addr) : Prop := ∃ g f s : Int, H b = some (.lst (bagL g f s)) ∧ BagOk g f s
def spBag (K : PySem.W.Frag) : Sp := fun vs H Q _ => ∃ (a : Addr) (ns : List Int), vs = [.ref a] ∧ SqL K H a (ns.map V.int) ∧ ∀ b g f s, H b = none → BagOk g f s → Q (.ref b) (upd H b (.lst (bagL g f s)))
def spTake : Sp := fun vs H Q _ => ∃ (b : Addr) (n : Int), vs = [.ref b, .int n] ∧ 0 < n ∧ n < 1152921504606846976 ∧ Bag H b ∧ ∀ d H', 0 ≤ d → d < n → Bag H' b → Mut b H H' → Q (.int d) H'
/-- ints from 0 to below n -/
def Below (n : Int) (xs : List Int) : Prop := ∀ x ∈ xs, 0 ≤ x ∧ x < n
def ListI (H : Hp) (p : Addr) (xs : List Int) : Prop := H p = some (.lst (xs.map V.int))
def spOrder : Sp := fun vs H Q _ => ∃ (b : Addr) (n : Nat), vs = [.ref b, .int (n : Int)] ∧ n ≤ 64 ∧ Bag H b ∧ ∀ p xs H', H p = none → p ≠ b → xs.length = n → Below n xs → ListI H' p xs → Bag H' b → Mut b H H' → Q (.ref p) H'
def spSize : Sp := fun vs H Q _ => ∃ b : Addr, vs = [.ref b] ∧ Bag H b ∧ ∀ (d : Int) H', 0 ≤ d → d ≤ 64 → Bag H' b → Mut b H H' → Q (.int d) H'
def spEntry : Sp := fun vs H Q _ => ∃ (b : Addr) (n : Nat), vs = [.ref b, .int (n : Int)] ∧ 0 < n ∧ n ≤ 64 ∧ Bag H b ∧ ∀ (d : Int) H', Bag H' b → Mut b H H' → Q (.int d) H'
def spDrawn : Sp := fun vs H Q _ => ∃ (b : Addr) (n : Nat), vs = [.ref b, .int (n : Int)] ∧ n ≤ 64 ∧ Bag H b ∧ ∀ p xs H', H p = none → p ≠ b → xs.length = n → ListI H' p xs → Bag H' b → Mut b H H' → Q (.ref p) H'
theorem Bag.ne {H : Hp} {b p : Addr} (B : Bag H b) (h : H p = none) : p ≠ b := fun e => by
  obtain ⟨g, f, s, hb, _⟩ := B
  rw [e, hb] at h
  cases h
theorem Bag.keep {H H' : Hp} {b : Addr} (B : Bag H b) (h : ∀ o, H b = some o → H' b = some o) : Bag H' b := by
  obtain ⟨g, f, s, hb, ok⟩ := B
  exact ⟨g, f, s, h _ hb, ok⟩
theorem map_erase {α β : Type} (f : α → β) : ∀ (l : List α) (i : Nat), (l.map f).eraseIdx i = (l.eraseIdx i).map f
  | [], _ => rfl
  | _ :: _, 0 => rfl
  | a :: l, i + 1 => by
    show f a :: (l.map f).eraseIdx i = f a :: (l.eraseIdx i).map f
    rw [map_erase f l i]
theorem rgV_map (n : Nat) : rgV 0 (n : Int) = ((List.range n).map fun i : Nat => (i : Int)).map V.int := by
  unfold rgV
  have e : ((n : Int) - 0).toNat = n := by omega
  rw [e, List.map_map]
  refine List.map_congr_left fun i _ => ?_
  show V.int (0 + (i : Int)) = V.int (i : Int)
  rw [Int.zero_add]
theorem below_rg (n : Nat) : Below (n : Int) ((List.range n).map fun i : Nat => (i : Int)) := fun x hx => by
  obtain ⟨i, hi, rfl⟩ := List.mem_map.mp hx
  have := List.mem_range.mp hi
  omega
theorem ListI.sz {K : PySem.W.Frag} {H : Hp} {p : Addr} {xs : List Int} (h : ListI H p xs) : SqL K H p (xs.map V.int) := SqL.of h
theorem ix_map {xs : List Int} {j : Nat} (h : j < xs.length) : (xs.map V.int)[j]? = some (V.int xs[j]) := by
  rw [List.getElem?_map, List.getElem?_eq_getElem h]
  rfl
theorem at_map {xs : List Int} {j : Nat} (h : j < xs.length) : atI (xs.map V.int) (j : Int) = some (V.int xs[j]) := atI_nat (ix_map h)
theorem set_map {xs : List Int} {j : Nat} {v : Int} : (xs.map V.int).set j (V.int v) = (xs.set j v).map V.int := List.map_set.symm
theorem ite_b {b : Bool} {X Y : Prop} (h1 : b = true → X) (h2 : b = false → Y) : if b = true then X else Y := by
  cases b with
  | true => exact h1 rfl
  | false => exact h2 rfl
theorem int_at {ns : List Int} {i : Nat} {y : V} (h : (ns.map V.int)[i]? = some y) : ∃ z, ns[i]? = some z ∧ y = V.int z := by
  rw [List.getElem?_map] at h
  cases e : ns[i]? with
  | none =>
    rw [e] at h
    cases h
  | some z =>
    rw [e] at h
    exact ⟨z, rfl, (Option.some.inj h).symm⟩
end Pv

/-! states, walks along two states in turn, chains and rings -/
namespace Pv
open Pm
def gt (A : List Nat) (x : Nat) : Nat := A.getD x 0
/-- a state -/
structure Sta (A : List Nat) : Prop where
  lt : ∀ x, x < A.length → gt A x < A.length
  inv : ∀ x, x < A.length → gt A (gt A x) = x
def sel (A B : List Nat) (j : Nat) : List Nat := if j % 2 = 0 then A else B
theorem sel_len {A B : List Nat} (h : A.length = B.length) (j : Nat) : (sel A B j).length = A.length := by
  unfold sel
  split
  · rfl
  · exact h.symm
theorem sel_sta {A B : List Nat} (a : Sta A) (b : Sta B) (j : Nat) : Sta (sel A B j) := by
  unfold sel
  split
  · exact a
  · exact b
theorem sel_two {A B : List Nat} {i j : Nat} (h : i % 2 = j % 2) : sel A B i = sel A B j := by
  unfold sel
  rw [h]
/-- a walk that has not ended: from s along A and B in turn -/
structure Ptl (A B : List Nat) (s : Nat) (w : List Nat) : Prop where
  pos : 0 < w.length
  st : gt w 0 = s
  nd : w.Nodup
  lt : ∀ x ∈ w, x < A.length
  go : ∀ j, j + 1 < w.length → gt (sel A B j) (gt w j) = gt w (j + 1)
/-- a walk that has ended -/
structure Trl (A B : List Nat) (s : Nat) (w : List Nat) : Prop extends Ptl A B s w where
  fin : gt (sel A B (w.length - 1)) (gt w (w.length - 1)) = gt w (w.length - 1) ∨ gt (sel A B (w.length - 1)) (gt w (w.length - 1)) = s
theorem gt_mem {w : List Nat} {j : Nat} (h : j < w.length) : gt w j ∈ w := getD_mem h
theorem gt_inj {w : List Nat} (nd : w.Nodup) {i j : Nat} (hi : i < w.length) (hj : j < w.length) (h : gt w i = gt w j) : i = j := by
  unfold gt at h
  rw [List.getD_eq_getElem?_getD, List.getElem?_eq_getElem hi, List.getD_eq_getElem?_getD, List.getElem?_eq_getElem hj] at h
  exact (List.getElem_inj nd).mp h
theorem gt_append {w : List Nat} {y j : Nat} : gt (w ++ [y]) j = if j < w.length then gt w j else if j = w.length then y else 0 := by
  unfold gt
  rw [List.getD_eq_getElem?_getD, List.getElem?_append]
  split
  · rw [List.getD_eq_getElem?_getD]
  · rename_i c
    split
    · rename_i c2
      rw [c2, Nat.sub_self]
      rfl
    · rw [List.getElem?_eq_none (by simp; omega)]
      rfl
theorem nodup_len {w : List Nat} {n : Nat} (nd : w.Nodup) (lt : ∀ x ∈ w, x < n) : w.length ≤ n := by
  have hp : w.Perm ((List.range n).filter fun y => decide (y ∈ w)) := (List.perm_ext_iff_of_nodup nd (List.nodup_range.sublist List.filter_sublist)).mpr fun x => by
    rw [List.mem_filter, List.mem_range, decide_eq_true_eq]
    exact ⟨fun h => ⟨lt x h, h⟩, fun h => h.2⟩
  rw [hp.length_eq]
  exact Nat.le_trans (List.length_filter_le _ _) (by rw [List.length_range]; exact Nat.le_refl _)
/-- one step more -/
theorem Ptl.more {A B w : List Nat} {s : Nat} (h : A.length = B.length) (a : Sta A) (b : Sta B) (P : Ptl A B s w) (n1 : gt (sel A B (w.length - 1)) (gt w (w.length - 1)) ≠ gt w (w.length - 1)) (n2 : gt (sel A B (w.length - 1)) (gt w (w.length - 1)) ≠ s) :
    Ptl A B s (w ++ [gt (sel A B (w.length - 1)) (gt w (w.length - 1))]) := by
  have p := P.pos
  have hl := sel_len (A := A) (B := B) h
  have last := P.lt _ (gt_mem (show w.length - 1 < w.length by omega))
  have hy : gt (sel A B (w.length - 1)) (gt w (w.length - 1)) < A.length := by
    have := (sel_sta a b (w.length - 1)).lt _ (by rw [hl]; exact last)
    rw [hl] at this
    exact this
  refine ⟨by rw [List.length_append]; omega, ?_, ?_, fun x hx => ?_, fun j hj => ?_⟩
  · rw [gt_append, if_pos p]
    exact P.st
  · rw [List.nodup_append]
    refine ⟨P.nd, by simp, fun x hx y hy e => ?_⟩
    rw [List.mem_singleton.mp hy] at e
    obtain ⟨i, hi, hx⟩ := mem_getD hx
    have hx : gt w i = x := hx
    rw [← hx] at e
    by_cases c0 : i = 0
    · rw [c0, P.st] at e
      exact n2 e.symm
    · by_cases cl : i = w.length - 1
      · rw [cl] at e
        exact n1 e.symm
      · have hin := P.lt _ (gt_mem hi)
        have back : gt (sel A B (w.length - 1)) (gt w i) = gt w (w.length - 1) := by
          rw [e]
          exact (sel_sta a b _).inv _ (by rw [hl]; exact last)
        by_cases cp : (w.length - 1) % 2 = i % 2
        · rw [sel_two cp, P.go i (by omega)] at back
          have := gt_inj P.nd (by omega) (by omega) back
          omega
        · have e2 : gt (sel A B (i - 1)) (gt w i) = gt w (i - 1) := by
            have g := P.go (i - 1) (by omega)
            rw [show i - 1 + 1 = i by omega] at g
            rw [← g]
            exact (sel_sta a b _).inv _ (by rw [hl]; exact P.lt _ (gt_mem (by omega)))
          rw [sel_two (show (w.length - 1) % 2 = (i - 1) % 2 by omega), e2] at back
          have := gt_inj P.nd (by omega) (by omega) back
          omega
  · rcases List.mem_append.mp hx with hx | hx
    · exact P.lt x hx
    · rw [List.mem_singleton.mp hx]
      exact hy
  · rw [List.length_append, List.length_singleton] at hj
    rw [gt_append, if_pos (by omega), gt_append]
    by_cases c : j + 1 < w.length
    · rw [if_pos c]
      exact P.go j c
    · rw [if_neg c, if_pos (by omega), show w.length - 1 = j by omega]
theorem Ptl.ends {A B : List Nat} {s : Nat} (h : A.length = B.length) (a : Sta A) (b : Sta B) : ∀ (m : Nat) (w : List Nat), Ptl A B s w → A.length - w.length = m → ∃ w', Trl A B s w' := by
  intro m
  induction m with
  | zero =>
    intro w P hm
    by_cases c : gt (sel A B (w.length - 1)) (gt w (w.length - 1)) = gt w (w.length - 1) ∨ gt (sel A B (w.length - 1)) (gt w (w.length - 1)) = s
    · exact ⟨w, P, c⟩
    · have Q := P.more h a b (fun z => c (.inl z)) (fun z => c (.inr z))
      have := nodup_len Q.nd Q.lt
      rw [List.length_append, List.length_singleton] at this
      omega
  | succ m ih =>
    intro w P hm
    by_cases c : gt (sel A B (w.length - 1)) (gt w (w.length - 1)) = gt w (w.length - 1) ∨ gt (sel A B (w.length - 1)) (gt w (w.length - 1)) = s
    · exact ⟨w, P, c⟩
    · have Q := P.more h a b (fun z => c (.inl z)) (fun z => c (.inr z))
      exact ih _ Q (by rw [List.length_append, List.length_singleton]; omega)
theorem trl_ex {A B : List Nat} {s : Nat} (h : A.length = B.length) (a : Sta A) (b : Sta B) (hs : s < A.length) : ∃ w, Trl A B s w :=
  Ptl.ends h a b _ [s] ⟨Nat.succ_pos 0, rfl, by simp, fun x hx => by rw [List.mem_singleton.mp hx]; exact hs, fun j hj => absurd hj (by simp)⟩ rfl
theorem Trl.at_ {A B w w' : List Nat} {s : Nat} (T : Trl A B s w) (T' : Trl A B s w') : ∀ j, j < w.length → j < w'.length → gt w j = gt w' j
  | 0, _, _ => T.st.trans T'.st.symm
  | j + 1, h, h' => by rw [← T.go j h, ← T'.go j h', T.at_ T' j (by omega) (by omega)]
theorem Trl.le {A B w w' : List Nat} {s : Nat} (T : Trl A B s w) (T' : Trl A B s w') : w'.length ≤ w.length := by
  apply Nat.le_of_not_lt
  intro c
  have p := T.pos
  have e := T.at_ T' (w.length - 1) (by omega) (by omega)
  have g := T'.go (w.length - 1) (by omega)
  have f := T.fin
  rw [e, g] at f
  rcases f with f | f
  · have := gt_inj T'.nd (by omega) (by omega) f
    omega
  · rw [← T'.st] at f
    have := gt_inj T'.nd (by omega) (by omega) f
    omega
theorem ext_gt {w w' : List Nat} (hl : w.length = w'.length) (h : ∀ j, j < w.length → gt w j = gt w' j) : w = w' := by
  refine List.ext_getElem hl fun j h1 h2 => ?_
  have := h j h1
  unfold gt at this
  rw [List.getD_eq_getElem?_getD, List.getElem?_eq_getElem h1, List.getD_eq_getElem?_getD, List.getElem?_eq_getElem h2] at this
  exact this
theorem Trl.uniq {A B w w' : List Nat} {s : Nat} (T : Trl A B s w) (T' : Trl A B s w') : w = w' := by
  have hl := Nat.le_antisymm (T'.le T) (T.le T')
  exact ext_gt hl fun j hj => T.at_ T' j hj (by omega)
open Classical in
/-- the walk -/
noncomputable def walkF (A B : List Nat) (s : Nat) : List Nat := if h : ∃ w, Trl A B s w then Classical.choose h else []
theorem walkF_ok {A B : List Nat} {s : Nat} (h : ∃ w, Trl A B s w) : Trl A B s (walkF A B s) := by
  unfold walkF
  rw [dif_pos h]
  exact Classical.choose_spec h
theorem walkF_eq {A B w : List Nat} {s : Nat} (T : Trl A B s w) : walkF A B s = w := (walkF_ok ⟨w, T⟩).uniq T
/-- the part that holds x: a ring or not, its records -/
noncomputable def partF (A B : List Nat) (x : Nat) : Bool × List Nat :=
  if gt B x ∈ (walkF A B x).tail then (true, walkF A B x)
  else (false, if gt ((walkF B A x).tail.reverse ++ walkF A B x) 0 > gt ((walkF B A x).tail.reverse ++ walkF A B x) (((walkF B A x).tail.reverse ++ walkF A B x).length - 1) then ((walkF B A x).tail.reverse ++ walkF A B x).reverse else (walkF B A x).tail.reverse ++ walkF A B x)
noncomputable def partsF (A B : List Nat) : Nat → List (Bool × List Nat)
  | 0 => []
  | i + 1 => if gt A i ≠ gt B i ∧ i ∉ (partsF A B i).flatMap (·.2) then partsF A B i ++ [partF A B i] else partsF A B i
end Pv

/-! pieces laid out: free, pair, chain, ring -/
namespace Pv
open Pm
/-- a word, the records, which sort of link comes first -/
abbrev Pc := Nat × List Nat × Nat
/-- whom the k-th record shows in the row r -/
def nb (r w n s k : Nat) : Nat :=
  if w = 0 then k
  else if w = 1 then 1 - k
  else if (s + k) % 2 = r then (if k + 1 < n then k + 1 else if w = 3 then 0 else k)
  else (if 0 < k then k - 1 else if w = 3 then n - 1 else k)
structure PcOk (p : Pc) : Prop where
  w : p.1 < 4
  s : p.2.2 < 2
  nd : p.2.1.Nodup
  l0 : p.1 = 0 → p.2.1.length = 1
  l1 : p.1 = 1 → p.2.1.length = 2
  l2 : p.1 = 2 → 2 ≤ p.2.1.length
  l3 : p.1 = 3 → 4 ≤ p.2.1.length ∧ p.2.1.length % 2 = 0
def PcAt (A : List Nat) (r : Nat) (p : Pc) : Prop := ∀ k, k < p.2.1.length → gt A (gt p.2.1 k) = gt p.2.1 (nb r p.1 p.2.1.length p.2.2 k)
theorem PcOk.pos {p : Pc} (h : PcOk p) : 0 < p.2.1.length := by
  have h0 := h.l0
  have h1 := h.l1
  have h2 := h.l2
  have h3 := h.l3
  have hw := h.w
  omega
theorem nb_lt {p : Pc} (h : PcOk p) {r k : Nat} (hk : k < p.2.1.length) : nb r p.1 p.2.1.length p.2.2 k < p.2.1.length := by
  have h0 := h.l0
  have h1 := h.l1
  have h2 := h.l2
  have h3 := h.l3
  unfold nb
  split
  · exact hk
  · split
    · omega
    · split
      · split
        · omega
        · split <;> omega
      · split
        · omega
        · split <;> omega
theorem gt_drop {l : List Nat} {q j : Nat} : gt (l.drop q) j = gt l (q + j) := by
  unfold gt
  rw [List.getD_eq_getElem?_getD, List.getElem?_drop, List.getD_eq_getElem?_getD]
theorem gt_take {l : List Nat} {q j : Nat} (h : j < q) : gt (l.take q) j = gt l j := by
  unfold gt
  rw [List.getD_eq_getElem?_getD, List.getElem?_take_of_lt h, List.getD_eq_getElem?_getD]
theorem gt_app {l m : List Nat} {j : Nat} : gt (l ++ m) j = if j < l.length then gt l j else gt m (j - l.length) := by
  unfold gt
  rw [List.getD_eq_getElem?_getD, List.getElem?_append]
  split
  · rw [List.getD_eq_getElem?_getD]
  · rw [List.getD_eq_getElem?_getD]
theorem gt_rev {l : List Nat} {j : Nat} (h : j < l.length) : gt l.reverse j = gt l (l.length - 1 - j) := by
  unfold gt
  rw [List.getD_eq_getElem?_getD, List.getElem?_reverse h, List.getD_eq_getElem?_getD]
/-- a walk told by places -/
theorem trl_of {A B : List Nat} {p : Pc} {r q m : Nat} {ix : Nat → Nat} {W : List Nat} (ok : PcOk p) (hr : r < 2) (a : PcAt A r p) (b : PcAt B (1 - r) p) (lt : ∀ x ∈ p.2.1, x < A.length) (hm : 0 < m) (hl : W.length = m) (h0 : ix 0 = q)
    (hi : ∀ j, j < m → ix j < p.2.1.length) (inj : ∀ i j, i < m → j < m → ix i = ix j → i = j) (hW : ∀ j, j < m → gt W j = gt p.2.1 (ix j)) (go : ∀ j, j + 1 < m → nb ((r + j) % 2) p.1 p.2.1.length p.2.2 (ix j) = ix (j + 1))
    (fin : nb ((r + (m - 1)) % 2) p.1 p.2.1.length p.2.2 (ix (m - 1)) = ix (m - 1) ∨ nb ((r + (m - 1)) % 2) p.1 p.2.1.length p.2.2 (ix (m - 1)) = q) : Trl A B (gt p.2.1 q) W := by
  have row : ∀ j k, k < p.2.1.length → gt (sel A B j) (gt p.2.1 k) = gt p.2.1 (nb ((r + j) % 2) p.1 p.2.1.length p.2.2 k) := fun j k hk => by
    unfold sel
    by_cases c : j % 2 = 0
    · rw [if_pos c, show (r + j) % 2 = r by omega]
      exact a k hk
    · rw [if_neg c, show (r + j) % 2 = 1 - r by omega]
      exact b k hk
  refine ⟨⟨by omega, by rw [hW 0 hm, h0], ?_, fun x hx => ?_, fun j hj => ?_⟩, ?_⟩
  · rw [List.nodup_iff_pairwise_ne, List.pairwise_iff_getElem]
    intro i j hi' hj' hij e
    have ei : W[i] = gt W i := by
      unfold gt
      rw [List.getD_eq_getElem?_getD, List.getElem?_eq_getElem hi']
      rfl
    have ej : W[j] = gt W j := by
      unfold gt
      rw [List.getD_eq_getElem?_getD, List.getElem?_eq_getElem hj']
      rfl
    rw [ei, ej, hW i (by omega), hW j (by omega)] at e
    have := inj i j (by omega) (by omega) (gt_inj ok.nd (hi i (by omega)) (hi j (by omega)) e)
    omega
  · obtain ⟨j, hj, hx⟩ := mem_getD hx
    have hx : gt W j = x := hx
    rw [← hx, hW j (by omega)]
    exact lt _ (gt_mem (hi j (by omega)))
  · rw [hl] at hj
    rw [hW j (by omega), row j _ (hi j (by omega)), go j hj, hW (j + 1) hj]
  · rw [hl, hW (m - 1) (by omega), row _ _ (hi _ (by omega))]
    rcases fin with f | f
    · left
      rw [f]
    · right
      rw [f]
section
variable {A B : List Nat} {p : Pc} {r q : Nat}
theorem trl_up2 (ok : PcOk p) (hw : p.1 = 2) (hr : r < 2) (a : PcAt A r p) (b : PcAt B (1 - r) p) (lt : ∀ x ∈ p.2.1, x < A.length) (hq : q < p.2.1.length) (par : (p.2.2 + q) % 2 = r) : Trl A B (gt p.2.1 q) (p.2.1.drop q) := by
  refine trl_of (m := p.2.1.length - q) (ix := fun j => q + j) ok hr a b lt (by omega) (by rw [List.length_drop]) rfl (fun j hj => by show q + j < _; omega) (fun i j _ _ e => by have e : q + i = q + j := e; omega) (fun j _ => gt_drop) (fun j hj => ?_) (.inl ?_)
  · show nb _ _ _ _ (q + j) = q + (j + 1)
    unfold nb
    rw [if_neg (by omega), if_neg (by omega), if_pos (by omega), if_pos (by omega)]
    rfl
  · show nb _ _ _ _ (q + (p.2.1.length - q - 1)) = q + (p.2.1.length - q - 1)
    unfold nb
    rw [if_neg (by omega), if_neg (by omega), if_pos (by omega), if_neg (by omega), if_neg (by omega)]
theorem trl_dn2 (ok : PcOk p) (hw : p.1 = 2) (hr : r < 2) (a : PcAt A r p) (b : PcAt B (1 - r) p) (lt : ∀ x ∈ p.2.1, x < A.length) (hq : q < p.2.1.length) (par : (p.2.2 + q) % 2 ≠ r) : Trl A B (gt p.2.1 q) (p.2.1.take (q + 1)).reverse := by
  have tl : (p.2.1.take (q + 1)).length = q + 1 := by rw [List.length_take]; omega
  refine trl_of (m := q + 1) (ix := fun j => q - j) ok hr a b lt (by omega) (by rw [List.length_reverse, tl]) rfl (fun j hj => by show q - j < _; omega) (fun i j _ _ e => by have e : q - i = q - j := e; omega) (fun j hj => ?_) (fun j hj => ?_) (.inl ?_)
  · rw [gt_rev (by omega), tl, gt_take (by omega)]
    congr 1
  · show nb _ _ _ _ (q - j) = q - (j + 1)
    unfold nb
    rw [if_neg (by omega), if_neg (by omega), if_neg (by omega), if_pos (by omega)]
    omega
  · show nb _ _ _ _ (q - (q + 1 - 1)) = q - (q + 1 - 1)
    unfold nb
    rw [if_neg (by omega), if_neg (by omega), if_neg (by omega), if_neg (by omega), if_neg (by omega)]
theorem trl_up3 (ok : PcOk p) (hw : p.1 = 3) (hr : r < 2) (a : PcAt A r p) (b : PcAt B (1 - r) p) (lt : ∀ x ∈ p.2.1, x < A.length) (hq : q < p.2.1.length) (par : (p.2.2 + q) % 2 = r) : Trl A B (gt p.2.1 q) (p.2.1.drop q ++ p.2.1.take q) := by
  obtain ⟨n4, n2⟩ := ok.l3 hw
  have tl : (p.2.1.take q).length = q := by rw [List.length_take]; omega
  refine trl_of (m := p.2.1.length) (ix := fun j => if q + j < p.2.1.length then q + j else q + j - p.2.1.length) ok hr a b lt (by omega) (by rw [List.length_append, List.length_drop, tl]; omega) (by show (if q + 0 < _ then q + 0 else _) = q; rw [if_pos (by omega)]; rfl) (fun j hj => ?_) (fun i j hi hj e => ?_) (fun j hj => ?_) (fun j hj => ?_) (.inr ?_)
  · show (if q + j < p.2.1.length then q + j else q + j - p.2.1.length) < _
    split <;> omega
  · have e : (if q + i < p.2.1.length then q + i else q + i - p.2.1.length) = (if q + j < p.2.1.length then q + j else q + j - p.2.1.length) := e
    split at e <;> split at e <;> omega
  · show _ = gt p.2.1 (if q + j < p.2.1.length then q + j else q + j - p.2.1.length)
    rw [gt_app, List.length_drop]
    by_cases c : q + j < p.2.1.length
    · rw [if_pos (by omega), if_pos c, gt_drop]
    · rw [if_neg (by omega), if_neg c, gt_take (by omega)]
      congr 1
      omega
  · show nb _ _ _ _ (if q + j < p.2.1.length then q + j else q + j - p.2.1.length) = (if q + (j + 1) < p.2.1.length then q + (j + 1) else q + (j + 1) - p.2.1.length)
    unfold nb
    rw [if_neg (by omega), if_neg (by omega)]
    by_cases c : q + j < p.2.1.length
    · rw [if_pos c, if_pos (by omega)]
      by_cases c2 : q + j + 1 < p.2.1.length
      · rw [if_pos c2, if_pos (by omega)]
        omega
      · rw [if_neg c2, if_pos hw, if_neg (by omega)]
        omega
    · rw [if_neg c, if_pos (by omega), if_pos (by omega), if_neg (by omega)]
      omega
  · show nb _ _ _ _ (if q + (p.2.1.length - 1) < p.2.1.length then q + (p.2.1.length - 1) else q + (p.2.1.length - 1) - p.2.1.length) = q
    unfold nb
    rw [if_neg (by omega), if_neg (by omega)]
    by_cases c : q + (p.2.1.length - 1) < p.2.1.length
    · rw [if_pos c, if_pos (by omega), if_neg (by omega), if_pos hw]
      omega
    · rw [if_neg c, if_pos (by omega), if_pos (by omega)]
      omega
theorem trl_dn3 (ok : PcOk p) (hw : p.1 = 3) (hr : r < 2) (a : PcAt A r p) (b : PcAt B (1 - r) p) (lt : ∀ x ∈ p.2.1, x < A.length) (hq : q < p.2.1.length) (par : (p.2.2 + q) % 2 ≠ r) : Trl A B (gt p.2.1 q) ((p.2.1.take (q + 1)).reverse ++ (p.2.1.drop (q + 1)).reverse) := by
  obtain ⟨n4, n2⟩ := ok.l3 hw
  have tl : (p.2.1.take (q + 1)).length = q + 1 := by rw [List.length_take]; omega
  have dl : (p.2.1.drop (q + 1)).length = p.2.1.length - (q + 1) := by rw [List.length_drop]
  refine trl_of (m := p.2.1.length) (ix := fun j => if j ≤ q then q - j else q + p.2.1.length - j) ok hr a b lt (by omega) (by rw [List.length_append, List.length_reverse, List.length_reverse, tl, dl]; omega) (by show (if 0 ≤ q then q - 0 else _) = q; rw [if_pos (by omega)]; rfl) (fun j hj => ?_) (fun i j hi hj e => ?_) (fun j hj => ?_) (fun j hj => ?_) (.inr ?_)
  · show (if j ≤ q then q - j else q + p.2.1.length - j) < _
    split <;> omega
  · have e : (if i ≤ q then q - i else q + p.2.1.length - i) = (if j ≤ q then q - j else q + p.2.1.length - j) := e
    split at e <;> split at e <;> omega
  · show _ = gt p.2.1 (if j ≤ q then q - j else q + p.2.1.length - j)
    rw [gt_app, List.length_reverse, tl]
    by_cases c : j ≤ q
    · rw [if_pos (by omega), if_pos c, gt_rev (by omega), tl, gt_take (by omega)]
      congr 1
    · rw [if_neg (by omega), if_neg c, gt_rev (by omega), dl, gt_drop]
      congr 1
      omega
  · show nb _ _ _ _ (if j ≤ q then q - j else q + p.2.1.length - j) = (if j + 1 ≤ q then q - (j + 1) else q + p.2.1.length - (j + 1))
    unfold nb
    rw [if_neg (by omega), if_neg (by omega)]
    by_cases c : j ≤ q
    · rw [if_pos c, if_neg (by omega)]
      by_cases c2 : j = q
      · rw [if_neg (by omega), if_pos hw, if_neg (by omega)]
        omega
      · rw [if_pos (by omega), if_pos (by omega)]
        omega
    · rw [if_neg c, if_neg (by omega), if_pos (by omega), if_neg (by omega)]
      omega
  · show nb _ _ _ _ (if p.2.1.length - 1 ≤ q then q - (p.2.1.length - 1) else q + p.2.1.length - (p.2.1.length - 1)) = q
    unfold nb
    rw [if_neg (by omega), if_neg (by omega)]
    by_cases c : p.2.1.length - 1 ≤ q
    · rw [if_pos c, if_neg (by omega), if_neg (by omega), if_pos hw]
      omega
    · rw [if_neg c, if_neg (by omega), if_pos (by omega)]
      omega
end
end Pv

/-! the parts of pieces laid out -/
namespace Pv
open Pm
/-- how a chain or a ring is written -/
def canonP (A : List Nat) (p : Pc) : List Nat :=
  if p.1 = 2 then (if gt p.2.1 (p.2.1.length - 1) < gt p.2.1 0 then p.2.1.reverse else p.2.1)
  else if gt A (gt (p.2.1.drop (p.2.1.idxOf (mn p.2.1)) ++ p.2.1.take (p.2.1.idxOf (mn p.2.1))) 0) ≠ gt (p.2.1.drop (p.2.1.idxOf (mn p.2.1)) ++ p.2.1.take (p.2.1.idxOf (mn p.2.1))) 1
    then (p.2.1.drop (p.2.1.idxOf (mn p.2.1)) ++ p.2.1.take (p.2.1.idxOf (mn p.2.1))).take 1 ++ (p.2.1.drop (p.2.1.idxOf (mn p.2.1)) ++ p.2.1.take (p.2.1.idxOf (mn p.2.1))).tail.reverse
    else p.2.1.drop (p.2.1.idxOf (mn p.2.1)) ++ p.2.1.take (p.2.1.idxOf (mn p.2.1))
theorem take_succ' {l : List Nat} {q : Nat} (h : q < l.length) : l.take (q + 1) = l.take q ++ [gt l q] := by
  unfold gt
  rw [List.take_add_one, List.getElem?_eq_getElem h, List.getD_eq_getElem?_getD, List.getElem?_eq_getElem h]
  rfl
theorem drop_cons' {l : List Nat} {q : Nat} (h : q < l.length) : l.drop q = gt l q :: l.drop (q + 1) := by
  unfold gt
  rw [List.drop_eq_getElem_cons h, List.getD_eq_getElem?_getD, List.getElem?_eq_getElem h]
  rfl
theorem rev_take {l : List Nat} {q : Nat} (h : q < l.length) : (l.take (q + 1)).reverse = gt l q :: (l.take q).reverse := by
  rw [take_succ' h, List.reverse_append]
  rfl
section
variable {A B : List Nat} {p : Pc} {r q : Nat}
theorem gt_lt' (l : List Nat) {x : Nat} : (¬ gt l 0 > gt l (l.length - 1)) = ¬ gt l (l.length - 1) < gt l 0 := rfl
theorem idx_gt {l : List Nat} {x : Nat} (h : x ∈ l) : l.idxOf x < l.length ∧ gt l (l.idxOf x) = x := by
  have hl := List.idxOf_lt_length_of_mem h
  refine ⟨hl, ?_⟩
  unfold gt
  rw [List.getD_eq_getElem?_getD, List.getElem?_eq_getElem hl]
  exact List.getElem_idxOf hl
/-- a chain from its lesser end: the same from both ends -/
def lessE (l : List Nat) : List Nat := if gt l 0 > gt l (l.length - 1) then l.reverse else l
theorem lessE_rev {l : List Nat} (nd : l.Nodup) (h2 : 2 ≤ l.length) : lessE l.reverse = lessE l := by
  have hl : l.reverse.length = l.length := List.length_reverse
  unfold lessE
  rw [hl, gt_rev (by omega), gt_rev (by omega), show l.length - 1 - 0 = l.length - 1 by omega, show l.length - 1 - (l.length - 1) = 0 by omega, List.reverse_reverse]
  have ne : gt l 0 ≠ gt l (l.length - 1) := fun e => by
    have := gt_inj nd (by omega) (by omega) e
    omega
  by_cases c : gt l (l.length - 1) > gt l 0
  · rw [if_pos c, if_neg (by omega)]
  · rw [if_neg c, if_pos (by omega)]
theorem part_chain (ok : PcOk p) (hw : p.1 = 2) (hr : r < 2) (a : PcAt A r p) (b : PcAt B (1 - r) p) (hl : A.length = B.length) (lt : ∀ x ∈ p.2.1, x < A.length) (hq : q < p.2.1.length) : partF A B (gt p.2.1 q) = (false, lessE p.2.1) := by
  have n2 := ok.l2 hw
  have b' : PcAt A (1 - (1 - r)) p := by rw [show 1 - (1 - r) = r by omega]; exact a
  have lt' : ∀ x ∈ p.2.1, x < B.length := fun x hx => by rw [← hl]; exact lt x hx
  have other : gt B (gt p.2.1 q) = gt p.2.1 (nb (1 - r) p.1 p.2.1.length p.2.2 q) := b q hq
  have pars := ok.s
  by_cases c : (p.2.2 + q) % 2 = r
  · have w1 := walkF_eq (trl_up2 ok hw hr a b lt hq c)
    have w2 := walkF_eq (trl_dn2 ok hw (by omega) b b' lt' hq (by omega))
    have no : gt B (gt p.2.1 q) ∉ (p.2.1.drop q).tail := by
      rw [List.tail_drop, other]
      intro h
      obtain ⟨j, hj, e⟩ := mem_getD h
      rw [List.length_drop] at hj
      have e : gt (p.2.1.drop (q + 1)) j = _ := e
      rw [gt_drop] at e
      have e := gt_inj ok.nd (by omega) (nb_lt ok hq) e
      unfold nb at e
      rw [if_neg (by omega), if_neg (by omega), if_neg (by omega)] at e
      split at e
      · omega
      · rw [if_neg (by omega)] at e
        omega
    have row : (p.2.1.take (q + 1)).reverse.tail.reverse ++ p.2.1.drop q = p.2.1 := by
      rw [rev_take hq]
      show (p.2.1.take q).reverse.reverse ++ _ = _
      rw [List.reverse_reverse, List.take_append_drop]
    unfold partF
    rw [w1, w2, if_neg no, row]
    rfl
  · have w1 := walkF_eq (trl_dn2 ok hw hr a b lt hq c)
    have w2 := walkF_eq (trl_up2 ok hw (by omega) b b' lt' hq (by omega))
    have no : gt B (gt p.2.1 q) ∉ (p.2.1.take (q + 1)).reverse.tail := by
      rw [rev_take hq, other]
      show _ ∉ (p.2.1.take q).reverse
      rw [List.mem_reverse]
      intro h
      obtain ⟨j, hj, e⟩ := mem_getD h
      rw [List.length_take] at hj
      have e : gt (p.2.1.take q) j = _ := e
      rw [gt_take (by omega)] at e
      have e := gt_inj ok.nd (by omega) (nb_lt ok hq) e
      unfold nb at e
      rw [if_neg (by omega), if_neg (by omega), if_pos (by omega)] at e
      split at e
      · omega
      · rw [if_neg (by omega)] at e
        omega
    have row : (p.2.1.drop q).tail.reverse ++ (p.2.1.take (q + 1)).reverse = p.2.1.reverse := by
      rw [List.tail_drop, ← List.reverse_append, List.take_append_drop]
    unfold partF
    rw [w1, w2, if_neg no, row]
    exact congrArg (Prod.mk false) (lessE_rev ok.nd n2)
theorem part_ring (ok : PcOk p) (hw : p.1 = 3) (hr : r < 2) (a : PcAt A r p) (b : PcAt B (1 - r) p) (hl : A.length = B.length) (lt : ∀ x ∈ p.2.1, x < A.length) : partF A B (mn p.2.1) = (true, canonP A p) := by
  obtain ⟨n4, n2⟩ := ok.l3 hw
  have hm : mn p.2.1 ∈ p.2.1 := mn_mem (fun z => by rw [z] at n4; simp at n4)
  obtain ⟨hq, eq⟩ := idx_gt hm
  have pars := ok.s
  unfold canonP
  rw [if_neg (by omega)]
  generalize p.2.1.idxOf (mn p.2.1) = q at hq eq ⊢
  rw [← eq]
  have other : gt B (gt p.2.1 q) = gt p.2.1 (nb (1 - r) p.1 p.2.1.length p.2.2 q) := b q hq
  have mine : gt A (gt p.2.1 q) = gt p.2.1 (nb r p.1 p.2.1.length p.2.2 q) := a q hq
  have tl : (p.2.1.take q).length = q := by rw [List.length_take]; omega
  have f0 : gt (p.2.1.drop q ++ p.2.1.take q) 0 = gt p.2.1 q := by
    rw [gt_app, List.length_drop, if_pos (by omega), gt_drop]
    rfl
  have f1 : gt (p.2.1.drop q ++ p.2.1.take q) 1 = gt p.2.1 (if q + 1 < p.2.1.length then q + 1 else 0) := by
    rw [gt_app, List.length_drop]
    by_cases c : q + 1 < p.2.1.length
    · rw [if_pos (by omega), if_pos c, gt_drop]
    · rw [if_neg (by omega), if_neg c, gt_take (by omega)]
      congr 1
      omega
  have mem_at : ∀ k, k < p.2.1.length → k ≠ q → gt p.2.1 k ∈ p.2.1.drop (q + 1) ++ p.2.1.take q := fun k hk hn => by
    rw [List.mem_append]
    by_cases c : k < q
    · right
      have : gt (p.2.1.take q) k = gt p.2.1 k := gt_take c
      rw [← this]
      exact gt_mem (by omega)
    · left
      have : gt (p.2.1.drop (q + 1)) (k - (q + 1)) = gt p.2.1 k := by
        rw [gt_drop]
        congr 1
        omega
      rw [← this]
      exact gt_mem (by rw [List.length_drop]; omega)
  have nbne : ∀ r', nb r' p.1 p.2.1.length p.2.2 q ≠ q := fun r' => by
    unfold nb
    rw [if_neg (by omega), if_neg (by omega)]
    split
    · split
      · omega
      · omega
    · split
      · omega
      · omega
  by_cases c : (p.2.2 + q) % 2 = r
  · have w1 := walkF_eq (trl_up3 ok hw hr a b lt hq c)
    have e1 : gt A (gt p.2.1 q) = gt p.2.1 (if q + 1 < p.2.1.length then q + 1 else 0) := by
      rw [mine]
      unfold nb
      rw [if_neg (by omega), if_neg (by omega), if_pos c]
      split <;> rfl
    rw [f0, f1, if_neg (fun h => h e1)]
    unfold partF
    rw [w1, if_pos]
    rw [drop_cons' hq]
    show _ ∈ p.2.1.drop (q + 1) ++ p.2.1.take q
    rw [other]
    exact mem_at _ (nb_lt ok hq) (nbne _)
  · have w1 := walkF_eq (trl_dn3 ok hw hr a b lt hq c)
    have e1 : gt A (gt p.2.1 q) ≠ gt p.2.1 (if q + 1 < p.2.1.length then q + 1 else 0) := by
      rw [mine]
      intro e
      have e := gt_inj ok.nd (nb_lt ok hq) (by split <;> omega) e
      unfold nb at e
      rw [if_neg (by omega), if_neg (by omega), if_neg c] at e
      split at e
      · split at e <;> omega
      · split at e <;> omega
    rw [f0, f1, if_pos e1]
    unfold partF
    rw [w1, rev_take hq, if_pos]
    · rw [drop_cons' hq]
      show _ = (true, [gt p.2.1 q] ++ (p.2.1.drop (q + 1) ++ p.2.1.take q).reverse)
      rw [List.reverse_append]
      rfl
    · show _ ∈ (p.2.1.take q).reverse ++ (p.2.1.drop (q + 1)).reverse
      rw [← List.reverse_append, List.mem_reverse, other]
      exact mem_at _ (nb_lt ok hq) (nbne _)
end
end Pv

/-! the parts of two states put together of pieces; gains and entries -/
namespace Pv
open Pm
theorem uniqF {α : Type} {f : α → List Nat} : ∀ {ps : List α} {p q : α} {x : Nat}, (ps.flatMap f).Nodup → p ∈ ps → q ∈ ps → x ∈ f p → x ∈ f q → p = q
  | [], p, q, x, _, hp, _, _, _ => by cases hp
  | a :: ps, p, q, x, nd, hp, hq, xp, xq => by
    rw [List.flatMap_cons, List.nodup_append] at nd
    rcases List.mem_cons.mp hp with e1 | m1
    · rcases List.mem_cons.mp hq with e2 | m2
      · rw [e1, e2]
      · rw [e1] at xp
        exact absurd rfl (nd.2.2 x xp x (List.mem_flatMap.mpr ⟨q, m2, xq⟩))
    · rcases List.mem_cons.mp hq with e2 | m2
      · rw [e2] at xq
        exact absurd rfl (nd.2.2 x xq x (List.mem_flatMap.mpr ⟨p, m1, xp⟩))
      · exact uniqF nd.2.1 m1 m2 xp xq
theorem nb_cr {r w n s k : Nat} (h : 1 < w) : nb r w n s k = if (s + k) % 2 = r then (if k + 1 < n then k + 1 else if w = 3 then 0 else k) else (if 0 < k then k - 1 else if w = 3 then n - 1 else k) := by
  unfold nb
  rw [if_neg (by omega), if_neg (by omega)]
structure Bl (A B : List Nat) (f : Nat) (ps : List Pc) (n : Nat) : Prop where
  la : A.length = n
  lb : B.length = n
  hf : f < 2
  perm : (ps.flatMap (·.2.1)).Perm (List.range n)
  ok : ∀ p ∈ ps, PcOk p
  at_ : ∀ p ∈ ps, PcAt A f p ∧ PcAt B (1 - f) p
theorem Bl.swap {A B : List Nat} {f n : Nat} {ps : List Pc} (b : Bl A B f ps n) : Bl B A (1 - f) ps n :=
  ⟨b.lb, b.la, by omega, b.perm, b.ok, fun p hp => ⟨(b.at_ p hp).2, by rw [show 1 - (1 - f) = f by have := b.hf; omega]; exact (b.at_ p hp).1⟩⟩
def isCR (p : Pc) : Bool := decide (1 < p.1)
def atJ (ps : List Pc) (x : Nat) : Option Pc := ps.find? fun p => isCR p && decide (mn p.2.1 = x)
def psJ (ps : List Pc) (j : Nat) : List Pc := (List.range j).filterMap (atJ ps)
theorem psJ_step {ps : List Pc} {j : Nat} : psJ ps (j + 1) = psJ ps j ++ (match atJ ps j with | none => [] | some b => [b]) := by
  unfold psJ
  rw [List.range_succ, List.filterMap_append]
  congr 1
  rw [List.filterMap_cons, List.filterMap_nil]
  cases atJ ps j <;> rfl
def outP (A : List Nat) (p : Pc) : Bool × List Nat := (decide (p.1 = 3), canonP A p)
theorem canonP_perm {A : List Nat} {p : Pc} : (canonP A p).Perm p.2.1 := by
  have ring : (p.2.1.drop (p.2.1.idxOf (mn p.2.1)) ++ p.2.1.take (p.2.1.idxOf (mn p.2.1))).Perm p.2.1 := by
    refine List.perm_append_comm.trans ?_
    rw [List.take_append_drop]
  unfold canonP
  split
  · split
    · exact List.reverse_perm _
    · exact .refl _
  · split
    · refine List.Perm.trans ?_ ring
      generalize p.2.1.drop (p.2.1.idxOf (mn p.2.1)) ++ p.2.1.take (p.2.1.idxOf (mn p.2.1)) = l
      cases l with
      | nil => exact .refl _
      | cons a l => exact (List.reverse_perm l).cons a
    · exact ring
section
variable {A B : List Nat} {f n : Nat} {ps : List Pc}
theorem Bl.nd (b : Bl A B f ps n) : (ps.flatMap (·.2.1)).Nodup := b.perm.nodup_iff.mpr List.nodup_range
theorem Bl.lt (b : Bl A B f ps n) {p : Pc} (hp : p ∈ ps) : ∀ x ∈ p.2.1, x < n := fun x hx => List.mem_range.mp (b.perm.mem_iff.mp (List.mem_flatMap.mpr ⟨p, hp, hx⟩))
theorem Bl.own (b : Bl A B f ps n) {x : Nat} (hx : x < n) : ∃ p ∈ ps, x ∈ p.2.1 := List.mem_flatMap.mp (b.perm.mem_iff.mpr (List.mem_range.mpr hx))
theorem Bl.uq (b : Bl A B f ps n) {p q : Pc} {x : Nat} (hp : p ∈ ps) (hq : q ∈ ps) (h1 : x ∈ p.2.1) (h2 : x ∈ q.2.1) : p = q := uniqF b.nd hp hq h1 h2
theorem mn_in {p : Pc} (ok : PcOk p) : mn p.2.1 ∈ p.2.1 := mn_mem (fun z => by have := ok.pos; rw [z] at this; simp at this)
theorem atJ_some {x : Nat} {p : Pc} (h : atJ ps x = some p) : p ∈ ps ∧ 1 < p.1 ∧ mn p.2.1 = x := by
  unfold atJ at h
  have h1 := List.mem_of_find?_eq_some h
  have h2 := List.find?_some h
  rw [Bool.and_eq_true] at h2
  exact ⟨h1, of_decide_eq_true h2.1, of_decide_eq_true h2.2⟩
theorem Bl.atJ_is (b : Bl A B f ps n) {p : Pc} (hp : p ∈ ps) (h1 : 1 < p.1) : atJ ps (mn p.2.1) = some p := by
  cases h : atJ ps (mn p.2.1) with
  | none =>
    unfold atJ at h
    have := List.find?_eq_none.mp h p hp
    rw [show isCR p = true from decide_eq_true h1, decide_eq_true rfl] at this
    exact absurd rfl this
  | some q =>
    obtain ⟨hq, h2, h3⟩ := atJ_some h
    have e : q = p := b.uq hq hp (h3 ▸ mn_in (b.ok q hq)) (mn_in (b.ok p hp))
    rw [e]
theorem Bl.parts (b : Bl A B f ps n) : ∀ i, i ≤ n → partsF A B i = (psJ ps i).map (outP A)
  | 0, _ => rfl
  | i + 1, h => by
    have ih := b.parts i (by omega)
    have hi : i < n := h
    obtain ⟨p, hp, hx⟩ := b.own hi
    have ok := b.ok p hp
    obtain ⟨aA, aB⟩ := b.at_ p hp
    obtain ⟨q, hq, eq⟩ := mem_getD hx
    have eq : gt p.2.1 q = i := eq
    have hw4 := ok.w
    have hs := ok.s
    have hf := b.hf
    have seen : i ∈ (partsF A B i).flatMap (·.2) ↔ 1 < p.1 ∧ mn p.2.1 < i := by
      rw [ih, List.mem_flatMap]
      constructor
      · rintro ⟨c, hc, hic⟩
        obtain ⟨p', hp', rfl⟩ := List.mem_map.mp hc
        obtain ⟨x, hxr, hxs⟩ := List.mem_filterMap.mp hp'
        obtain ⟨m1, m2, m3⟩ := atJ_some hxs
        have hic : i ∈ p'.2.1 := canonP_perm.mem_iff.mp hic
        have := b.uq m1 hp hic hx
        subst this
        rw [m3]
        exact ⟨m2, List.mem_range.mp hxr⟩
      · rintro ⟨h1, h2⟩
        exact ⟨outP A p, List.mem_map.mpr ⟨p, List.mem_filterMap.mpr ⟨_, List.mem_range.mpr h2, b.atJ_is hp h1⟩, rfl⟩, canonP_perm.mem_iff.mpr hx⟩
    show (if gt A i ≠ gt B i ∧ i ∉ (partsF A B i).flatMap (·.2) then partsF A B i ++ [partF A B i] else partsF A B i) = _
    have eA : gt A i = gt p.2.1 (nb f p.1 p.2.1.length p.2.2 q) := by rw [← eq]; exact aA q hq
    have eB : gt B i = gt p.2.1 (nb (1 - f) p.1 p.2.1.length p.2.2 q) := by rw [← eq]; exact aB q hq
    rw [psJ_step]
    by_cases c1 : 1 < p.1
    · have differ : gt A i ≠ gt B i := by
        rw [eA, eB]
        intro e
        have e := gt_inj ok.nd (nb_lt ok hq) (nb_lt ok hq) e
        have l2 := ok.l2
        have l3 := ok.l3
        have np : nb f p.1 p.2.1.length p.2.2 q ≠ nb (1 - f) p.1 p.2.1.length p.2.2 q := by
          rw [nb_cr c1, nb_cr c1]
          by_cases par : (p.2.2 + q) % 2 = f
          · have p2 : ¬ (p.2.2 + q) % 2 = 1 - f := by omega
            rw [if_pos par, if_neg p2]
            by_cases c3 : p.1 = 3
            · obtain ⟨n4, n2⟩ := l3 c3
              rw [if_pos c3, if_pos c3]
              by_cases d1 : q + 1 < p.2.1.length
              · rw [if_pos d1]
                split <;> omega
              · rw [if_neg d1, if_pos (show 0 < q by omega)]
                omega
            · have := l2 (by omega)
              rw [if_neg c3, if_neg c3]
              by_cases d1 : q + 1 < p.2.1.length
              · rw [if_pos d1]
                split <;> omega
              · rw [if_neg d1, if_pos (show 0 < q by omega)]
                omega
          · have p2 : (p.2.2 + q) % 2 = 1 - f := by omega
            rw [if_neg par, if_pos p2]
            by_cases c3 : p.1 = 3
            · obtain ⟨n4, n2⟩ := l3 c3
              rw [if_pos c3, if_pos c3]
              by_cases d1 : q + 1 < p.2.1.length
              · rw [if_pos d1]
                split <;> omega
              · rw [if_neg d1, if_pos (show 0 < q by omega)]
                omega
            · have := l2 (by omega)
              rw [if_neg c3, if_neg c3]
              by_cases d1 : q + 1 < p.2.1.length
              · rw [if_pos d1]
                split <;> omega
              · rw [if_neg d1, if_pos (show 0 < q by omega)]
                omega
        exact np e
      by_cases cm : mn p.2.1 = i
      · have at_i : atJ ps i = some p := by rw [← cm]; exact b.atJ_is hp c1
        rw [at_i, if_pos ⟨differ, fun h => by have := (seen.mp h).2; omega⟩, ih, List.map_append]
        congr 1
        show [partF A B i] = [outP A p]
        congr 1
        have lA : ∀ x ∈ p.2.1, x < A.length := fun x hx => by rw [b.la]; exact b.lt hp x hx
        by_cases c3 : p.1 = 3
        · rw [← cm, part_ring ok c3 hf aA aB (b.la.trans b.lb.symm) lA]
          unfold outP
          rw [decide_eq_true c3]
        · rw [← eq, part_chain ok (by omega) hf aA aB (b.la.trans b.lb.symm) lA hq]
          unfold outP canonP
          rw [decide_eq_false c3, if_pos (by omega)]
          rfl
      · have lt_i : mn p.2.1 < i := by
          have := mn_le hx
          omega
        have at_i : atJ ps i = none := by
          cases h : atJ ps i with
          | none => rfl
          | some p' =>
            obtain ⟨m1, m2, m3⟩ := atJ_some h
            have := b.uq m1 hp (m3 ▸ mn_in (b.ok p' m1)) hx
            subst this
            exact absurd m3 cm
        rw [at_i, if_neg (fun h => h.2 (seen.mpr ⟨c1, lt_i⟩)), ih, List.append_nil]
    · have same : gt A i = gt B i := by
        rw [eA, eB]
        unfold nb
        by_cases c0 : p.1 = 0
        · rw [if_pos c0, if_pos c0]
        · rw [if_neg c0, if_neg c0, if_pos (by omega), if_pos (by omega)]
      have at_i : atJ ps i = none := by
        cases h : atJ ps i with
        | none => rfl
        | some p' =>
          obtain ⟨m1, m2, m3⟩ := atJ_some h
          have := b.uq m1 hp (m3 ▸ mn_in (b.ok p' m1)) hx
          subst this
          exact absurd m2 c1
      rw [at_i, if_neg (fun h => h.1 same), ih, List.append_nil]
theorem Bl.psJ_perm (b : Bl A B f ps n) : (psJ ps n).Perm (ps.filter isCR) := by
  have nd1 : (psJ ps n).Nodup := by
    have srt : (psJ ps n).Pairwise fun p q => mn p.2.1 < mn q.2.1 := by
      unfold psJ
      rw [List.pairwise_filterMap]
      refine List.Pairwise.imp ?_ List.pairwise_lt_range
      intro x y hxy p hp q hq
      have h1 := (atJ_some hp).2.2
      have h2 := (atJ_some hq).2.2
      omega
    exact srt.imp fun {p q} h z => by rw [z] at h; exact Nat.lt_irrefl _ h
  have nd2 : ps.Nodup := by
    have g : ∀ qs : List Pc, (qs.flatMap (·.2.1)).Nodup → (∀ p ∈ qs, PcOk p) → qs.Nodup := fun qs => by
      induction qs with
      | nil => exact fun _ _ => List.nodup_nil
      | cons a qs ih =>
        intro nd ok
        rw [List.flatMap_cons, List.nodup_append] at nd
        refine List.nodup_cons.mpr ⟨fun h => ?_, ih nd.2.1 fun p hp => ok p (List.mem_cons_of_mem _ hp)⟩
        have m := mn_in (ok a (List.mem_cons_self ..))
        exact nd.2.2 _ m _ (List.mem_flatMap.mpr ⟨a, h, m⟩) rfl
    exact g ps b.nd b.ok
  refine (List.perm_ext_iff_of_nodup nd1 (nd2.sublist List.filter_sublist)).mpr fun p => ?_
  rw [List.mem_filter]
  constructor
  · intro h
    obtain ⟨x, _, hx⟩ := List.mem_filterMap.mp h
    obtain ⟨m1, m2, _⟩ := atJ_some hx
    exact ⟨m1, decide_eq_true m2⟩
  · rintro ⟨h1, h2⟩
    exact List.mem_filterMap.mpr ⟨mn p.2.1, List.mem_range.mpr (b.lt h1 _ (mn_in (b.ok p h1))), b.atJ_is h1 (of_decide_eq_true h2)⟩
end
/-! gains -/
def cntA (A l : List Nat) : Nat := (l.filter fun x => decide (gt A x ≠ x)).length
def gainF (A B l : List Nat) : Int := ((cntA B l : Int) - (cntA A l : Int)) / 2
def cntF (r w n s : Nat) : Nat := ((List.range n).filter fun k => decide (nb r w n s k ≠ k)).length
theorem gain_tab : ((List.range 65).all fun n => (List.range 2).all fun s => (List.range 2).all fun f => decide (n < 2) || (((cntF (1 - f) 2 n s : Int) - (cntF f 2 n s : Int)) / 2 == if n % 2 = 1 then 0 else if s = f then -1 else 1)) = true := by decide +kernel
theorem line_map {l : List Nat} : l = (List.range l.length).map (gt l) := by
  refine List.ext_getElem (by simp) fun j h1 h2 => ?_
  rw [List.getElem_map, List.getElem_range]
  unfold gt
  rw [List.getD_eq_getElem?_getD, List.getElem?_eq_getElem h1]
  rfl
theorem cnt_line {A : List Nat} {p : Pc} {r : Nat} (ok : PcOk p) (a : PcAt A r p) : cntA A p.2.1 = cntF r p.1 p.2.1.length p.2.2 := by
  unfold cntA cntF
  conv => lhs; rw [line_map (l := p.2.1)]
  rw [List.filter_map, List.length_map]
  congr 1
  refine List.filter_congr fun k hk => ?_
  have hk := List.mem_range.mp hk
  show decide (gt A (gt p.2.1 k) ≠ gt p.2.1 k) = _
  rw [a k hk]
  rw [Bool.eq_iff_iff, decide_eq_true_eq, decide_eq_true_eq]
  constructor
  · intro h e
    rw [e] at h
    exact h rfl
  · intro h e
    exact h (gt_inj ok.nd (nb_lt ok hk) hk e)
def dueG (f : Nat) (p : Pc) : Int := if p.1 = 3 then 0 else if p.2.1.length % 2 = 1 then 0 else if p.2.2 = f then -1 else 1
theorem cnt_perm {A l m : List Nat} (h : l.Perm m) : cntA A l = cntA A m := (h.filter _).length_eq
theorem gain_is {A B : List Nat} {p : Pc} {f : Nat} (ok : PcOk p) (hf : f < 2) (h1 : 1 < p.1) (h64 : p.2.1.length ≤ 64) (a : PcAt A f p) (b : PcAt B (1 - f) p) {l : List Nat} (hl : l.Perm p.2.1) : gainF A B l = dueG f p := by
  unfold gainF dueG
  rw [cnt_perm hl, cnt_perm hl, cnt_line ok a, cnt_line ok b]
  have hw := ok.w
  by_cases c3 : p.1 = 3
  · obtain ⟨n4, n2⟩ := ok.l3 c3
    rw [if_pos c3]
    have all : ∀ r, cntF r p.1 p.2.1.length p.2.2 = p.2.1.length := fun r => by
      unfold cntF
      rw [List.filter_eq_self.mpr, List.length_range]
      intro k hk
      have hk := List.mem_range.mp hk
      refine decide_eq_true ?_
      unfold nb
      rw [if_neg (by omega), if_neg (by omega)]
      split <;> split <;> omega
    rw [all, all, Int.sub_self]
    rfl
  · have n2 := ok.l2 (by omega)
    have hs := ok.s
    rw [if_neg c3, show p.1 = 2 by omega]
    have t := gain_tab
    rw [List.all_eq_true] at t
    have t := t p.2.1.length (List.mem_range.mpr (by omega))
    rw [List.all_eq_true] at t
    have t := t p.2.2 (List.mem_range.mpr hs)
    rw [List.all_eq_true] at t
    have t := t f (List.mem_range.mpr hf)
    rw [decide_eq_false (by omega), Bool.false_or] at t
    exact beq_iff_eq.mp t
/-! entries -/
abbrev Ent := Nat × Int × Int
def entO (A B : List Nat) (c : Bool × List Nat) : Ent := (if c.1 then 1 else 0, (c.2.length : Int), gainF A B c.2)
noncomputable def entsF (A B : List Nat) (n : Nat) : List Ent := (partsF A B n).map (entO A B)
def entD (f : Nat) (p : Pc) : Ent := (if p.1 = 3 then 1 else 0, (p.2.1.length : Int), dueG f p)
def entsD (f : Nat) (ps : List Pc) : List Ent := (ps.filter isCR).map (entD f)
theorem Bl.ents {A B : List Nat} {f n : Nat} {ps : List Pc} (b : Bl A B f ps n) (h64 : n ≤ 64) : (entsF A B n).Perm (entsD f ps) := by
  unfold entsF entsD
  rw [b.parts n (Nat.le_refl _), List.map_map]
  have e : (psJ ps n).map (entO A B ∘ outP A) = (psJ ps n).map (entD f) := by
    refine List.map_congr_left fun p hp => ?_
    obtain ⟨x, _, hx⟩ := List.mem_filterMap.mp hp
    obtain ⟨m1, m2, _⟩ := atJ_some hx
    have len : p.2.1.length ≤ 64 := Nat.le_trans (nodup_len (b.ok p m1).nd (b.lt m1)) h64
    obtain ⟨aA, aB⟩ := b.at_ p m1
    show entO A B (outP A p) = entD f p
    unfold entO entD outP
    show ((if decide (p.1 = 3) = true then 1 else 0 : Nat), ((canonP A p).length : Int), gainF A B (canonP A p)) = _
    rw [gain_is (b.ok p m1) b.hf m2 len aA aB canonP_perm, canonP_perm.length_eq]
    by_cases c3 : p.1 = 3
    · rw [decide_eq_true c3, if_pos rfl, if_pos c3]
    · rw [decide_eq_false c3, if_neg c3]
      rfl
  rw [e]
  exact b.psJ_perm.map _
end Pv

namespace Pv
open PySem L2 Evl Pm
def nI (xs : List Nat) : List V := xs.map fun x : Nat => V.int (x : Int)
def ListN (H : Hp) (p : Addr) (xs : List Nat) : Prop := H p = some (.lst (nI xs))
theorem nI_len (xs : List Nat) : (nI xs).length = xs.length := List.length_map ..
theorem ListN.sz {K : PySem.W.Frag} {H : Hp} {p : Addr} {xs : List Nat} (h : ListN H p xs) : SqL K H p (nI xs) := SqL.of h
theorem ListN.ex {H H1 : Hp} {a : Addr} {xs : List Nat} (e : Ex H H1) (h : ListN H a xs) : ListN H1 a xs := e a _ h
theorem nat_at {ns : List Nat} {i : Nat} {y : V} (h : (nI ns)[i]? = some y) : i < ns.length ∧ y = V.int ((ns.getD i 0 : Nat) : Int) := by
  unfold nI at h
  rw [List.getElem?_map] at h
  cases e : ns[i]? with
  | none =>
    rw [e] at h
    cases h
  | some z =>
    rw [e] at h
    refine ⟨(List.getElem?_eq_some_iff.mp e).1, ?_⟩
    rw [List.getD_eq_getElem?_getD, e]
    exact (Option.some.inj h).symm
theorem ixN_ {xs : List Nat} {j : Nat} (h : j < xs.length) : (nI xs)[j]? = some (V.int ((xs.getD j 0 : Nat) : Int)) := by
  unfold nI
  rw [List.getElem?_map, List.getD_eq_getElem?_getD, List.getElem?_eq_getElem h]
  rfl
theorem atN {xs : List Nat} {j : Nat} (h : j < xs.length) : atI (nI xs) (j : Int) = some (V.int ((xs.getD j 0 : Nat) : Int)) := atI_nat (ixN_ h)
theorem ex_new {H H1 : Hp} {p : Addr} {o : HO} (e : Ex H H1) (h : H1 p = none) : Ex H (upd H1 p o) := e.trans (Ex.new h)
theorem nI_app {xs : List Nat} {v : Nat} : nI (xs ++ [v]) = nI xs ++ [V.int (v : Int)] := by
  unfold nI
  rw [List.map_append]
  rfl
theorem acc_step {G H' : Hp} {D : Addr} {ls : List Nat} {v : Nat} (hD : G D = none) (e : Ex G H') : Ex G (upd H' D (.lst (nI ls ++ [V.int (v : Int)]))) ∧ ListN (upd H' D (.lst (nI ls ++ [V.int (v : Int)]))) D (ls ++ [v]) := by
  refine ⟨fun b o hb => ?_, ?_⟩
  · rw [upd_ne (ne_of_none hb hD)]
    exact e b o hb
  · show upd H' D _ D = _
    rw [upd_same, nI_app]
theorem take_map_succ {xs : List Nat} {j : Nat} (h : j < xs.length) (f : Nat → Nat) : (xs.take (j + 1)).map f = (xs.take j).map f ++ [f (xs.getD j 0)] := by
  rw [List.take_add_one, List.getElem?_eq_getElem h, List.map_append, List.getD_eq_getElem?_getD, List.getElem?_eq_getElem h]
  rfl
theorem take_succ {xs : List Nat} {j : Nat} (h : j < xs.length) : xs.take (j + 1) = xs.take j ++ [xs.getD j 0] := by
  rw [List.take_add_one, List.getElem?_eq_getElem h, List.getD_eq_getElem?_getD, List.getElem?_eq_getElem h]
  rfl
theorem take_filter_pos {xs : List Nat} {j : Nat} (h : j < xs.length) {q : Nat → Bool} (c : q (xs.getD j 0) = true) : (xs.take (j + 1)).filter q = (xs.take j).filter q ++ [xs.getD j 0] := by
  rw [take_succ h, List.filter_append, List.filter_cons, if_pos c]
  rfl
theorem take_filter_neg {xs : List Nat} {j : Nat} (h : j < xs.length) {q : Nat → Bool} (c : q (xs.getD j 0) = false) : (xs.take (j + 1)).filter q = (xs.take j).filter q := by
  rw [take_succ h, List.filter_append, List.filter_cons, if_neg (by rw [c]; decide)]
  exact List.append_nil _
theorem flat_nI : ∀ xs : List Nat, (nI xs).all flatV = true
  | [] => rfl
  | _ :: xs => flat_nI xs
theorem inV_nI {x : Nat} : ∀ xs : List Nat, inV (V.int (x : Int)) (nI xs) = xs.contains x
  | [] => rfl
  | y :: xs => by
    show (eqV (V.int (y : Int)) (V.int (x : Int)) || inV (V.int (x : Int)) (nI xs)) = _
    rw [inV_nI xs, List.contains_cons]
    congr 1
    show ((y : Int) == (x : Int)) = (x == y)
    rw [Bool.eq_iff_iff, beq_iff_eq, beq_iff_eq]
    omega
theorem eqV_nat {x y : Nat} : eqV (V.int (x : Int)) (V.int (y : Int)) = true ↔ x = y := by
  show ((x : Int) == (y : Int)) = true ↔ _
  rw [beq_iff_eq]
  omega
def ListI' (H : Hp) (p : Addr) (xs : List Int) : Prop := H p = some (.lst (xs.map V.int))
def badN (xs : List Int) (k : Nat) : Bool := decide (xs.getD k 0 < 0) || decide ((xs.length : Int) ≤ xs.getD k 0)
def firstOf (p : Nat → Bool) (n : Nat) : Option Nat := (List.range n).find? p
theorem firstOf_some {p : Nat → Bool} {n i : Nat} (hi : i < n) (hp : p i = true) (h : ∀ j, j < i → p j = false) : firstOf p n = some i := by
  unfold firstOf
  rw [List.find?_range_eq_some]
  exact ⟨hp, List.mem_range.mpr hi, fun j hj => by rw [h j hj]; rfl⟩
theorem firstOf_none {p : Nat → Bool} {n : Nat} (h : ∀ j, j < n → p j = false) : firstOf p n = none := by
  unfold firstOf
  rw [List.find?_range_eq_none]
  exact fun j hj => by rw [h j hj]; rfl
theorem firstOf_no {p : Nat → Bool} {n : Nat} (h : firstOf p n = none) : ∀ j, j < n → p j = false := by
  unfold firstOf at h
  rw [List.find?_range_eq_none] at h
  intro j hj
  have := h j hj
  simpa using this
theorem firstOf_is {p : Nat → Bool} {n i : Nat} (h : firstOf p n = some i) : i < n ∧ p i = true ∧ ∀ j, j < i → p j = false := by
  unfold firstOf at h
  rw [List.find?_range_eq_some] at h
  exact ⟨List.mem_range.mp h.2.1, h.1, fun j hj => by have := h.2.2 j hj; simpa using this⟩
def strayI (xs : List Int) : Option Nat := firstOf (badN xs) xs.length
def spInit (C : Addr) (f : Str) : Sp := fun vs H Q _ => ∃ (a : Addr) (v : V), vs = [.ref a, v] ∧ H a = some (exo a C none) ∧ ∀ dx, H dx = none → dx ≠ a → Q .non (upd (upd H dx (exd dx [(f, v)])) a (exo a C (some dx)))
theorem mkO_go {C : Addr} {f : Str} {v : V} {H1 : Hp} {Q : XK} (k : ∀ d H', Ex H1 H' → H' d = some (.xd [(f, v)]) → Q (.ref C) (some d) H') (e : Addr) (he : H1 e = none) :
    spInit C f (.ref e :: ([v] ++ [])) (upd H1 e (exo e C none)) (fun v H2 => v = .non ∧ ∃ (d : Addr) (fs : List (Str × V)), H2 e = some (exo e C (some d)) ∧ H2 d = some (exd d fs) ∧ H1 d = none ∧ Q (.ref C) (some d) (upd (L2.del H2 e) d (.xd fs))) (fun _ _ _ => False) := by
  refine ⟨e, v, rfl, upd_same, fun dx hdx ne => ⟨rfl, dx, _, upd_same, (by rw [upd_ne ne, upd_same]), ?_, k dx _ ?_ upd_same⟩⟩
  · rw [upd_ne ne] at hdx
    exact hdx
  · rw [upd_ne ne] at hdx
    intro b o hb
    have n1 : b ≠ dx := ne_of_none hb hdx
    have n2 : b ≠ e := ne_of_none hb he
    rw [upd_ne n1, del_ne n2, upd_ne n2, upd_ne n1, upd_ne n2]
    exact hb
theorem units65R {k : Nat} {A : Around} (r : Room k A) : A.units + 65 < cLine := by have := r.un; omega
theorem huH {k : Nat} {A : Around} (r : L2H.RoomH k A) : A.units + 1 < cLine := by have := r.un; omega
theorem units65H {k : Nat} {A : Around} (r : L2H.RoomH k A) : A.units + 65 < cLine := by have := r.un; omega
theorem rd_ex {H H' : Hp} {a : Addr} {u : HO} (e : Ex H H') (h : Rd H a u) : Rd H' a u := h.elim (fun z => .inl (e _ _ z)) fun ⟨o, z⟩ => .inr ⟨o, e _ _ z⟩
theorem sqL_ex {K : PySem.W.Frag} {H H' : Hp} {a : Addr} {xs : List V} (e : Ex H H') (h : SqL K H a xs) : SqL K H' a xs := h.elim (fun z => .inl (rd_ex e z)) .inr
theorem back_none {H H1 : Hp} {p : Addr} (e : Ex H H1) (h : H1 p = none) : H p = none := by
  cases q : H p with
  | none => rfl
  | some o =>
    rw [e p o q] at h
    cases h

def natI (xs : List Int) : List Nat := xs.map Int.toNat
theorem natI_len {xs : List Int} : (natI xs).length = xs.length := List.length_map ..
theorem natI_at {xs : List Int} (h : strayI xs = none) {k : Nat} (hk : k < xs.length) : xs.getD k 0 = (((natI xs).getD k 0 : Nat) : Int) ∧ (natI xs).getD k 0 < xs.length := by
  have q := firstOf_no h k hk
  unfold badN at q
  rw [Bool.or_eq_false_iff] at q
  have q1 := of_decide_eq_false q.1
  have q2 := of_decide_eq_false q.2
  have e : (natI xs).getD k 0 = (xs.getD k 0).toNat := by
    unfold natI
    rw [List.getD_eq_getElem?_getD, List.getElem?_map, List.getD_eq_getElem?_getD, List.getElem?_eq_getElem hk]
    rfl
  rw [e]
  omega
theorem natI_map {xs : List Int} (h : strayI xs = none) : nI (natI xs) = xs.map V.int := by
  unfold nI natI
  rw [List.map_map]
  refine List.ext_getElem (by rw [List.length_map, List.length_map]) fun k h1 h2 => ?_
  rw [List.length_map] at h1
  rw [List.getElem_map, List.getElem_map]
  have := (natI_at h h1).1
  have e : (natI xs).getD k 0 = (xs.getD k 0).toNat := by
    unfold natI
    rw [List.getD_eq_getElem?_getD, List.getElem?_map, List.getD_eq_getElem?_getD, List.getElem?_eq_getElem h1]
    rfl
  rw [e, List.getD_eq_getElem?_getD, List.getElem?_eq_getElem h1] at this
  exact congrArg V.int this.symm
def toI (ys : List Nat) : List Int := ys.map fun x : Nat => (x : Int)
theorem toI_len {ys : List Nat} : (toI ys).length = ys.length := List.length_map ..
theorem toI_v {ys : List Nat} : (toI ys).map V.int = nI ys := by
  unfold toI nI
  rw [List.map_map]
  rfl
theorem toI_nat {ys : List Nat} : natI (toI ys) = ys := by
  unfold natI toI
  rw [List.map_map]
  exact (List.map_congr_left fun x _ => Int.toNat_natCast x).trans (List.map_id' ys)
theorem toI_at {ys : List Nat} {j : Nat} (h : j < ys.length) : (toI ys).getD j 0 = ((ys.getD j 0 : Nat) : Int) := by
  unfold toI
  rw [List.getD_eq_getElem?_getD, List.getElem?_map, List.getElem?_eq_getElem h, List.getD_eq_getElem?_getD, List.getElem?_eq_getElem h]
  rfl
theorem ListI.ex {H H1 : Hp} {a : Addr} {xs : List Int} (e : Ex H H1) (h : ListI H a xs) : ListI H1 a xs := e a _ h
theorem ListN.int {H : Hp} {a : Addr} {ys : List Nat} (h : ListN H a ys) : ListI H a (toI ys) := by
  show H a = _
  rw [toI_v]
  exact h
theorem ListI.nat {H : Hp} {a : Addr} {xs : List Int} (h : ListI H a xs) (s : strayI xs = none) : ListN H a (natI xs) := by
  show H a = _
  rw [natI_map s]
  exact h
def unset (ys : List Nat) : Option Nat := firstOf (fun x => decide (gt ys (gt ys x) ≠ x)) ys.length
def faultS (xs : List Int) : Option (Nat × Nat) := match strayI xs with
  | some k => some (1, k)
  | none => (unset (natI xs)).map fun k => (2, k)
def faultF (xs zs : List Int) : Option (Nat × Nat) := match faultS xs with
  | some f => some f
  | none => match faultS zs with
    | some f => some f
    | none => if xs.length ≠ zs.length then some (3, 0) else none
theorem faultS_no {xs : List Int} (h : faultS xs = none) : strayI xs = none ∧ Sta (natI xs) := by
  unfold faultS at h
  cases s : strayI xs with
  | some k => rw [s] at h; cases h
  | none =>
    rw [s] at h
    have u : unset (natI xs) = none := Option.map_eq_none_iff.mp h
    refine ⟨rfl, fun x hx => ?_, fun x hx => ?_⟩
    · rw [natI_len] at hx ⊢
      exact (natI_at s hx).2
    · have := of_decide_eq_false (firstOf_no u x hx)
      exact Decidable.not_not.mp this
theorem faultF_no {xs zs : List Int} (h : faultF xs zs = none) : faultS xs = none ∧ faultS zs = none ∧ xs.length = zs.length := by
  unfold faultF at h
  cases s : faultS xs with
  | some f => rw [s] at h; cases h
  | none =>
    rw [s] at h
    cases t : faultS zs with
    | some f => simp only [t] at h; cases h
    | none =>
      simp only [t] at h
      by_cases c : xs.length = zs.length
      · exact ⟨rfl, rfl, c⟩
      · rw [if_pos c] at h
        cases h
theorem sta_fault {ys : List Nat} (s : Sta ys) : strayI (toI ys) = none ∧ faultS (toI ys) = none := by
  have a : strayI (toI ys) = none := by
    refine firstOf_none fun j hj => ?_
    rw [toI_len] at hj
    unfold badN
    rw [toI_at hj, toI_len, decide_eq_false (by omega), decide_eq_false (by have := s.lt j hj; unfold gt at this; omega)]
    rfl
  refine ⟨a, ?_⟩
  unfold faultS
  rw [a]
  show (unset (natI (toI ys))).map _ = none
  rw [toI_nat]
  have : unset ys = none := firstOf_none fun j hj => by
    show decide _ = false
    rw [decide_eq_false]
    exact fun h => h (s.inv j hj)
  rw [this]
  rfl
def spWk : Sp := fun vs H Q _ => ∃ (a b : Addr) (ys zs w : List Nat) (s : Nat), vs = [.ref a, .ref b, .int (s : Int)] ∧ ListN H a ys ∧ ListN H b zs ∧ zs.length = ys.length ∧ ys.length ≤ 65 ∧ Trl ys zs s w ∧ ∀ p H', H p = none → Ex H H' → ListN H' p w → Q (.ref p) H'
def wE : Nat → Str
  | 0 => "chain"
  | _ => "ring"
def rgB (b : Bool) : Nat := if b then 1 else 0
def PrtAt (H : Hp) (t : Addr) (c : Bool × List Nat) : Prop := ∃ l, H t = some (.tup [.str (wE (rgB c.1)), .ref l]) ∧ ListN H l c.2
theorem PrtAt.ex {H H' : Hp} {t : Addr} {c : Bool × List Nat} (e : Ex H H') (h : PrtAt H t c) : PrtAt H' t c := by
  obtain ⟨l, h1, h2⟩ := h
  exact ⟨l, e _ _ h1, h2.ex e⟩
def PrtsAt (H : Hp) (p : Addr) (cs : List (Bool × List Nat)) : Prop := ∃ ts : List Addr, H p = some (.lst (ts.map V.ref)) ∧ ts.length = cs.length ∧ ∀ (i : Nat) (t : Addr) (c : Bool × List Nat), ts[i]? = some t → cs[i]? = some c → PrtAt H t c
theorem PrtsAt.ex {H H' : Hp} {p : Addr} {cs : List (Bool × List Nat)} (e : Ex H H') (h : PrtsAt H p cs) : PrtsAt H' p cs := by
  obtain ⟨ts, h1, h2, h3⟩ := h
  exact ⟨ts, e _ _ h1, h2, fun i t c a b => (h3 i t c a b).ex e⟩
def spPt : Sp := fun vs H Q _ => ∃ (a b : Addr) (ys zs : List Nat) (x : Nat), vs = [.ref a, .ref b, .int (x : Int)] ∧ ListN H a ys ∧ ListN H b zs ∧ Sta ys ∧ Sta zs ∧ zs.length = ys.length ∧ ys.length ≤ 65 ∧ x < ys.length ∧ ∀ p l H', H p = none → H l = none → Ex H H' → H' p = some (.tup [.str (wE (rgB (partF ys zs x).1)), .ref l]) → ListN H' l (partF ys zs x).2 → Q (.ref p) H'
def spGn : Sp := fun vs H Q _ => ∃ (a b r : Addr) (ys zs l : List Nat), vs = [.ref a, .ref b, .ref r] ∧ ListN H a ys ∧ ListN H b zs ∧ ListN H r l ∧ zs.length = ys.length ∧ ys.length ≤ 65 ∧ l.length ≤ 200 ∧ (∀ x ∈ l, x < ys.length) ∧ ∀ H', Ex H H' → Q (.int (gainF ys zs l)) H'
def EntAt (H : Hp) (t : Addr) (e : Ent) : Prop := H t = some (.tup [.str (wE e.1), .int e.2.1, .int e.2.2])
def leE (e f : Ent) : Bool := decide (e.1 < f.1) || (decide (e.1 = f.1) && (decide (e.2.1 < f.2.1) || (decide (e.2.1 = f.2.1) && decide (e.2.2 ≤ f.2.2))))
def KindAt (H : Hp) (p : Addr) (es : List Ent) : Prop := ∃ ts : List Addr, H p = some (.tup (ts.map V.ref)) ∧ ts.length = es.length ∧ ∀ (i : Nat) (t : Addr) (e : Ent), ts[i]? = some t → es[i]? = some e → EntAt H t e
def EntsAt (H : Hp) (p : Addr) (es : List Ent) : Prop := ∃ ts : List Addr, H p = some (.lst (ts.map V.ref)) ∧ ts.length = es.length ∧ ∀ (i : Nat) (t : Addr) (e : Ent), ts[i]? = some t → es[i]? = some e → EntAt H t e
theorem KindAt.ex {H H' : Hp} {p : Addr} {es : List Ent} (e : Ex H H') (h : KindAt H p es) : KindAt H' p es := by
  obtain ⟨ts, h1, h2, h3⟩ := h
  exact ⟨ts, e _ _ h1, h2, fun i t c a b => e _ _ (h3 i t c a b)⟩
theorem EntsAt.ex {H H' : Hp} {p : Addr} {es : List Ent} (e : Ex H H') (h : EntsAt H p es) : EntsAt H' p es := by
  obtain ⟨ts, h1, h2, h3⟩ := h
  exact ⟨ts, e _ _ h1, h2, fun i t c a b => e _ _ (h3 i t c a b)⟩
/-- a def that is told of the handled exception -/
def Oke (P : Program) (w : World) (K : PySem.W.Frag) (mg : Str → Option Value) (base : Heap) (k : Nat) (f : Addr) (ps : List Str) (sp : HotE.SpE) : Prop := ∃ fd, HotE.FnE P w K mg base CX0 k f fd ps sp ∧ Binds K fd ps []
end Pv
namespace L2
open PySem
theorem op_inK {X : Cx} {K : PySem.W.Frag} (h : X.K = K) : OpR X (compareOp .In) (rIn K false) := by
  subst h
  exact op_in_seq
end L2

namespace Pv
open PySem L2 Evl Pm PySem.W
def encE (e : Ent) : PyData := .tuple [.str (wE e.1), .int e.2.1, .int e.2.2]
def ltE (e f : Ent) : Bool := decide (e.1 < f.1) || (decide (e.1 = f.1) && (decide (e.2.1 < f.2.1) || (decide (e.2.1 = f.2.1) && decide (e.2.2 < f.2.2))))
theorem le_lt {e f : Ent} : leE e f = !ltE f e := by
  unfold leE ltE
  rw [Bool.eq_iff_iff]
  simp only [Bool.or_eq_true, Bool.and_eq_true, decide_eq_true_eq, Bool.not_eq_true', Bool.or_eq_false_iff, Bool.and_eq_false_iff, decide_eq_false_iff_not]
  omega
theorem str_lt : ∀ i, i < 2 → ∀ j, j < 2 → i ≠ j → dataLt (.str (wE i)) (.str (wE j)) = decide (i < j) := by
  intro i hi j hj
  rw [dataLt_str]
  match i, hi, j, hj with
  | 0, _, 0, _ => exact fun h => absurd rfl h
  | 0, _, 1, _ => exact fun _ => by decide +kernel
  | 1, _, 0, _ => exact fun _ => by decide +kernel
  | 1, _, 1, _ => exact fun h => absurd rfl h
theorem str_eq : ∀ i, i < 2 → ∀ j, j < 2 → PyData.eqv (.str (wE i)) (.str (wE j)) = decide (i = j) := by
  intro i hi j hj
  match i, hi, j, hj with
  | 0, _, 0, _ => decide +kernel
  | 0, _, 1, _ => decide +kernel
  | 1, _, 0, _ => decide +kernel
  | 1, _, 1, _ => decide +kernel
theorem int_eq (x y : Int) : PyData.eqv (.int x) (.int y) = decide (x = y) := by
  show (x == y) = _
  rw [Bool.eq_iff_iff, beq_iff_eq, decide_eq_true_eq]
theorem data_lt {e f : Ent} (he : e.1 < 2) (hf : f.1 < 2) : dataLt (encE e) (encE f) = ltE e f := by
  unfold encE
  rw [dataLt_tuple, dataLt_cons (by simp [alike]), str_eq _ he _ hf, dataLt_cons (by simp [alike]), int_eq, dataLt_cons (by simp [alike]), int_eq, dataLt_int, dataLt_int]
  unfold ltE
  by_cases c1 : e.1 = f.1
  · rw [decide_eq_true c1, if_pos rfl, decide_eq_false (show ¬ e.1 < f.1 by omega)]
    by_cases c2 : e.2.1 = f.2.1
    · rw [decide_eq_true c2, if_pos rfl, decide_eq_false (show ¬ e.2.1 < f.2.1 by omega)]
      by_cases c3 : e.2.2 = f.2.2
      · rw [decide_eq_true c3, if_pos rfl, decide_eq_false (show ¬ e.2.2 < f.2.2 by omega)]
        rfl
      · rw [decide_eq_false c3, if_neg (by decide)]
        simp
    · rw [decide_eq_false c2, if_neg (by decide)]
      simp
  · rw [decide_eq_false c1, if_neg (by decide), str_lt _ he _ hf c1]
    simp
theorem alike_ent (e f : Ent) : alike (encE e) (encE f) = true := by simp [encE, alike, alikeAll]
theorem depth_ent (e : Ent) : (encE e).depth ≤ 60 := by simp [encE, PyData.depth, PyData.depthAll]
theorem dp_ent {K : PySem.W.Frag} {H : Hp} {t : Addr} {e : Ent} (h : EntAt H t e) : Dp K H (.ref t) (encE e) := .tup (SqT.of h) (.cons (.str _) (.cons (.int _) (.cons (.int _) .nil)))
theorem le_trans' {e f g : Ent} (h1 : leE e f = true) (h2 : leE f g = true) : leE e g = true := by
  unfold leE at *
  simp only [Bool.or_eq_true, Bool.and_eq_true, decide_eq_true_eq] at *
  omega
theorem le_total' (e f : Ent) : leE e f = true ∨ leE f e = true := by
  unfold leE
  simp only [Bool.or_eq_true, Bool.and_eq_true, decide_eq_true_eq]
  omega
theorem le_anti {e f : Ent} (h1 : leE e f = true) (h2 : leE f e = true) : e = f := by
  obtain ⟨a, b, c⟩ := e
  obtain ⟨a', b', c'⟩ := f
  unfold leE at *
  simp only [Bool.or_eq_true, Bool.and_eq_true, decide_eq_true_eq] at *
  have e1 : a = a' := by omega
  have e2 : b = b' := by omega
  have e3 : c = c' := by omega
  rw [e1, e2, e3]
/-- the ascending row of the entries is but one -/
theorem sorted_one {es fs : List Ent} (p : es.Perm fs) (h1 : es.Pairwise fun e f => leE e f = true) (h2 : fs.Pairwise fun e f => leE e f = true) : es = fs :=
  List.Perm.eq_of_pairwise (fun a b _ _ x y => le_anti x y) h1 h2 p
/-- entries laid out, sorted -/
theorem sort_ents {H : Hp} {ts : List Addr} {es : List Ent} (hl : ts.length = es.length) (h : ∀ (i : Nat) (t : Addr) (e : Ent), ts[i]? = some t → es[i]? = some e → EntAt H t e) (h2 : ∀ e ∈ es, e.1 < 2) :
    ∃ (ts' : List Addr) (es' : List Ent), ((((ts.zip es).map fun z => (V.ref z.1, encE z.2)).mergeSort (dataLe false Prod.snd)).map Prod.fst) = ts'.map V.ref ∧ es'.Perm es ∧ es'.Pairwise (fun e f => leE e f = true) ∧ ts'.length = es'.length ∧ ∀ (i : Nat) (t : Addr) (e : Ent), ts'[i]? = some t → es'[i]? = some e → EntAt H t e := by
  have at_ : ∀ z ∈ ts.zip es, EntAt H z.1 z.2 := fun z hz => by
    obtain ⟨i, hi, e⟩ := List.getElem_of_mem hz
    have e2 : (ts.zip es)[i]? = some z := by rw [List.getElem?_eq_getElem hi, e]
    rw [List.getElem?_zip_eq_some] at e2
    exact h i _ _ e2.1 e2.2
  have m2 : ∀ z ∈ ts.zip es, z.2.1 < 2 := fun z hz => h2 _ (List.of_mem_zip hz).2
  have sm : ((ts.zip es).map fun z => (V.ref z.1, encE z.2)).mergeSort (dataLe false Prod.snd) = ((ts.zip es).mergeSort fun a b => leE a.2 b.2).map fun z => (V.ref z.1, encE z.2) := by
    refine (sort_maps (fun z : Addr × Ent => (V.ref z.1, encE z.2)) fun a ha b hb => ?_).symm
    show leE a.2 b.2 = !dataLt (encE b.2) (encE a.2)
    rw [data_lt (m2 b hb) (m2 a ha), le_lt]
  refine ⟨((ts.zip es).mergeSort fun a b => leE a.2 b.2).map Prod.fst, ((ts.zip es).mergeSort fun a b => leE a.2 b.2).map Prod.snd, ?_, ?_, ?_, ?_, fun i t e h3 h4 => ?_⟩
  · rw [sm, List.map_map, List.map_map]
    rfl
  · have p := (List.mergeSort_perm (ts.zip es) fun a b => leE a.2 b.2).map Prod.snd
    rw [List.map_snd_zip (by omega)] at p
    exact p
  · rw [List.pairwise_map]
    exact List.pairwise_mergeSort (le := fun a b : Addr × Ent => leE a.2 b.2) (fun a b c x y => le_trans' x y) (fun a b => by
      rw [Bool.or_eq_true]
      exact le_total' a.2 b.2) _
  · rw [List.length_map, List.length_map]
  · rw [List.getElem?_map] at h3 h4
    cases q : ((ts.zip es).mergeSort fun a b => leE a.2 b.2)[i]? with
    | none => rw [q] at h3; cases h3
    | some z =>
      rw [q] at h3 h4
      cases h3
      cases h4
      exact at_ z ((List.mergeSort_perm (ts.zip es) fun a b => leE a.2 b.2).mem_iff.mp (List.mem_of_getElem? q))
end Pv

namespace Pv
open PySem L2 Evl Pm
def Bx (H : Hp) (b c : Addr) : Prop := ∃ (ns : List Int) (d i k s : Int), H b = some (.lst [.ref c, .int d, .int i, .int k, .int s]) ∧ H c = some (.lst (ns.map V.int)) ∧ 0 ≤ d ∧ 0 ≤ i
theorem Bx.ne {H : Hp} {b c p : Addr} (B : Bx H b c) (h : H p = none) : p ≠ b ∧ p ≠ c := by
  obtain ⟨ns, d, i, k, s, h1, h2, _⟩ := B
  exact ⟨(fun e => by rw [e, h1] at h; cases h), (fun e => by rw [e, h2] at h; cases h)⟩
theorem Bx.bc {H : Hp} {b c : Addr} (B : Bx H b c) : b ≠ c := by
  obtain ⟨ns, d, i, k, s, h1, h2, _⟩ := B
  intro e
  rw [e, h2] at h1
  have h3 := HO.lst.inj (Option.some.inj h1)
  cases ns with
  | nil => cases h3
  | cons a l => cases h3
theorem Bx.keep {H H' : Hp} {b c : Addr} (B : Bx H b c) (h1 : ∀ o, H b = some o → H' b = some o) (h2 : ∀ o, H c = some o → H' c = some o) : Bx H' b c := by
  obtain ⟨ns, d, i, k, s, a1, a2, q⟩ := B
  exact ⟨ns, d, i, k, s, h1 _ a1, h2 _ a2, q⟩
theorem Bx.ex {H H' : Hp} {b c : Addr} (e : Ex H H') (B : Bx H b c) : Bx H' b c := B.keep (e b) (e c)
theorem Mut.of_ex {b : Addr} {H H1 : Hp} (e : Ex H H1) : Mut b H H1 := fun a o _ h => e a o h
theorem bx_back {b c : Addr} {H G : Hp} (B : Bx G b c) (M : Mut b H G) {a : Addr} (h : G a = none) : H a = none := by
  cases q : H a with
  | none => rfl
  | some u =>
    rw [M a u (B.ne h).1 q] at h
    cases h
def spMix : Sp := fun vs H Q _ => ∃ x y : Int, vs = [.int x, .int y] ∧ ∀ z : Int, Q (.int z) H
def spBox (K : PySem.W.Frag) : Sp := fun vs H Q _ => ∃ (a : Addr) (ns : List Int), vs = [.ref a] ∧ SqL K H a (ns.map V.int) ∧ ns.length ≤ 63 ∧ ∀ b c H', H b = none → H c = none → Ex H H' → Bx H' b c → Q (.ref b) H'
def spDw : Sp := fun vs H Q _ => ∃ (b c : Addr) (n : Int), vs = [.ref b, .int n] ∧ 0 < n ∧ n < 1152921504606846976 ∧ Bx H b c ∧ ∀ (d : Nat) H', (d : Int) < n → Bx H' b c → Mut b H H' → Q (.int d) H'
def spSz : Sp := fun vs H Q _ => ∃ b c : Addr, vs = [.ref b] ∧ Bx H b c ∧ ∀ (n : Nat) H', n ≤ 64 → Bx H' b c → Mut b H H' → Q (.int (n : Int)) H'
def spWh : Sp := fun vs H Q _ => ∃ i j : Int, vs = [.int i, .int j] ∧ Q (.bl (decide (i = j))) H
def spRw : Sp := fun vs H Q _ => ∃ (t d : Addr) (xs : List Nat), vs = [.ref t, .ref d] ∧ ListN H t xs ∧ ListN H d xs ∧ xs.length ≤ 200 ∧ ∀ H', Ex H H' → Q (.bl true) H'
def spSpl : Sp := fun vs H Q _ => ∃ (a : Addr) (xs : List V), vs = [.ref a] ∧ H a = some (.lst xs) ∧ xs.length ≤ 65 ∧ ∀ ys H', (∀ x o, x ≠ a → H x = some o → H' x = some o) → H' a = some (.lst ys) → Q .non H'
def orM (o : Option Nat) : Int := match o with
  | some k => k
  | none => -1
def spEn : Sp := fun vs H Q _ => ∃ (a : Addr) (xs : List Int), vs = [.ref a] ∧ ListI H a xs ∧ xs.length ≤ 65 ∧ ∀ H', Ex H H' → Q (.int (orM (strayI xs))) H'
def spUn : Sp := fun vs H Q _ => ∃ (a : Addr) (xs : List Int), vs = [.ref a] ∧ ListI H a xs ∧ strayI xs = none ∧ xs.length ≤ 65 ∧ ∀ H', Ex H H' → Q (.int (orM (unset (natI xs)))) H'
def spOr : Sp := fun vs H Q _ => ∃ (b c : Addr) (n : Nat), vs = [.ref b, .int (n : Int)] ∧ n ≤ 64 ∧ Bx H b c ∧ ∀ p os H', H p = none → Bx H' b c → Mut b H H' → ListN H' p os → os.Perm (List.range n) → Q (.ref p) H'
def w4 : Nat → Str
  | 0 => "free" | 1 => "pair" | 2 => "chain" | _ => "ring"
structure Shp (room w n s : Nat) : Prop where
  hw : w < 4
  hn : n ≤ room
  hs : s < 2
  l0 : w = 0 → n = 1
  l1 : w = 1 → n = 2
  l2 : w = 2 → 2 ≤ n
  l3 : w = 3 → 4 ≤ n ∧ n % 2 = 0 ∧ s = 0
def spPc : Sp := fun vs H Q _ => ∃ (b c : Addr) (room : Nat), vs = [.ref b, .int (room : Int)] ∧ 0 < room ∧ room ≤ 64 ∧ Bx H b c ∧ ∀ p (w n s : Nat) H', H p = none → Bx H' b c → Mut b H H' → H' p = some (.lst [.str (w4 w), .int (n : Int), .int (s : Int)]) → Shp room w n s → Q (.ref p) H'
def PcLst (H : Hp) (t : Addr) (p : Pc) : Prop := ∃ l, H t = some (.lst [.str (w4 p.1), .ref l, .int (p.2.2 : Int)]) ∧ ListN H l p.2.1
theorem PcLst.ex {H H' : Hp} {t : Addr} {p : Pc} (e : Ex H H') (h : PcLst H t p) : PcLst H' t p := by
  obtain ⟨l, h1, h2⟩ := h
  exact ⟨l, e _ _ h1, h2.ex e⟩
def PcsAt (H : Hp) (q : Addr) (ps : List Pc) : Prop := ∃ ts : List Addr, H q = some (.lst (ts.map V.ref)) ∧ ts.length = ps.length ∧ ∀ (i : Nat) (t : Addr) (p : Pc), ts[i]? = some t → ps[i]? = some p → PcLst H t p
theorem PcsAt.ex {H H' : Hp} {q : Addr} {ps : List Pc} (e : Ex H H') (h : PcsAt H q ps) : PcsAt H' q ps := by
  obtain ⟨ts, h1, h2, h3⟩ := h
  exact ⟨ts, e _ _ h1, h2, fun i t p a b => (h3 i t p a b).ex e⟩
structure Cut (n : Nat) (ps : List Pc) : Prop where
  perm : (ps.flatMap (·.2.1)).Perm (List.range n)
  ok : ∀ p ∈ ps, PcOk p
  s0 : ∀ p ∈ ps, p.1 = 3 → p.2.2 = 0
def spBt : Sp := fun vs H Q _ => ∃ (b c : Addr) (n : Nat), vs = [.ref b, .int (n : Int)] ∧ n ≤ 64 ∧ Bx H b c ∧ ∀ q ps H', H q = none → Bx H' b c → Mut b H H' → PcsAt H' q ps → Cut n ps → Q (.ref q) H'
def spSs : Sp := fun vs H Q _ => ∃ (q : Addr) (n : Nat) (ps : List Pc), vs = [.ref q, .int (n : Int)] ∧ n ≤ 64 ∧ PcsAt H q ps ∧ Cut n ps ∧ ∀ r a b A B H', H r = none → H a = none → H b = none → a ≠ b → Ex H H' → H' r = some (.lst [.ref a, .ref b]) → ListN H' a A → ListN H' b B → Bl A B 0 ps n → Q (.ref r) H'
def spLst : Sp := fun vs H Q _ => ∃ (l : Addr) (xs : List Nat), vs = [.ref l] ∧ ListN H l xs ∧ 0 < xs.length ∧ xs.length ≤ 64 ∧ ∀ H', Ex H H' → Q (.int (mn xs : Nat)) H'
def spCan : Sp := fun vs H Q _ => ∃ (l r : Addr) (p : Pc) (A : List Nat), vs = [.str (w4 p.1), .ref l, .ref r] ∧ ListN H l p.2.1 ∧ ListN H r A ∧ (p.1 = 2 ∨ p.1 = 3) ∧ 2 ≤ p.2.1.length ∧ p.2.1.length ≤ 64 ∧ (∀ x ∈ p.2.1, x < A.length) ∧ ∀ q H', H q = none → Ex H H' → ListN H' q (canonP A p) → Q (.ref q) H'
def spDp : Sp := fun vs H Q _ => ∃ (q r : Addr) (n : Nat) (ps : List Pc) (A : List Nat), vs = [.ref q, .int (n : Int), .ref r] ∧ n ≤ 64 ∧ PcsAt H q ps ∧ ListN H r A ∧ A.length = n ∧ Cut n ps ∧ ∀ d H', H d = none → Ex H H' → PrtsAt H' d ((psJ ps n).map (outP A)) → Q (.ref d) H'
def spDk : Sp := fun vs H Q _ => ∃ (q : Addr) (n f : Nat) (ps : List Pc), vs = [.ref q, .int (if f = 0 then 1 else -1)] ∧ f < 2 ∧ n ≤ 64 ∧ PcsAt H q ps ∧ Cut n ps ∧ ∀ d es H', H d = none → Ex H H' → EntsAt H' d es → es.Perm (entsD f ps) → es.Pairwise (fun e f => leE e f = true) → Q (.ref d) H'
def spAsc : Sp := fun vs H Q _ => ∃ (q : Addr) (es : List Ent), vs = [.ref q] ∧ EntsAt H q es ∧ es.length ≤ 64 ∧ (∀ e ∈ es, e.1 < 2) ∧ ∀ d fs H', H d = none → Ex H H' → EntsAt H' d fs → fs.Perm es → fs.Pairwise (fun e f => leE e f = true) → Q (.ref d) H'
def spPtd : Sp := fun vs H Q _ => ∃ (t d : Addr) (cs : List (Bool × List Nat)), vs = [.ref t, .ref d] ∧ PrtsAt H t cs ∧ PrtsAt H d cs ∧ cs.length ≤ 200 ∧ (∀ c ∈ cs, c.2.length ≤ 200) ∧ ∀ H', Ex H H' → Q (.bl true) H'
def spKtd : Sp := fun vs H Q _ => ∃ (t d : Addr) (es : List Ent), vs = [.ref t, .ref d] ∧ KindAt H t es ∧ EntsAt H d es ∧ es.length ≤ 200 ∧ ∀ H', Ex H H' → Q (.bl true) H'
def fw : Nat → Str
  | 1 => "entry" | 2 => "state" | 3 => "sizes" | _ => "none"
def fltV (o : Option (Nat × Nat)) : List V := [.str (fw ((o.map (·.1)).getD 0)), .int ((o.map (·.2)).getD 0 : Nat)]
def spFl : Sp := fun vs H Q _ => ∃ (a b : Addr) (xs zs : List Int), vs = [.ref a, .ref b] ∧ ListI H a xs ∧ ListI H b zs ∧ xs.length ≤ 65 ∧ zs.length ≤ 65 ∧ ∀ p H', H p = none → Ex H H' → H' p = some (.lst (fltV (faultF xs zs))) → Q (.ref p) H'
def spBe : Sp := fun vs H Q _ => ∃ (b c r : Addr) (xs : List Nat), vs = [.ref b, .ref r] ∧ Bx H b c ∧ ListN H r xs ∧ r ≠ b ∧ xs.length ≤ 64 ∧ ∀ p zs H', H p = none → Bx H' b c → Mut b H H' → ListI H' p zs → zs.length ≤ 65 → Q (.ref p) H'
def spFt : Sp := fun vs H Q _ => ∃ (a b du : Addr) (xs zs : List Int) (dr : Nat), vs = [.int (dr : Int), .ref a, .ref b, .ref du] ∧ dr < 3 ∧ ListI H a xs ∧ ListI H b zs ∧ xs.length ≤ 65 ∧ zs.length ≤ 65 ∧ H du = some (.lst (fltV (faultF xs zs))) ∧ ∀ H', Ex H H' → Q (.bl true) H'
def spKp : Sp := fun vs H Q _ => ∃ (q a b : Addr) (n f : Nat) (ps : List Pc) (A B : List Nat), vs = [.ref q, .int (n : Int), .ref a, .ref b, .int (if f = 0 then 1 else -1)] ∧ n ≤ 64 ∧ PcsAt H q ps ∧ Cut n ps ∧ ListN H a A ∧ ListN H b B ∧ Bl A B f ps n ∧ ∀ H', Ex H H' → Q (.bl true) H'
def spLaw (K : PySem.W.Frag) : Sp := fun vs H Q _ => ∃ (a : Addr) (ns : List Int), vs = [.ref a] ∧ SqL K H a (ns.map V.int) ∧ ns.length ≤ 63 ∧ ∀ H', Q (.bl true) H'
end Pv

/-! rows put together of pieces, step by step -/
namespace Pv
open Pm
/-- two records that show each other -/
def swp (R : List Nat) (x y : Nat) : List Nat := (R.set x y).set y x
theorem swp_len {R : List Nat} {x y : Nat} : (swp R x y).length = R.length := by
  unfold swp
  rw [List.length_set, List.length_set]
theorem gt_set {R : List Nat} {x y z : Nat} (hx : x < R.length) : gt (R.set x y) z = if z = x then y else gt R z := by
  unfold gt
  rw [List.getD_eq_getElem?_getD, List.getElem?_set, List.getD_eq_getElem?_getD]
  by_cases c : x = z
  · rw [if_pos c, if_pos c.symm, if_pos (by omega)]
    rfl
  · rw [if_neg c, if_neg (fun h => c h.symm)]
theorem gt_swp {R : List Nat} {x y z : Nat} (hx : x < R.length) (hy : y < R.length) : gt (swp R x y) z = if z = y then x else if z = x then y else gt R z := by
  unfold swp
  rw [gt_set (by rw [List.length_set]; exact hy), gt_set hx]
/-- whom the j-th record shows in the row r after k links -/
def stp (r s k j : Nat) : Nat := if (s + j) % 2 = r then (if j < k then j + 1 else j) else (if 0 < j ∧ j ≤ k then j - 1 else j)
theorem stp_zero {r s j : Nat} : stp r s 0 j = j := by
  unfold stp
  split <;> split <;> omega
theorem stp_same {r s k j : Nat} (hr : r < 2) (h : (s + k) % 2 ≠ r) : stp r s (k + 1) j = stp r s k j := by
  unfold stp
  split <;> split <;> split <;> omega
theorem stp_go {r s k j : Nat} (h : (s + k) % 2 = r) : stp r s (k + 1) j = if j = k + 1 then k else if j = k then k + 1 else stp r s k j := by
  unfold stp
  by_cases c1 : j = k + 1
  · rw [if_pos c1, if_neg (by omega), if_pos (by omega)]
    omega
  · rw [if_neg c1]
    by_cases c2 : j = k
    · rw [if_pos c2, if_pos (by omega), if_pos (by omega)]
      omega
    · rw [if_neg c2]
      split <;> split <;> split <;> omega
/-- the links so far, in the row r -/
structure Lnk (R0 R : List Nat) (L : List Nat) (r s k : Nat) : Prop where
  len : R.length = R0.length
  out : ∀ z, z ∉ L → gt R z = gt R0 z
  at_ : ∀ j, j < L.length → gt R (gt L j) = gt L (stp r s k j)
theorem Lnk.zero {R0 L : List Nat} {r s : Nat} (h : ∀ x ∈ L, gt R0 x = x) : Lnk R0 R0 L r s 0 :=
  ⟨rfl, fun _ _ => rfl, fun j hj => by rw [stp_zero]; exact h _ (gt_mem hj)⟩
theorem Lnk.same {R0 R L : List Nat} {r s k : Nat} (l : Lnk R0 R L r s k) (hr : r < 2) (h : (s + k) % 2 ≠ r) : Lnk R0 R L r s (k + 1) :=
  ⟨l.len, l.out, fun j hj => by rw [stp_same hr h]; exact l.at_ j hj⟩
theorem Lnk.go {R0 R L : List Nat} {r s k : Nat} (l : Lnk R0 R L r s k) (nd : L.Nodup) (lt : ∀ x ∈ L, x < R0.length) (hk : k + 1 < L.length) (h : (s + k) % 2 = r) : Lnk R0 (swp R (gt L k) (gt L (k + 1))) L r s (k + 1) := by
  have m1 := gt_mem (show k < L.length by omega)
  have m2 := gt_mem hk
  have b1 := lt _ m1
  have b2 := lt _ m2
  rw [← l.len] at b1 b2
  refine ⟨by rw [swp_len]; exact l.len, fun z hz => ?_, fun j hj => ?_⟩
  · rw [gt_swp b1 b2, if_neg (fun e => hz (by rw [e]; exact m2)), if_neg (fun e => hz (by rw [e]; exact m1))]
    exact l.out z hz
  · rw [gt_swp b1 b2, stp_go h]
    by_cases c1 : j = k + 1
    · rw [c1, if_pos rfl, if_pos rfl]
    · rw [if_neg (fun e => c1 (gt_inj nd hj hk e)), if_neg c1]
      by_cases c2 : j = k
      · rw [c2, if_pos rfl, if_pos rfl]
      · rw [if_neg (fun e => c2 (gt_inj nd hj (by omega) e)), if_neg c2]
        exact l.at_ j hj
theorem Lnk.chain {R0 R : List Nat} {p : Pc} {r : Nat} (l : Lnk R0 R p.2.1 r p.2.2 (p.2.1.length - 1)) (hw : p.1 = 2) : PcAt R r p := by
  intro k hk
  rw [l.at_ k hk]
  congr 1
  unfold stp nb
  rw [if_neg (show ¬ p.1 = 0 by omega), if_neg (show ¬ p.1 = 1 by omega), if_neg (show ¬ p.1 = 3 by omega), if_neg (show ¬ p.1 = 3 by omega)]
  split
  · split <;> split <;> omega
  · split <;> split <;> omega
theorem Lnk.free {R0 R : List Nat} {p : Pc} {r : Nat} (l : Lnk R0 R p.2.1 r p.2.2 (p.2.1.length - 1)) (ok : PcOk p) (hw : p.1 = 0) : PcAt R r p := by
  intro k hk
  rw [l.at_ k hk]
  congr 1
  have := ok.l0 hw
  rw [show p.2.1.length - 1 = 0 by omega, stp_zero]
  unfold nb
  rw [if_pos hw]
theorem Lnk.ring0 {R0 R : List Nat} {p : Pc} (l : Lnk R0 R p.2.1 0 p.2.2 (p.2.1.length - 1)) (ok : PcOk p) (hw : p.1 = 3) (s0 : p.2.2 = 0) : PcAt R 0 p := by
  intro k hk
  rw [l.at_ k hk]
  congr 1
  obtain ⟨n4, n2⟩ := ok.l3 hw
  unfold stp nb
  rw [if_neg (show ¬ p.1 = 0 by omega), if_neg (show ¬ p.1 = 1 by omega), if_pos hw, if_pos hw, s0]
  split
  · split <;> split <;> omega
  · split <;> split <;> omega
theorem Lnk.ring1 {R0 R : List Nat} {p : Pc} (l : Lnk R0 R p.2.1 1 p.2.2 (p.2.1.length - 1)) (ok : PcOk p) (lt : ∀ x ∈ p.2.1, x < R0.length) (hw : p.1 = 3) (s0 : p.2.2 = 0) : PcAt (swp R (gt p.2.1 (p.2.1.length - 1)) (gt p.2.1 0)) 1 p := by
  intro k hk
  obtain ⟨n4, n2⟩ := ok.l3 hw
  have m1 := lt _ (gt_mem (show p.2.1.length - 1 < p.2.1.length by omega))
  have m2 := lt _ (gt_mem (show 0 < p.2.1.length by omega))
  rw [← l.len] at m1 m2
  rw [gt_swp m1 m2]
  unfold nb
  rw [if_neg (show ¬ p.1 = 0 by omega), if_neg (show ¬ p.1 = 1 by omega), if_pos hw, if_pos hw, s0]
  by_cases c1 : k = 0
  · rw [if_pos (by rw [c1]), if_neg (by omega), if_neg (by omega)]
  · rw [if_neg (fun e => c1 (gt_inj ok.nd hk (by omega) e))]
    by_cases c2 : k = p.2.1.length - 1
    · rw [if_pos (by rw [← c2]), if_pos (by omega), if_neg (by omega)]
    · rw [if_neg (fun e => c2 (gt_inj ok.nd hk (by omega) e)), l.at_ k hk, s0]
      congr 1
      unfold stp
      split
      · split <;> split <;> omega
      · split <;> split <;> omega
theorem ring_out {R0 R L : List Nat} {s k : Nat} (l : Lnk R0 R L 1 s k) (pos : 0 < L.length) (lt : ∀ x ∈ L, x < R0.length) : ∀ z, z ∉ L → gt (swp R (gt L (L.length - 1)) (gt L 0)) z = gt R0 z := fun z hz => by
  have a1 := gt_mem (show L.length - 1 < L.length by omega)
  have a2 := gt_mem pos
  have m1 := lt _ a1
  have m2 := lt _ a2
  rw [← l.len] at m1 m2
  rw [gt_swp m1 m2, if_neg (fun e => hz (by rw [e]; exact a2)), if_neg (fun e => hz (by rw [e]; exact a1))]
  exact l.out z hz
theorem pair_at {R : List Nat} {p : Pc} {r : Nat} (ok : PcOk p) (hw : p.1 = 1) (lt : ∀ x ∈ p.2.1, x < R.length) : PcAt (swp R (gt p.2.1 0) (gt p.2.1 1)) r p ∧ ∀ z, z ∉ p.2.1 → gt (swp R (gt p.2.1 0) (gt p.2.1 1)) z = gt R z := by
  have l1 := ok.l1 hw
  have a1 := gt_mem (show 0 < p.2.1.length by omega)
  have a2 := gt_mem (show 1 < p.2.1.length by omega)
  have m1 := lt _ a1
  have m2 := lt _ a2
  refine ⟨fun k hk => ?_, fun z hz => ?_⟩
  · rw [gt_swp m1 m2]
    unfold nb
    rw [if_neg (show ¬ p.1 = 0 by omega), if_pos hw]
    by_cases c : k = 1
    · rw [c, if_pos rfl]
    · rw [if_neg (fun e => c (gt_inj ok.nd hk (by omega) e)), if_pos (by rw [show k = 0 by omega]), show 1 - k = 1 by omega]
  · rw [gt_swp m1 m2, if_neg (fun e => hz (by rw [e]; exact a2)), if_neg (fun e => hz (by rw [e]; exact a1))]
/-- the rows after some pieces -/
structure Stt (n : Nat) (qs : List Pc) (A B : List Nat) : Prop where
  la : A.length = n
  lb : B.length = n
  at_ : ∀ p ∈ qs, PcAt A 0 p ∧ PcAt B 1 p
  out : ∀ x, x < n → x ∉ qs.flatMap (·.2.1) → gt A x = x ∧ gt B x = x
theorem Stt.step {n : Nat} {qs : List Pc} {p : Pc} {A B A1 B1 : List Nat} (S : Stt n qs A B) (ok : ∀ q ∈ qs, PcOk q) (dis : ∀ x ∈ p.2.1, x ∉ qs.flatMap (·.2.1)) (l1 : A1.length = A.length) (l2 : B1.length = B.length) (o1 : ∀ z, z ∉ p.2.1 → gt A1 z = gt A z) (o2 : ∀ z, z ∉ p.2.1 → gt B1 z = gt B z) (h1 : PcAt A1 0 p) (h2 : PcAt B1 1 p) : Stt n (qs ++ [p]) A1 B1 := by
  refine ⟨l1.trans S.la, l2.trans S.lb, fun q hq => ?_, fun x hx hn => ?_⟩
  · rcases List.mem_append.mp hq with hq | hq
    · obtain ⟨a, b⟩ := S.at_ q hq
      have no : ∀ k, k < q.2.1.length → gt q.2.1 k ∉ p.2.1 := fun k hk h => dis _ h (List.mem_flatMap.mpr ⟨q, hq, gt_mem hk⟩)
      exact ⟨fun k hk => by rw [o1 _ (no k hk)]; exact a k hk, fun k hk => by rw [o2 _ (no k hk)]; exact b k hk⟩
    · rw [List.mem_singleton.mp hq]
      exact ⟨h1, h2⟩
  · rw [List.flatMap_append, List.mem_append, not_or] at hn
    have hp : x ∉ p.2.1 := fun h => hn.2 (List.mem_flatMap.mpr ⟨p, List.mem_singleton.mpr rfl, h⟩)
    rw [o1 _ hp, o2 _ hp]
    exact S.out x hx hn.1
theorem gt_range {n x : Nat} (h : x < n) : gt (List.range n) x = x := by
  unfold gt
  rw [List.getD_eq_getElem?_getD, List.getElem?_range h]
  rfl
theorem Stt.zero {n : Nat} : Stt n [] (List.range n) (List.range n) :=
  ⟨List.length_range, List.length_range, (fun _ h => by cases h), fun x hx _ => ⟨gt_range hx, gt_range hx⟩⟩
end Pv

/-! rows put together of pieces are states -/
namespace Pv
open Pm
theorem nb_nb {p : Pc} (ok : PcOk p) {r k : Nat} (hr : r < 2) (hk : k < p.2.1.length) : nb r p.1 p.2.1.length p.2.2 (nb r p.1 p.2.1.length p.2.2 k) = k := by
  have h0 := ok.l0
  have h1 := ok.l1
  have h2 := ok.l2
  have h3 := ok.l3
  have hw := ok.w
  by_cases c0 : p.1 = 0
  · have nz : ∀ j, nb r p.1 p.2.1.length p.2.2 j = j := fun j => by unfold nb; rw [if_pos c0]
    rw [nz, nz]
  by_cases c1 : p.1 = 1
  · have l := h1 c1
    have n1 : ∀ j, nb r p.1 p.2.1.length p.2.2 j = 1 - j := fun j => by unfold nb; rw [if_neg c0, if_pos c1]
    rw [n1, n1]
    omega
  have cr : ∀ j, nb r p.1 p.2.1.length p.2.2 j = if (p.2.2 + j) % 2 = r then (if j + 1 < p.2.1.length then j + 1 else if p.1 = 3 then 0 else j) else (if 0 < j then j - 1 else if p.1 = 3 then p.2.1.length - 1 else j) := fun j => nb_cr (by omega)
  rw [cr k]
  by_cases par : (p.2.2 + k) % 2 = r
  · rw [if_pos par]
    by_cases d : k + 1 < p.2.1.length
    · rw [if_pos d, cr, if_neg (by omega), if_pos (by omega)]
      omega
    · rw [if_neg d]
      by_cases c3 : p.1 = 3
      · obtain ⟨n4, n2⟩ := h3 c3
        rw [if_pos c3, cr, if_neg (by omega), if_neg (by omega), if_pos c3]
        omega
      · rw [if_neg c3, cr, if_pos par, if_neg d, if_neg c3]
  · rw [if_neg par]
    by_cases d : 0 < k
    · rw [if_pos d, cr, if_pos (by omega), if_pos (by omega)]
      omega
    · rw [if_neg d]
      by_cases c3 : p.1 = 3
      · obtain ⟨n4, n2⟩ := h3 c3
        rw [if_pos c3, cr, if_pos (by omega), if_neg (by omega), if_pos c3]
        omega
      · rw [if_neg c3, cr, if_neg par, if_neg d, if_neg c3]
theorem Bl.sta_ {A B : List Nat} {f n r : Nat} {ps : List Pc} (b : Bl A B f ps n) {R : List Nat} (hr : r < 2) (hl : R.length = n) (h : ∀ p ∈ ps, PcAt R r p) : Sta R := by
  have one : ∀ x, x < n → ∃ p q, p ∈ ps ∧ q < p.2.1.length ∧ gt p.2.1 q = x := fun x hx => by
    obtain ⟨p, hp, hm⟩ := b.own hx
    obtain ⟨q, hq, e⟩ := mem_getD hm
    exact ⟨p, q, hp, hq, e⟩
  refine ⟨fun x hx => ?_, fun x hx => ?_⟩
  · rw [hl] at hx ⊢
    obtain ⟨p, q, hp, hq, rfl⟩ := one x hx
    rw [h p hp q hq]
    exact b.lt hp _ (gt_mem (nb_lt (b.ok p hp) hq))
  · rw [hl] at hx
    obtain ⟨p, q, hp, hq, rfl⟩ := one x hx
    rw [h p hp q hq, h p hp _ (nb_lt (b.ok p hp) hq), nb_nb (b.ok p hp) hr hq]
theorem Bl.sta {A B : List Nat} {f n : Nat} {ps : List Pc} (b : Bl A B f ps n) : Sta A ∧ Sta B := by
  have hf := b.hf
  exact ⟨b.sta_ hf b.la fun p hp => (b.at_ p hp).1, b.sta_ (r := 1 - f) (by omega) b.lb fun p hp => (b.at_ p hp).2⟩
end Pv

namespace Pv
open PySem L2 Evl Pm
/-- an entry of any kind: a word, a length, a gain -/
abbrev GE := Str × Int × Int
def GenAt (H : Hp) (t : Addr) (e : GE) : Prop := H t = some (.tup [.str e.1, .int e.2.1, .int e.2.2])
def GensT (H : Hp) (p : Addr) (es : List GE) : Prop := ∃ ts : List Addr, H p = some (.tup (ts.map V.ref)) ∧ ts.length = es.length ∧ ∀ (i : Nat) (t : Addr) (e : GE), ts[i]? = some t → es[i]? = some e → GenAt H t e
def GensL (H : Hp) (p : Addr) (es : List GE) : Prop := ∃ ts : List Addr, H p = some (.lst (ts.map V.ref)) ∧ ts.length = es.length ∧ ∀ (i : Nat) (t : Addr) (e : GE), ts[i]? = some t → es[i]? = some e → GenAt H t e
theorem GensT.ex {H H' : Hp} {p : Addr} {es : List GE} (e : Ex H H') (h : GensT H p es) : GensT H' p es := by
  obtain ⟨ts, h1, h2, h3⟩ := h
  exact ⟨ts, e _ _ h1, h2, fun i t c a b => e _ _ (h3 i t c a b)⟩
theorem GensL.ex {H H' : Hp} {p : Addr} {es : List GE} (e : Ex H H') (h : GensL H p es) : GensL H' p es := by
  obtain ⟨ts, h1, h2, h3⟩ := h
  exact ⟨ts, e _ _ h1, h2, fun i t c a b => e _ _ (h3 i t c a b)⟩
def toG (e : Ent) : GE := (wE e.1, e.2.1, e.2.2)
def frG (e : GE) : Ent := (if e.1 = ("ring" : Str) then 1 else 0, e.2.1, e.2.2)
/-- an entry that a kind may hold -/
def goodE (e : GE) : Bool :=
  if e.1 = ("ring" : Str) then decide (4 ≤ e.2.1) && (decide (e.2.1 % 2 = 0) && decide (e.2.2 = 0))
  else if e.1 = ("chain" : Str) then (if e.2.1 < 2 then false else if e.2.1 % 2 = 0 then decide (e.2.2 = 1) || decide (e.2.2 = -1) else decide (e.2.2 = 0))
  else false
def Valid (es : List GE) : Prop := (∀ e ∈ es, goodE e = true) ∧ (es.map frG).Pairwise fun e f => leE e f = true
theorem frG_lt (e : GE) : (frG e).1 < 2 := by
  unfold frG
  show (if _ then 1 else 0) < 2
  split <;> omega
theorem toG_frG {e : GE} (h : goodE e = true) : toG (frG e) = e := by
  unfold goodE at h
  unfold toG frG
  by_cases c : e.1 = ("ring" : Str)
  · rw [if_pos c]
    show (("ring" : Str), e.2.1, e.2.2) = e
    rw [← c]
  · rw [if_neg c] at h ⊢
    by_cases c2 : e.1 = ("chain" : Str)
    · show (("chain" : Str), e.2.1, e.2.2) = e
      rw [← c2]
    · rw [if_neg c2] at h
      cases h
theorem gen_ent {H : Hp} {t : Addr} {e : GE} (g : goodE e = true) (h : GenAt H t e) : EntAt H t (frG e) := by
  have : GenAt H t (toG (frG e)) := by rw [toG_frG g]; exact h
  exact this
theorem ent_gen {H : Hp} {t : Addr} {e : Ent} (h : EntAt H t e) : GenAt H t (toG e) := h
def revE (e : Ent) : Ent := (e.1, e.2.1, -e.2.2)
def spIe : Sp := fun vs H Q _ => ∃ (t : Addr) (e : GE), vs = [.ref t] ∧ GenAt H t e ∧ ∀ H', Ex H H' → Q (.bl (goodE e)) H'
def spCk (A : Ad) : Sp := fun vs H Q E => ∃ (p : Addr) (es : List GE), vs = [.ref p] ∧ GensT H p es ∧ es.length ≤ 70 ∧ (Valid es → ∀ H', Ex H H' → Q .non H') ∧ (¬ Valid es → ∀ H', Ex H H' → E (.ref A.InvalidKind) none H')
def spRk (A : Ad) : Sp := fun vs H Q E => ∃ (p : Addr) (es : List GE), vs = [.ref p] ∧ GensT H p es ∧ es.length ≤ 70 ∧ (Valid es → ∀ q fs H', H q = none → Ex H H' → KindAt H' q fs → fs.Perm ((es.map frG).map revE) → fs.Pairwise (fun e f => leE e f = true) → Q (.ref q) H') ∧ (¬ Valid es → ∀ H', Ex H H' → E (.ref A.InvalidKind) none H')
/-- a row told by its places -/
def mp (f : Nat → Nat) (n : Nat) : List Nat := (List.range n).map f
theorem mp_len {f : Nat → Nat} {n : Nat} : (mp f n).length = n := by
  unfold mp
  rw [List.length_map, List.length_range]
theorem mp_congr {f g : Nat → Nat} {n : Nat} (h : ∀ j, j < n → f j = g j) : mp f n = mp g n := List.map_congr_left fun j hj => h j (List.mem_range.mp hj)
theorem mp_set {f : Nat → Nat} {n i v : Nat} : (mp f n).set i v = mp (fun j => if j = i then v else f j) n := by
  unfold mp
  refine List.ext_getElem (by simp) fun j h1 h2 => ?_
  rw [List.getElem_set, List.getElem_map, List.getElem_map, List.getElem_range]
  by_cases c : i = j
  · rw [if_pos c, if_pos c.symm]
  · rw [if_neg c, if_neg (fun z => c z.symm)]
def spPd : Sp := fun vs H Q _ => ∃ (st n sk : Nat), vs = [.int (st : Int), .int (n : Int), .int (sk : Int)] ∧ sk < 2 ∧ 2 ≤ n ∧ n ≤ 64 ∧ st ≤ 64 ∧ ∀ p H', H p = none → Ex H H' → ListN H' p (mp (fun j => st + stp sk 0 (n - 1) j) n) → Q (.ref p) H'
end Pv

namespace Pv
open PySem L2 Evl Pm
def dE (fs : List Ent) : PyData := .list (fs.map encE)
theorem dpAll_E {K : PySem.W.Frag} {H : Hp} : ∀ (ts : List Addr) (fs : List Ent), ts.length = fs.length → (∀ (i : Nat) (t : Addr) (e : Ent), ts[i]? = some t → fs[i]? = some e → EntAt H t e) → DpAll K H (ts.map V.ref) (fs.map encE)
  | [], [], _, _ => .nil
  | [], _ :: _, h, _ => by cases h
  | _ :: _, [], h, _ => by cases h
  | t :: ts, f :: fs, h, k => .cons (dp_ent (k 0 t f rfl rfl)) (dpAll_E ts fs (by simpa using h) fun i t' e' a b => k (i + 1) t' e' a b)
theorem lay_ent (e : Ent) : PyData.canLay0 (encE e) = true := by
  unfold encE
  simp [PyData.canLay0, PyData.canLayAll0]
  unfold wE
  split <;> decide +kernel
theorem lay_E : ∀ fs : List Ent, PyData.canLayAll0 (fs.map encE) = true
  | [] => by simp [PyData.canLayAll0]
  | x :: xs => by
    simp only [List.map_cons, PyData.canLayAll0, lay_E xs, lay_ent]
    rfl
theorem deep_E : ∀ fs : List Ent, PyData.depthAll (fs.map encE) ≤ 61
  | [] => by simp [PyData.depthAll]
  | x :: xs => by
    have h1 := deep_E xs
    have h2 := depth_ent x
    simp only [List.map_cons, PyData.depthAll]
    omega
theorem shaped_E (fs : List Ent) : SeqAt.shaped (dE fs) = true := by
  have h2 : PyData.depth (dE fs) ≤ 64 := by
    have := deep_E fs
    unfold dE
    simp only [PyData.depth]
    omega
  have h1 : PyData.canLay0 (dE fs) = true := by
    unfold dE
    simp only [PyData.canLay0]
    exact lay_E fs
  unfold SeqAt.shaped
  rw [h1, decide_eq_true h2]
  rfl
theorem eqv_ent {e f : Ent} (he : e.1 < 2) (hf : f.1 < 2) : PyData.eqv (encE e) (encE f) = decide (e = f) := by
  have one : PyData.eqv (encE e) (encE f) = (PyData.eqv (.str (wE e.1)) (.str (wE f.1)) && (PyData.eqv (.int e.2.1) (.int f.2.1) && (PyData.eqv (.int e.2.2) (.int f.2.2) && true))) := rfl
  rw [one, str_eq _ he _ hf, int_eq, int_eq, Bool.and_true, Bool.eq_iff_iff]
  simp only [Bool.and_eq_true, decide_eq_true_eq]
  obtain ⟨a, b, c⟩ := e
  obtain ⟨a', b', c'⟩ := f
  simp
theorem eqv_E : ∀ (es fs : List Ent), (∀ e ∈ es, e.1 < 2) → (∀ e ∈ fs, e.1 < 2) → PyData.eqvAll (es.map encE) (fs.map encE) = decide (es = fs)
  | [], [], _, _ => rfl
  | [], _ :: _, _, _ => rfl
  | _ :: _, [], _, _ => rfl
  | e :: es, f :: fs, h1, h2 => by
    have ih := eqv_E es fs (fun e he => h1 e (List.mem_cons_of_mem _ he)) (fun e he => h2 e (List.mem_cons_of_mem _ he))
    show (PyData.eqv (encE e) (encE f) && PyData.eqvAll (es.map encE) (fs.map encE)) = _
    rw [ih, eqv_ent (h1 e (List.mem_cons_self ..)) (h2 f (List.mem_cons_self ..)), Bool.eq_iff_iff]
    simp
end Pv

/-! the sample of a kind: rows put together entry by entry -/
namespace Pv
open PySem L2 Evl Pm
def wG (e : Ent) : Nat := if e.1 = 0 then 2 else 3
def sG (e : Ent) : Nat := if e.2.2 = 1 then 1 else 0
def nG (e : Ent) : Nat := e.2.1.toNat
def blkG (r st : Nat) (e : Ent) : List Nat := mp (fun j => st + nb r (wG e) (nG e) (sG e) j) (nG e)
def rowG (r : Nat) : Nat → List Ent → List Nat
  | _, [] => []
  | st, e :: es => blkG r st e ++ rowG r (st + nG e) es
def pcG (st : Nat) (e : Ent) : Pc := (wG e, mp (fun j => st + j) (nG e), sG e)
def pcsG : Nat → List Ent → List Pc
  | _, [] => []
  | st, e :: es => pcG st e :: pcsG (st + nG e) es
def totG : List Ent → Nat
  | [] => 0
  | e :: es => nG e + totG es
theorem gt_mp {f : Nat → Nat} {n j : Nat} (h : j < n) : gt (mp f n) j = f j := by
  unfold gt mp
  rw [List.getD_eq_getElem?_getD, List.getElem?_map, List.getElem?_range h]
  rfl
theorem rowG_len {r : Nat} : ∀ {st : Nat} {es : List Ent}, (rowG r st es).length = totG es
  | _, [] => rfl
  | st, e :: es => by
    show (blkG r st e ++ rowG r (st + nG e) es).length = _
    rw [List.length_append, rowG_len]
    unfold blkG
    rw [mp_len]
    rfl
/-- a good entry, in numbers -/
structure GdE (e : Ent) : Prop where
  w : e.1 < 2
  n2 : 2 ≤ e.2.1
  ring : e.1 = 1 → 4 ≤ e.2.1 ∧ e.2.1 % 2 = 0 ∧ e.2.2 = 0
  odd : e.2.1 % 2 = 1 → e.2.2 = 0
  even : e.1 = 0 → e.2.1 % 2 = 0 → e.2.2 = 1 ∨ e.2.2 = -1
theorem gdE {e : GE} (h : goodE e = true) : GdE (frG e) := by
  unfold goodE at h
  have lt := frG_lt e
  by_cases c : e.1 = ("ring" : Str)
  · rw [if_pos c] at h
    simp only [Bool.and_eq_true, decide_eq_true_eq] at h
    have f1 : (frG e).1 = 1 := if_pos c
    exact ⟨lt, by show 2 ≤ e.2.1; omega, fun _ => ⟨h.1, h.2.1, h.2.2⟩, fun o => by have o : e.2.1 % 2 = 1 := o; omega, fun z => by rw [f1] at z; cases z⟩
  · rw [if_neg c] at h
    by_cases c2 : e.1 = ("chain" : Str)
    · rw [if_pos c2] at h
      have f1 : (frG e).1 = 0 := if_neg c
      by_cases c3 : e.2.1 < 2
      · rw [if_pos c3] at h
        cases h
      · rw [if_neg c3] at h
        refine ⟨lt, (by show 2 ≤ e.2.1; omega), (fun z => by rw [f1] at z; cases z), fun o => ?_, fun _ ev => ?_⟩
        · have o : e.2.1 % 2 = 1 := o
          rw [if_neg (by omega)] at h
          exact of_decide_eq_true h
        · have ev : e.2.1 % 2 = 0 := ev
          rw [if_pos ev] at h
          simp only [Bool.or_eq_true, decide_eq_true_eq] at h
          exact h
    · rw [if_neg c2] at h
      cases h
theorem pcG_ok {st : Nat} {e : Ent} (g : GdE e) : PcOk (pcG st e) := by
  have gw := g.w
  have g2 := g.n2
  have gr := g.ring
  refine ⟨by show wG e < 4; unfold wG; split <;> omega, by show sG e < 2; unfold sG; split <;> omega, ?_, ?_, ?_, ?_, ?_⟩
  · show (mp _ _).Nodup
    unfold mp
    exact List.Pairwise.map _ (fun a b h z => h (by have z : st + a = st + b := z; omega)) List.nodup_range
  · intro h
    have h : wG e = 0 := h
    unfold wG at h
    split at h <;> omega
  · intro h
    have h : wG e = 1 := h
    unfold wG at h
    split at h <;> omega
  · intro h
    show 2 ≤ (mp _ (nG e)).length
    rw [mp_len]
    unfold nG
    omega
  · intro h
    have h : wG e = 3 := h
    show 4 ≤ (mp _ (nG e)).length ∧ (mp _ (nG e)).length % 2 = 0
    rw [mp_len]
    have e1 : e.1 = 1 := by
      unfold wG at h
      split at h <;> omega
    obtain ⟨r1, r2, _⟩ := gr e1
    unfold nG
    omega
theorem pcsG_ok : ∀ {st : Nat} {es : List Ent}, (∀ e ∈ es, GdE e) → ∀ p ∈ pcsG st es, PcOk p
  | _, [], _, p, hp => by cases hp
  | st, e :: es, g, p, hp => by
    rcases List.mem_cons.mp hp with h | h
    · rw [h]
      exact pcG_ok (g e (List.mem_cons_self ..))
    · exact pcsG_ok (fun e he => g e (List.mem_cons_of_mem _ he)) p h
theorem mp_app {st a b : Nat} : mp (fun j => st + j) a ++ mp (fun j => st + a + j) b = mp (fun j => st + j) (a + b) := by
  unfold mp
  rw [List.range_add, List.map_append, List.map_map]
  congr 1
  refine List.map_congr_left fun j _ => ?_
  show st + a + j = st + (a + j)
  omega
theorem pcsG_flat : ∀ {st : Nat} {es : List Ent}, (pcsG st es).flatMap (·.2.1) = mp (fun j => st + j) (totG es)
  | _, [] => rfl
  | st, e :: es => by
    show (pcG st e).2.1 ++ (pcsG (st + nG e) es).flatMap (·.2.1) = _
    rw [pcsG_flat]
    exact mp_app
theorem pcsG_at {r : Nat} : ∀ {es : List Ent} {R0 : List Nat}, (∀ e ∈ es, GdE e) → ∀ p ∈ pcsG R0.length es, PcAt (R0 ++ rowG r R0.length es) r p
  | [], _, _, p, hp => by cases hp
  | e :: es, R0, g, p, hp => by
    have bl : (blkG r R0.length e).length = nG e := mp_len
    have ge := g e (List.mem_cons_self ..)
    rcases List.mem_cons.mp hp with h | h
    · rw [h]
      intro k hk
      have hk : k < nG e := by
        have hk : k < (mp (fun j => R0.length + j) (nG e)).length := hk
        rw [mp_len] at hk
        exact hk
      have nl := nb_lt (pcG_ok (st := R0.length) ge) (r := r) (k := k) (by show k < (mp _ _).length; rw [mp_len]; exact hk)
      have ml : (pcG R0.length e).2.1.length = nG e := mp_len
      rw [ml] at nl ⊢
      show gt (R0 ++ (blkG r R0.length e ++ _)) (gt (mp (fun j => R0.length + j) (nG e)) k) = gt (mp (fun j => R0.length + j) (nG e)) _
      rw [gt_mp hk, gt_mp nl, gt_app, if_neg (by omega), show R0.length + k - R0.length = k by omega, gt_app, bl, if_pos hk]
      exact gt_mp hk
    · have ih := pcsG_at (r := r) (R0 := R0 ++ blkG r R0.length e) (fun e he => g e (List.mem_cons_of_mem _ he)) p
      rw [List.length_append, bl] at ih
      show PcAt (R0 ++ (blkG r R0.length e ++ rowG r (R0.length + nG e) es)) r p
      rw [← List.append_assoc]
      exact ih h
/-- the sample's rows are put together of the kind's pieces -/
theorem bl_G {es : List Ent} (g : ∀ e ∈ es, GdE e) : Bl (rowG 0 0 es) (rowG 1 0 es) 0 (pcsG 0 es) (totG es) := by
  refine ⟨rowG_len, rowG_len, by decide, ?_, pcsG_ok g, fun p hp => ⟨pcsG_at (R0 := []) g p hp, pcsG_at (R0 := []) g p hp⟩⟩
  rw [pcsG_flat]
  unfold mp
  rw [List.map_congr_left (g := id) fun j _ => Nat.zero_add j, List.map_id]
theorem due_G {st : Nat} {e : Ent} (g : GdE e) : entD 0 (pcG st e) = e ∧ entD 1 (pcG st e) = revE e := by
  have gw := g.w
  have g2 := g.n2
  have gr := g.ring
  have go := g.odd
  have gv := g.even
  have ml : (pcG st e).2.1.length = nG e := mp_len
  unfold entD dueG revE
  rw [ml]
  obtain ⟨a, n, c⟩ := e
  have gw : a < 2 := gw
  have g2 : 2 ≤ n := g2
  have gr : a = 1 → 4 ≤ n ∧ n % 2 = 0 ∧ c = 0 := gr
  have go : n % 2 = 1 → c = 0 := go
  have gv : a = 0 → n % 2 = 0 → c = 1 ∨ c = -1 := gv
  show ((if wG (a, n, c) = 3 then 1 else 0, ((nG (a, n, c) : Nat) : Int), (if wG (a, n, c) = 3 then 0 else if nG (a, n, c) % 2 = 1 then 0 else if sG (a, n, c) = 0 then -1 else 1)) : Ent) = (a, n, c) ∧ ((if wG (a, n, c) = 3 then 1 else 0, ((nG (a, n, c) : Nat) : Int), (if wG (a, n, c) = 3 then 0 else if nG (a, n, c) % 2 = 1 then 0 else if sG (a, n, c) = 1 then -1 else 1)) : Ent) = (a, n, -c)
  have nn : ((nG (a, n, c) : Nat) : Int) = n := by
    show ((n.toNat : Nat) : Int) = n
    omega
  rw [nn]
  by_cases z : a = 0
  · have w2 : wG (a, n, c) = 2 := if_pos z
    rw [w2, if_neg (by decide), if_neg (by decide)]
    by_cases o : nG (a, n, c) % 2 = 1
    · rw [if_pos o]
      have := go (by omega)
      subst z
      subst this
      refine ⟨rfl, ?_⟩
      rw [if_neg (show ¬ (2 : Nat) = 3 by decide), if_pos o]
      rfl
    · rw [if_neg o]
      have := gv z (by omega)
      subst z
      rcases this with h | h
      · subst h
        refine ⟨rfl, ?_⟩
        rw [if_neg (show ¬ (2 : Nat) = 3 by decide), if_neg o]
        rfl
      · subst h
        refine ⟨rfl, ?_⟩
        rw [if_neg (show ¬ (2 : Nat) = 3 by decide), if_neg o]
        rfl
  · have w3 : wG (a, n, c) = 3 := if_neg z
    have a1 : a = 1 := by omega
    obtain ⟨_, _, c0⟩ := gr a1
    rw [w3, if_pos rfl, if_pos rfl]
    subst a1
    subst c0
    exact ⟨rfl, rfl⟩
theorem entsD_G : ∀ {st : Nat} {es : List Ent}, (∀ e ∈ es, GdE e) → entsD 0 (pcsG st es) = es ∧ entsD 1 (pcsG st es) = es.map revE
  | _, [], _ => ⟨rfl, rfl⟩
  | st, e :: es, g => by
    obtain ⟨i1, i2⟩ := entsD_G (st := st + nG e) (es := es) fun e he => g e (List.mem_cons_of_mem _ he)
    obtain ⟨d1, d2⟩ := due_G (st := st) (g e (List.mem_cons_self ..))
    have cr : isCR (pcG st e) = true := decide_eq_true (by show 1 < wG e; unfold wG; split <;> omega)
    have one : ∀ f, entsD f (pcsG st (e :: es)) = entD f (pcG st e) :: entsD f (pcsG (st + nG e) es) := fun f => by
      unfold entsD
      show ((pcG st e :: pcsG (st + nG e) es).filter isCR).map _ = _
      rw [List.filter_cons, if_pos cr]
      rfl
    rw [one, one, i1, i2, d1, d2]
    exact ⟨rfl, rfl⟩
end Pv

/-! a clash of a kind: its rows, its image; a walk that gathers a piece -/
namespace Pv
open PySem L2 Evl Pm
theorem mp_eq {R : List Nat} {n : Nat} (h : R.length = n) : R = mp (gt R) n := by
  subst h
  exact line_map
/-! ### a row of states put together -/
/-- n records from st on, paired among themselves with odd sums -/
structure StB (st : Nat) (R : List Nat) (n : Nat) : Prop where
  len : R.length = n
  lo : ∀ j, j < n → st ≤ gt R j
  hi : ∀ j, j < n → gt R j < st + n
  bk : ∀ j, j < n → gt R (gt R j - st) = st + j
  od : ∀ j, j < n → gt R j ≠ st + j → (st + j + gt R j) % 2 = 1
theorem StB.app {st n m : Nat} {R S : List Nat} (a : StB st R n) (b : StB (st + n) S m) : StB st (R ++ S) (n + m) := by
  have la := a.len
  have lb := b.len
  have lo : ∀ j, j < n → gt (R ++ S) j = gt R j := fun j h => by rw [gt_app, if_pos (by omega)]
  have hi : ∀ j, n ≤ j → gt (R ++ S) j = gt S (j - n) := fun j h => by rw [gt_app, if_neg (by omega), la]
  refine ⟨by rw [List.length_append]; omega, fun j h => ?_, fun j h => ?_, fun j h => ?_, fun j h ne => ?_⟩
  · by_cases c : j < n
    · rw [lo j c]
      exact a.lo j c
    · rw [hi j (by omega)]
      have := b.lo (j - n) (by omega)
      omega
  · by_cases c : j < n
    · rw [lo j c]
      have := a.hi j c
      omega
    · rw [hi j (by omega)]
      have := b.hi (j - n) (by omega)
      omega
  · by_cases c : j < n
    · have h1 := a.lo j c
      have h2 := a.hi j c
      rw [lo j c, lo _ (by omega)]
      exact a.bk j c
    · have h1 := b.lo (j - n) (by omega)
      have h2 := b.hi (j - n) (by omega)
      have h3 := b.bk (j - n) (by omega)
      rw [hi j (by omega), hi _ (by omega), show gt S (j - n) - st - n = gt S (j - n) - (st + n) by omega, h3]
      omega
  · by_cases c : j < n
    · rw [lo j c] at ne ⊢
      exact a.od j c ne
    · rw [hi j (by omega)] at ne ⊢
      have := b.od (j - n) (by omega) (by omega)
      omega
theorem stB_nil {st : Nat} : StB st [] 0 := ⟨rfl, fun j h => by omega, fun j h => by omega, fun j h => by omega, fun j h => by omega⟩
theorem nb_odd {p : Pc} (ok : PcOk p) (w : 1 < p.1) {r k : Nat} (hk : k < p.2.1.length) (ne : nb r p.1 p.2.1.length p.2.2 k ≠ k) : (k + nb r p.1 p.2.1.length p.2.2 k) % 2 = 1 := by
  have h3 := ok.l3
  rw [nb_cr w] at ne ⊢
  split
  · rename_i c
    rw [if_pos c] at ne
    split
    · omega
    · rename_i d
      rw [if_neg d] at ne
      split
      · rename_i e
        have := h3 e
        omega
      · rename_i e
        rw [if_neg e] at ne
        exact absurd rfl ne
  · rename_i c
    rw [if_neg c] at ne
    split
    · omega
    · rename_i d
      rw [if_neg d] at ne
      split
      · rename_i e
        have := h3 e
        omega
      · rename_i e
        rw [if_neg e] at ne
        exact absurd rfl ne
theorem stB_blk {r st : Nat} {e : Ent} (hr : r < 2) (g : GdE e) : StB st (blkG r st e) (nG e) := by
  have ok := pcG_ok (st := st) g
  have ml : (pcG st e).2.1.length = nG e := mp_len
  have w1 : 1 < (pcG st e).1 := by show 1 < wG e; unfold wG; split <;> omega
  have at_ : ∀ j, j < nG e → gt (blkG r st e) j = st + nb r (wG e) (nG e) (sG e) j := fun j h => gt_mp h
  have lt : ∀ j, j < nG e → nb r (wG e) (nG e) (sG e) j < nG e := fun j h => by
    have := nb_lt ok (r := r) (k := j) (by rw [ml]; exact h)
    rw [ml] at this
    exact this
  refine ⟨mp_len, fun j h => by rw [at_ j h]; omega, fun j h => by rw [at_ j h]; have := lt j h; omega, fun j h => ?_, fun j h ne => ?_⟩
  · rw [at_ j h, show st + nb r (wG e) (nG e) (sG e) j - st = nb r (wG e) (nG e) (sG e) j by omega, at_ _ (lt j h)]
    have := nb_nb ok hr (k := j) (by rw [ml]; exact h)
    rw [ml] at this
    have this : nb r (wG e) (nG e) (sG e) (nb r (wG e) (nG e) (sG e) j) = j := this
    rw [this]
  · rw [at_ j h] at ne ⊢
    have := nb_odd ok w1 (r := r) (k := j) (by rw [ml]; exact h)
    rw [ml] at this
    have this : nb r (wG e) (nG e) (sG e) j ≠ j → (j + nb r (wG e) (nG e) (sG e) j) % 2 = 1 := this
    have := this (by omega)
    omega
theorem stB_row {r : Nat} (hr : r < 2) : ∀ {st : Nat} {es : List Ent}, (∀ e ∈ es, GdE e) → StB st (rowG r st es) (totG es)
  | _, [], _ => stB_nil
  | st, e :: es, g => (stB_blk hr (g e (List.mem_cons_self ..))).app (stB_row hr fun x hx => g x (List.mem_cons_of_mem _ hx))
/-! ### records 0 and 2 exchanged -/
def sw (j : Nat) : Nat := if j = 0 then 2 else if j = 2 then 0 else j
theorem sw_sw (j : Nat) : sw (sw j) = j := by
  unfold sw
  by_cases a : j = 0
  · subst a; rfl
  by_cases c : j = 2
  · subst c; rfl
  rw [if_neg a, if_neg c, if_neg a, if_neg c]
theorem sw_lt {j n : Nat} (h3 : 3 ≤ n) (h : j < n) : sw j < n := by unfold sw; split <;> (try split) <;> omega
theorem sw_par (j : Nat) : sw j % 2 = j % 2 := by unfold sw; split <;> (try split) <;> omega
def swR (R : List Nat) : List Nat := mp (fun j => sw (gt R (sw j))) R.length
theorem StB.sw {R : List Nat} {n : Nat} (a : StB 0 R n) (h3 : 3 ≤ n) : StB 0 (swR R) n := by
  have la := a.len
  have at_ : ∀ j, j < n → gt (swR R) j = Pv.sw (gt R (Pv.sw j)) := fun j h => gt_mp (by rw [la]; exact h)
  have l1 : ∀ j, j < n → gt R (Pv.sw j) < n := fun j h => by have := a.hi (Pv.sw j) (sw_lt h3 h); omega
  refine ⟨mp_len.trans la, fun j h => Nat.zero_le _, fun j h => ?_, fun j h => ?_, fun j h ne => ?_⟩
  · rw [at_ j h]
    have := sw_lt h3 (l1 j h)
    omega
  · rw [Nat.sub_zero, at_ j h, at_ _ (sw_lt h3 (l1 j h)), sw_sw]
    have := a.bk (Pv.sw j) (sw_lt h3 h)
    rw [Nat.sub_zero] at this
    rw [this, Nat.zero_add, sw_sw]
    omega
  · rw [at_ j h] at ne ⊢
    have := a.od (Pv.sw j) (sw_lt h3 h) (fun z => ne (by rw [z, Nat.zero_add, sw_sw]; omega))
    have p1 := sw_par j
    have p2 := sw_par (gt R (Pv.sw j))
    omega
def swP (p : Pc) : Pc := (p.1, p.2.1.map sw, p.2.2)
theorem swP_gt {p : Pc} {k : Nat} (h : k < p.2.1.length) : gt (swP p).2.1 k = sw (gt p.2.1 k) := by
  show (p.2.1.map sw).getD k 0 = _
  unfold gt
  rw [List.getD_eq_getElem?_getD, List.getD_eq_getElem?_getD, List.getElem?_map, List.getElem?_eq_getElem h]
  rfl
theorem sw_inj {a b : Nat} (h : sw a = sw b) : a = b := by rw [← sw_sw a, h, sw_sw]
theorem Bl.sw {A B : List Nat} {f n : Nat} {ps : List Pc} (b : Bl A B f ps n) (h3 : 3 ≤ n) : Bl (swR A) (swR B) f (ps.map swP) n := by
  have len : ∀ p : Pc, (swP p).2.1.length = p.2.1.length := fun p => List.length_map ..
  refine ⟨mp_len.trans b.la, mp_len.trans b.lb, b.hf, ?_, fun q hq => ?_, fun q hq => ?_⟩
  · rw [List.flatMap_map]
    have e1 : ∀ qs : List Pc, qs.flatMap (fun p => (swP p).2.1) = (qs.flatMap (·.2.1)).map Pv.sw := fun qs => by
      induction qs with
      | nil => rfl
      | cons a qs ih => rw [List.flatMap_cons, List.flatMap_cons, ih, List.map_append]; rfl
    rw [e1]
    refine (b.perm.map Pv.sw).trans ?_
    refine (List.perm_ext_iff_of_nodup (List.Pairwise.map _ (fun a c h z => h (sw_inj z)) List.nodup_range) List.nodup_range).mpr fun x => ?_
    rw [List.mem_map, List.mem_range]
    constructor
    · rintro ⟨y, hy, rfl⟩
      exact sw_lt h3 (List.mem_range.mp hy)
    · intro h
      exact ⟨Pv.sw x, List.mem_range.mpr (sw_lt h3 h), sw_sw x⟩
  · obtain ⟨p, hp, rfl⟩ := List.mem_map.mp hq
    have ok := b.ok p hp
    refine ⟨ok.w, ok.s, List.Pairwise.map _ (fun a c h z => h (sw_inj z)) ok.nd, ?_, ?_, ?_, ?_⟩
    · rw [len]; exact ok.l0
    · rw [len]; exact ok.l1
    · rw [len]; exact ok.l2
    · rw [len]; exact ok.l3
  · obtain ⟨p, hp, rfl⟩ := List.mem_map.mp hq
    have ok := b.ok p hp
    have one : ∀ (R : List Nat) (r : Nat), R.length = n → PcAt R r p → PcAt (swR R) r (swP p) := fun R r hl pa k hk => by
      rw [len] at hk ⊢
      have lt := nb_lt ok (r := r) hk
      rw [swP_gt hk]
      show gt (swR R) _ = gt (swP p).2.1 (nb r p.1 p.2.1.length p.2.2 k)
      rw [swP_gt lt]
      have rcd : gt p.2.1 k < n := b.lt hp _ (by
        unfold gt
        rw [List.getD_eq_getElem?_getD, List.getElem?_eq_getElem hk]
        exact List.getElem_mem hk)
      rw [show gt (swR R) (Pv.sw (gt p.2.1 k)) = _ from gt_mp (by rw [hl]; exact sw_lt h3 rcd), sw_sw, pa k hk]
    exact ⟨one A f b.la (b.at_ p hp).1, one B (1 - f) b.lb (b.at_ p hp).2⟩
theorem isCR_sw (p : Pc) : isCR (swP p) = isCR p := rfl
theorem entsD_sw {f : Nat} : ∀ {ps : List Pc}, entsD f (ps.map swP) = entsD f ps
  | [] => rfl
  | p :: ps => by
    have ih := entsD_sw (f := f) (ps := ps)
    unfold entsD at ih ⊢
    rw [List.map_cons, List.filter_cons, List.filter_cons, isCR_sw]
    have e1 : entD f (swP p) = entD f p := by
      unfold entD dueG
      show ((if p.1 = 3 then 1 else 0), (((p.2.1.map sw).length : Nat) : Int), (if p.1 = 3 then 0 else if (p.2.1.map sw).length % 2 = 1 then 0 else if p.2.2 = f then -1 else 1)) = (_ : Ent)
      rw [List.length_map]
    split
    · rw [List.map_cons, List.map_cons, ih, e1]
    · exact ih
/-! ### the rows of a clash -/
def restR (A B : List Nat) (m : Nat) : List Nat := mp (fun j => if j < m then gt B j else gt A j) A.length
def imgR (A B C D : List Nat) : List Nat := mp (fun j => if gt A j = gt C j ∨ gt A j = gt D j then gt A j else gt B j) A.length
def zI (R : List Nat) : List Int := R.map fun n : Nat => (n : Int)
theorem zI_inj {R S : List Nat} (h : zI R = zI S) : R = S := by
  have : ∀ R : List Nat, (zI R).map Int.toNat = R := fun R => by
    unfold zI
    rw [List.map_map]
    exact (List.map_congr_left fun x _ => Int.toNat_natCast x).trans (List.map_id R)
  rw [← this R, h, this S]
/-- four rows and an image that is torn in both pairs -/
structure Cla (A B C D : List Nat) (n : Nat) : Prop where
  a : StB 0 A n
  b : StB 0 B n
  c : StB 0 C n
  d : StB 0 D n
  ac : A ≠ C
  ad : A ≠ D
  bc : B ≠ C
  bd : B ≠ D
  torn : ∀ j, j < n → gt A j = gt C j ∨ gt A j = gt D j ∨ gt B j = gt C j ∨ gt B j = gt D j
theorem ne_at {R S : List Nat} {j : Nat} (h : gt R j ≠ gt S j) : R ≠ S := fun z => h (by rw [z])
/-- two pieces or more: all of the first is written, nothing of the others -/
theorem blk_ne {st : Nat} {e : Ent} (g : GdE e) : gt (blkG 0 st e) 0 ≠ gt (blkG 1 st e) 0 := by
  have g2 := g.n2
  have hn : 2 ≤ nG e := by unfold nG; omega
  have w1 : 1 < wG e := by unfold wG; split <;> omega
  have r4 : wG e = 3 → 4 ≤ nG e := fun h => by
    have e1 : e.1 ≠ 0 := by intro z; unfold wG at h; rw [if_pos z] at h; cases h
    have := g.w
    have := (g.ring (by omega)).1
    unfold nG
    omega
  have s2 : sG e < 2 := by unfold sG; split <;> omega
  unfold blkG
  rw [gt_mp (by omega), gt_mp (by omega), nb_cr w1, nb_cr w1]
  by_cases p : (sG e + 0) % 2 = 0
  · rw [if_pos p, if_pos (show 0 + 1 < nG e by omega), if_neg (show ¬ (sG e + 0) % 2 = 1 by omega), if_neg (show ¬ 0 < 0 by omega)]
    split <;> omega
  · rw [if_neg p, if_neg (show ¬ 0 < 0 by omega), if_pos (show (sG e + 0) % 2 = 1 by omega), if_pos (show 0 + 1 < nG e by omega)]
    split <;> omega
theorem gt_app0 {R S : List Nat} (h : 0 < R.length) : gt (R ++ S) 0 = gt R 0 := by rw [gt_app, if_pos h]
theorem cla_many {e0 e1 : Ent} {es : List Ent} (g : ∀ e ∈ e0 :: e1 :: es, GdE e) :
    Cla (rowG 0 0 (e0 :: e1 :: es)) (rowG 1 0 (e0 :: e1 :: es)) (restR (rowG 0 0 (e0 :: e1 :: es)) (rowG 1 0 (e0 :: e1 :: es)) (nG e0)) (restR (rowG 0 0 (e0 :: e1 :: es)) (rowG 1 0 (e0 :: e1 :: es)) (nG e0)) (totG (e0 :: e1 :: es)) := by
  have sA := stB_row (r := 0) (by decide) (st := 0) g
  have sB := stB_row (r := 1) (by decide) (st := 0) g
  have g0 := g e0 (List.mem_cons_self ..)
  have g1 := g e1 (List.mem_cons_of_mem _ (List.mem_cons_self ..))
  have n0 : 2 ≤ nG e0 := by have := g0.n2; unfold nG; omega
  have n1 : 2 ≤ nG e1 := by have := g1.n2; unfold nG; omega
  have b0 : ∀ r, (blkG r 0 e0).length = nG e0 := fun r => mp_len
  have b1 : ∀ r, (blkG r (0 + nG e0) e1).length = nG e1 := fun r => mp_len
  have tot : nG e0 + nG e1 ≤ totG (e0 :: e1 :: es) := by show _ ≤ nG e0 + (nG e1 + totG es); omega
  have eq : restR (rowG 0 0 (e0 :: e1 :: es)) (rowG 1 0 (e0 :: e1 :: es)) (nG e0) = blkG 1 0 e0 ++ rowG 0 (0 + nG e0) (e1 :: es) := by
    unfold restR
    rw [sA.len]
    refine (mp_eq (R := blkG 1 0 e0 ++ rowG 0 (0 + nG e0) (e1 :: es)) (n := totG (e0 :: e1 :: es)) (by rw [List.length_append, b0, rowG_len]; rfl) ▸ mp_congr fun j hj => ?_)
    rw [gt_app, b0]
    show (if j < nG e0 then gt (blkG 1 0 e0 ++ rowG 1 (0 + nG e0) (e1 :: es)) j else gt (blkG 0 0 e0 ++ rowG 0 (0 + nG e0) (e1 :: es)) j) = _
    rw [gt_app, gt_app, b0, b0]
    split <;> rfl
  have sC : StB 0 (blkG 1 0 e0 ++ rowG 0 (0 + nG e0) (e1 :: es)) (totG (e0 :: e1 :: es)) := (stB_blk (by decide) g0).app (stB_row (by decide) fun x hx => g x (List.mem_cons_of_mem _ hx))
  rw [eq]
  have aC : rowG 0 0 (e0 :: e1 :: es) ≠ blkG 1 0 e0 ++ rowG 0 (0 + nG e0) (e1 :: es) := ne_at (j := 0) (by
    show gt (blkG 0 0 e0 ++ _) 0 ≠ _
    rw [gt_app0 (by rw [b0]; omega), gt_app0 (by rw [b0]; omega)]
    exact blk_ne g0)
  have bC : rowG 1 0 (e0 :: e1 :: es) ≠ blkG 1 0 e0 ++ rowG 0 (0 + nG e0) (e1 :: es) := ne_at (j := nG e0) (by
    show gt (blkG 1 0 e0 ++ (blkG 1 (0 + nG e0) e1 ++ _)) _ ≠ gt (blkG 1 0 e0 ++ (blkG 0 (0 + nG e0) e1 ++ _)) _
    have x1 : ∀ S, gt (blkG 1 0 e0 ++ S) (nG e0) = gt S 0 := fun S => by rw [gt_app, b0, if_neg (Nat.lt_irrefl _), Nat.sub_self]
    rw [x1, x1, gt_app0 (by rw [b1]; omega), gt_app0 (by rw [b1]; omega)]
    exact (blk_ne g1).symm)
  refine ⟨sA, sB, sC, sC, aC, aC, bC, bC, fun j hj => ?_⟩
  by_cases c : j < nG e0
  · refine Or.inr (Or.inr (Or.inl ?_))
    show gt (blkG 1 0 e0 ++ _) j = _
    rw [gt_app, gt_app, b0, if_pos c, if_pos c]
  · refine Or.inl ?_
    show gt (blkG 0 0 e0 ++ _) j = _
    rw [gt_app, gt_app, b0, b0, if_neg c, if_neg c]
/-- one piece: all lengths, words and sides at once -/
def oneOk (n w s : Nat) : Bool :=
  ((List.range n).all fun j => decide (nb 0 w n s j = sw (nb 0 w n s (sw j))) || decide (nb 0 w n s j = sw (nb 1 w n s (sw j))) || decide (nb 1 w n s j = sw (nb 0 w n s (sw j))) || decide (nb 1 w n s j = sw (nb 1 w n s (sw j)))) &&
  ([0, 1].all fun r => [0, 1].all fun q => (List.range n).any fun j => decide (nb r w n s j ≠ sw (nb q w n s (sw j))))
theorem one_tab : ((List.range 65).all fun n => [2, 3].all fun w => [0, 1].all fun s => decide (n < 4) || (decide (w = 3) && (decide (n < 6) || decide (n % 2 = 1))) || oneOk n w s) = true := by decide +kernel
theorem cla_one {e : Ent} (g : GdE e) (h4 : 4 ≤ nG e) (h6 : e.1 = 1 → 6 ≤ nG e) (h64 : nG e ≤ 64) : Cla (rowG 0 0 [e]) (rowG 1 0 [e]) (swR (rowG 0 0 [e])) (swR (rowG 1 0 [e])) (totG [e]) := by
  have gs : ∀ x ∈ [e], GdE x := fun x hx => by rw [List.mem_singleton.mp hx]; exact g
  have sA := stB_row (r := 0) (by decide) (st := 0) gs
  have sB := stB_row (r := 1) (by decide) (st := 0) gs
  have tn : totG [e] = nG e := Nat.add_zero _
  rw [tn] at sA sB ⊢
  have w23 : wG e = 2 ∨ wG e = 3 := by unfold wG; split <;> omega
  have s01 : sG e = 0 ∨ sG e = 1 := by unfold sG; split <;> omega
  have ring : wG e = 3 → 6 ≤ nG e ∧ nG e % 2 = 0 := fun h => by
    have e1 : e.1 ≠ 0 := by intro z; unfold wG at h; rw [if_pos z] at h; cases h
    have gw := g.w
    have r := g.ring (by omega)
    refine ⟨h6 (by omega), ?_⟩
    unfold nG
    omega
  have ok : oneOk (nG e) (wG e) (sG e) = true := by
    have t1 := List.all_eq_true.mp one_tab (nG e) (List.mem_range.mpr (by omega))
    have t2 := List.all_eq_true.mp t1 (wG e) (by rcases w23 with h | h <;> rw [h] <;> simp)
    have t3 := List.all_eq_true.mp t2 (sG e) (by rcases s01 with h | h <;> rw [h] <;> simp)
    rw [decide_eq_false (by omega : ¬ nG e < 4), Bool.false_or, Bool.or_eq_true] at t3
    rcases t3 with h | h
    · rw [Bool.and_eq_true, decide_eq_true_eq, Bool.or_eq_true, decide_eq_true_eq, decide_eq_true_eq] at h
      have := ring h.1
      omega
    · exact h
  have row : ∀ r, rowG r 0 [e] = mp (fun j => nb r (wG e) (nG e) (sG e) j) (nG e) := fun r => by
    show blkG r 0 e ++ [] = _
    rw [List.append_nil]
    exact mp_congr fun j _ => Nat.zero_add _
  have at_ : ∀ r j, j < nG e → gt (rowG r 0 [e]) j = nb r (wG e) (nG e) (sG e) j := fun r j h => by rw [row]; exact gt_mp h
  have at2 : ∀ r j, j < nG e → gt (swR (rowG r 0 [e])) j = sw (nb r (wG e) (nG e) (sG e) (sw j)) := fun r j h => by
    unfold swR
    rw [gt_mp (by rw [rowG_len, tn]; exact h), at_ r _ (sw_lt (by omega) h)]
  unfold oneOk at ok
  rw [Bool.and_eq_true] at ok
  obtain ⟨k1, k2⟩ := ok
  have ne : ∀ r q, (r = 0 ∨ r = 1) → (q = 0 ∨ q = 1) → rowG r 0 [e] ≠ swR (rowG q 0 [e]) := fun r q hr hq => by
    have t1 := List.all_eq_true.mp k2 r (by rcases hr with h | h <;> rw [h] <;> simp)
    have t2 := List.all_eq_true.mp t1 q (by rcases hq with h | h <;> rw [h] <;> simp)
    obtain ⟨j, hj, d⟩ := List.any_eq_true.mp t2
    have jl := List.mem_range.mp hj
    refine ne_at (j := j) ?_
    rw [at_ r j jl, at2 q j jl]
    exact of_decide_eq_true d
  refine ⟨sA, sB, sA.sw (by omega), sB.sw (by omega), ne 0 0 (.inl rfl) (.inl rfl), ne 0 1 (.inl rfl) (.inr rfl), ne 1 0 (.inr rfl) (.inl rfl), ne 1 1 (.inr rfl) (.inr rfl), fun j hj => ?_⟩
  have t := List.all_eq_true.mp k1 j (List.mem_range.mpr hj)
  rw [Bool.or_eq_true, Bool.or_eq_true, Bool.or_eq_true, decide_eq_true_eq, decide_eq_true_eq, decide_eq_true_eq, decide_eq_true_eq] at t
  rw [at_ 0 j hj, at_ 1 j hj, at2 0 j hj, at2 1 j hj]
  omega
end Pv

/-! a walk that gathers a piece, whatever record it begins with -/
namespace Pv
open PySem L2 Evl Pm
theorem nod1 (y : Nat) : [y].Nodup := List.nodup_cons.mpr ⟨List.not_mem_nil, List.nodup_nil⟩
theorem nodP (y : Pc) : [y].Nodup := List.nodup_cons.mpr ⟨List.not_mem_nil, List.nodup_nil⟩
def entF (old new len : Nat) : Ent := if old = len ∧ new = len then (1, (len : Int), 0) else (0, (len : Int), ((new : Int) / 2) - ((old : Int) / 2))
def koOk (n w s : Nat) : Bool := decide (entF (cntF 0 w n s) (cntF 1 w n s) n = ((if w = 3 then 1 else 0), (n : Int), if w = 3 then 0 else if n % 2 = 1 then 0 else if s = 0 then -1 else 1))
theorem ko_tab : ((List.range 65).all fun n => [2, 3].all fun w => [0, 1].all fun s => decide (n < 2) || (decide (w = 3) && (decide (n < 4) || decide (n % 2 = 1))) || koOk n w s) = true := by decide +kernel
theorem ent_is {A B : List Nat} {p : Pc} (ok : PcOk p) (h1 : 1 < p.1) (h64 : p.2.1.length ≤ 64) (a : PcAt A 0 p) (b : PcAt B 1 p) {l : List Nat} (hl : l.Perm p.2.1) : entF (cntA A l) (cntA B l) l.length = entD 0 p := by
  rw [cnt_perm hl, cnt_perm hl, hl.length_eq, cnt_line ok a, cnt_line ok b]
  have hw := ok.w
  have hs := ok.s
  have h2 := ok.l2
  have h3 := ok.l3
  have t1 := List.all_eq_true.mp ko_tab p.2.1.length (List.mem_range.mpr (by omega))
  have t2 := List.all_eq_true.mp t1 p.1 (by rcases (by omega : p.1 = 2 ∨ p.1 = 3) with h | h <;> rw [h] <;> simp)
  have t3 := List.all_eq_true.mp t2 p.2.2 (by rcases (by omega : p.2.2 = 0 ∨ p.2.2 = 1) with h | h <;> rw [h] <;> simp)
  rw [decide_eq_false (by omega : ¬ p.2.1.length < 2), Bool.false_or, Bool.or_eq_true] at t3
  rcases t3 with h | h
  · rw [Bool.and_eq_true, decide_eq_true_eq, Bool.or_eq_true, decide_eq_true_eq, decide_eq_true_eq] at h
    have := h3 h.1
    omega
  · exact of_decide_eq_true h
/-- gathered of p so far: line; S tells who was seen -/
structure Ga (p : Pc) (S0 : Nat → Bool) (line : List Nat) (S : Nat → Bool) : Prop where
  nd : line.Nodup
  sub : ∀ x ∈ line, x ∈ p.2.1
  old : ∀ x ∈ p.2.1, S0 x = false
  is : ∀ x, S x = (S0 x || decide (x ∈ line))
theorem Ga.mem {p : Pc} {S0 S : Nat → Bool} {line : List Nat} (g : Ga p S0 line S) {y : Nat} (hy : y ∈ p.2.1) (h : S y = true) : y ∈ line := by
  rw [g.is, g.old y hy, Bool.false_or] at h
  exact of_decide_eq_true h
theorem Ga.add {p : Pc} {S0 S : Nat → Bool} {line : List Nat} (g : Ga p S0 line S) {y : Nat} (hy : y ∈ p.2.1) (h : S y = false) : Ga p S0 (line ++ [y]) (fun x => if x = y then true else S x) := by
  have ny : y ∉ line := fun m => by
    rw [g.is, decide_eq_true m, Bool.or_true] at h
    cases h
  refine ⟨?_, fun x hx => ?_, g.old, fun x => ?_⟩
  · rw [List.nodup_append]
    exact ⟨g.nd, nod1 y, fun a ha b hb e => ny (by rw [List.mem_singleton.mp hb] at e; rw [← e]; exact ha)⟩
  · rcases List.mem_append.mp hx with m | m
    · exact g.sub x m
    · rw [List.mem_singleton.mp m]
      exact hy
  · by_cases e : x = y
    · subst e
      rw [if_pos rfl, decide_eq_true (List.mem_append.mpr (.inr (List.mem_singleton.mpr rfl))), Bool.or_true]
    · rw [if_neg e, g.is]
      congr 1
      rw [Bool.eq_iff_iff, decide_eq_true_eq, decide_eq_true_eq, List.mem_append, List.mem_singleton]
      exact ⟨.inl, fun h => h.resolve_right e⟩
/-- the first q of the line show none but the line's own -/
def Dn (A B line : List Nat) (q : Nat) : Prop := ∀ i, i < q → gt A (gt line i) ∈ line ∧ gt B (gt line i) ∈ line
theorem Dn.mono {A B line : List Nat} {q : Nat} {l2 : List Nat} (d : Dn A B line q) (hq : q ≤ line.length) : Dn A B (line ++ l2) q := fun i hi => by
  have := d i hi
  rw [gt_app, if_pos (by omega)]
  exact ⟨List.mem_append_left _ this.1, List.mem_append_left _ this.2⟩
theorem recs_in {A : List Nat} {p : Pc} {r x : Nat} (ok : PcOk p) (a : PcAt A r p) (h : x ∈ p.2.1) : gt A x ∈ p.2.1 := by
  obtain ⟨h1, h2⟩ := idx_gt h
  have := a _ h1
  rw [h2] at this
  rw [this]
  have lt := nb_lt ok (r := r) h1
  unfold gt
  rw [List.getD_eq_getElem?_getD, List.getElem?_eq_getElem lt]
  exact List.getElem_mem lt
theorem gather {A B : List Nat} {p : Pc} {line : List Nat} (ok : PcOk p) (h1 : 1 < p.1) (a : PcAt A 0 p) (b : PcAt B 1 p) (nd : line.Nodup) (sub : ∀ x ∈ line, x ∈ p.2.1) {st : Nat} (hs : st ∈ line) (d : Dn A B line line.length) : line.Perm p.2.1 := by
  have gm : ∀ {l : List Nat} {k : Nat}, k < l.length → gt l k ∈ l := fun {l k} h => by
    unfold gt
    rw [List.getD_eq_getElem?_getD, List.getElem?_eq_getElem h]
    exact List.getElem_mem h
  have cl : ∀ x ∈ line, gt A x ∈ line ∧ gt B x ∈ line := fun x hx => by
    obtain ⟨i1, i2⟩ := idx_gt hx
    have := d _ i1
    rw [i2] at this
    exact this
  have up : ∀ k, k + 1 < p.2.1.length → gt p.2.1 k ∈ line → gt p.2.1 (k + 1) ∈ line := fun k hk m => by
    have c := cl _ m
    by_cases par : (p.2.2 + k) % 2 = 0
    · have := a k (by omega)
      rw [nb_cr h1, if_pos par, if_pos hk] at this
      rw [← this]
      exact c.1
    · have := b k (by omega)
      rw [nb_cr h1, if_pos (by omega), if_pos hk] at this
      rw [← this]
      exact c.2
  have dn : ∀ k, k + 1 < p.2.1.length → gt p.2.1 (k + 1) ∈ line → gt p.2.1 k ∈ line := fun k hk m => by
    have c := cl _ m
    by_cases par : (p.2.2 + (k + 1)) % 2 = 0
    · have := b (k + 1) hk
      rw [nb_cr h1, if_neg (by omega), if_pos (by omega), Nat.add_sub_cancel] at this
      rw [← this]
      exact c.2
    · have := a (k + 1) hk
      rw [nb_cr h1, if_neg (by omega), if_pos (by omega), Nat.add_sub_cancel] at this
      rw [← this]
      exact c.1
  obtain ⟨q1, q2⟩ := idx_gt (sub st hs)
  generalize p.2.1.idxOf st = q at q1 q2
  have m0 : gt p.2.1 q ∈ line := by rw [q2]; exact hs
  have lo : ∀ j, j ≤ q → gt p.2.1 (q - j) ∈ line := fun j => by
    induction j with
    | zero => exact fun _ => m0
    | succ j ih =>
      intro hj
      have := ih (by omega)
      rw [show q - j = (q - (j + 1)) + 1 by omega] at this
      exact dn _ (by omega) this
  have hi : ∀ j, q + j < p.2.1.length → gt p.2.1 (q + j) ∈ line := fun j => by
    induction j with
    | zero => exact fun _ => m0
    | succ j ih => exact fun hj => up _ hj (ih (by omega))
  refine (List.perm_ext_iff_of_nodup nd ok.nd).mpr fun x => ⟨sub x, fun hx => ?_⟩
  obtain ⟨i1, i2⟩ := idx_gt hx
  rw [← i2]
  generalize p.2.1.idxOf x = k at i1
  by_cases c : k ≤ q
  · have := lo (q - k) (by omega)
    rw [show q - (q - k) = k by omega] at this
    exact this
  · have := hi (k - q) (by omega)
    rw [show q + (k - q) = k by omega] at this
    exact this
/-- pieces told so far -/
structure Gs (ps : List Pc) (dn : List Pc) (S : Nat → Bool) : Prop where
  nd : dn.Nodup
  sub : ∀ p ∈ dn, p ∈ ps
  is : ∀ x, S x = true ↔ ∃ p ∈ dn, x ∈ p.2.1
theorem Gs.add {A B : List Nat} {n : Nat} {ps dn : List Pc} {S S1 : Nat → Bool} (bl : Bl A B 0 ps n) (g : Gs ps dn S) {p : Pc} (hp : p ∈ ps) {line : List Nat} (ga : Ga p S line S1) (pm : line.Perm p.2.1) : Gs ps (dn ++ [p]) S1 := by
  have np : p ∉ dn := fun m => by
    have := bl.ok p hp
    have x0 := mn_in this
    have h1 := ga.old _ x0
    rw [(g.is _).mpr ⟨p, m, x0⟩] at h1
    cases h1
  refine ⟨?_, fun q hq => ?_, fun x => ?_⟩
  · rw [List.nodup_append]
    exact ⟨g.nd, nodP p, fun a ha b hb e => np (by rw [List.mem_singleton.mp hb] at e; rw [← e]; exact ha)⟩
  · rcases List.mem_append.mp hq with m | m
    · exact g.sub q m
    · rw [List.mem_singleton.mp m]
      exact hp
  · rw [ga.is, Bool.or_eq_true, g.is, decide_eq_true_eq, pm.mem_iff]
    constructor
    · rintro (⟨q, h1, h2⟩ | h)
      · exact ⟨q, List.mem_append_left _ h1, h2⟩
      · exact ⟨p, List.mem_append_right _ (List.mem_singleton.mpr rfl), h⟩
    · rintro ⟨q, h1, h2⟩
      rcases List.mem_append.mp h1 with m | m
      · exact .inl ⟨q, m, h2⟩
      · rw [List.mem_singleton.mp m] at h2
        exact .inr h2
theorem nd_ps {ps : List Pc} (nd : (ps.flatMap (·.2.1)).Nodup) (ok : ∀ p ∈ ps, PcOk p) : ps.Nodup := by
  induction ps with
  | nil => exact List.nodup_nil
  | cons a qs ih =>
    rw [List.flatMap_cons, List.nodup_append] at nd
    have m := mn_in (ok a (List.mem_cons_self ..))
    exact List.nodup_cons.mpr ⟨fun h => nd.2.2 _ m _ (List.mem_flatMap.mpr ⟨a, h, m⟩) rfl, ih nd.2.1 fun p hp => ok p (List.mem_cons_of_mem _ hp)⟩
theorem Gs.all {A B : List Nat} {n : Nat} {ps dn : List Pc} {S : Nat → Bool} (bl : Bl A B 0 ps n) (g : Gs ps dn S) (h : ∀ x, x < n → S x = true) : dn.Perm ps := by
  refine (List.perm_ext_iff_of_nodup g.nd (nd_ps bl.nd bl.ok)).mpr fun p => ⟨g.sub p, fun hp => ?_⟩
  have m := mn_in (bl.ok p hp)
  obtain ⟨q, hq, hx⟩ := (g.is _).mp (h _ (bl.lt hp _ m))
  rw [bl.uq hp (g.sub q hq) m hx]
  exact hq
theorem Gs.new {A B : List Nat} {n : Nat} {ps dn : List Pc} {S : Nat → Bool} (bl : Bl A B 0 ps n) (g : Gs ps dn S) {x : Nat} (hx : x < n) (h : S x = false) : ∃ p ∈ ps, x ∈ p.2.1 ∧ Ga p S [x] (fun y => if y = x then true else S y) := by
  obtain ⟨p, hp, m⟩ := bl.own hx
  refine ⟨p, hp, m, nod1 x, fun y hy => by rw [List.mem_singleton.mp hy]; exact m, fun y hy => ?_, fun y => ?_⟩
  · cases q : S y with
    | false => rfl
    | true =>
      obtain ⟨r, hr, my⟩ := (g.is y).mp q
      have e := bl.uq hp (g.sub r hr) hy my
      rw [← e] at hr
      rw [(g.is x).mpr ⟨p, hr, m⟩] at h
      cases h
  · by_cases e : y = x
    · subst e
      rw [if_pos rfl, decide_eq_true (List.mem_singleton.mpr rfl), Bool.or_true]
    · rw [if_neg e, decide_eq_false (fun z => e (List.mem_singleton.mp z)), Bool.or_false]
theorem ent_lt {f : Nat} {p : Pc} : (entD f p).1 < 2 := by unfold entD; show (if _ then 1 else 0) < 2; split <;> omega
end Pv

namespace Pv
open PySem L2 Evl Pm PySem.W
def encG (e : GE) : PyData := .tuple [.str e.1, .int e.2.1, .int e.2.2]
def encK (es : List GE) : PyData := .tuple (es.map encG)
theorem dp_gen {K : PySem.W.Frag} {H : Hp} {t : Addr} {e : GE} (h : GenAt H t e) : Dp K H (.ref t) (encG e) := .tup (SqT.of h) (.cons (.str _) (.cons (.int _) (.cons (.int _) .nil)))
theorem dpAll_G {K : PySem.W.Frag} {H : Hp} : ∀ (ts : List Addr) (es : List GE), ts.length = es.length → (∀ (i : Nat) (t : Addr) (e : GE), ts[i]? = some t → es[i]? = some e → GenAt H t e) → DpAll K H (ts.map V.ref) (es.map encG)
  | [], [], _, _ => .nil
  | [], _ :: _, h, _ => by cases h
  | _ :: _, [], h, _ => by cases h
  | t :: ts, f :: fs, h, k => .cons (dp_gen (k 0 t f rfl rfl)) (dpAll_G ts fs (by simpa using h) fun i t' e' a b => k (i + 1) t' e' a b)
theorem dp_kind {K : PySem.W.Frag} {H : Hp} {p : Addr} {es : List GE} (h : GensT H p es) : Dp K H (.ref p) (encK es) := by
  obtain ⟨ts, h1, h2, h3⟩ := h
  exact .tup (SqT.of h1) (dpAll_G ts es h2 h3)
theorem alike_gen (e f : GE) : alike (encG e) (encG f) = true := by simp [encG, alike, alikeAll]
theorem depth_gen (e : GE) : (encG e).depth ≤ 60 := by simp [encG, PyData.depth, PyData.depthAll]
theorem eqv_str (x y : Str) : PyData.eqv (.str x) (.str y) = decide (x = y) := by
  show (x == y) = _
  rw [Bool.eq_iff_iff, beq_iff_eq, decide_eq_true_eq]
theorem eqv_gen (e f : GE) : PyData.eqv (encG e) (encG f) = decide (e = f) := by
  have one : PyData.eqv (encG e) (encG f) = (PyData.eqv (.str e.1) (.str f.1) && (PyData.eqv (.int e.2.1) (.int f.2.1) && (PyData.eqv (.int e.2.2) (.int f.2.2) && true))) := rfl
  rw [one, eqv_str, int_eq, int_eq, Bool.and_true, Bool.eq_iff_iff]
  simp only [Bool.and_eq_true, decide_eq_true_eq]
  obtain ⟨a, b, c⟩ := e
  obtain ⟨a', b', c'⟩ := f
  simp
theorem eqv_gens : ∀ es fs : List GE, PyData.eqvAll (es.map encG) (fs.map encG) = decide (es = fs)
  | [], [] => rfl
  | [], _ :: _ => rfl
  | _ :: _, [] => rfl
  | e :: es, f :: fs => by
    show (PyData.eqv (encG e) (encG f) && PyData.eqvAll (es.map encG) (fs.map encG)) = _
    rw [eqv_gens es fs, eqv_gen, Bool.eq_iff_iff]
    simp
theorem eqv_kind (es fs : List GE) : PyData.eqv (encK es) (encK fs) = decide (es = fs) := eqv_gens es fs
theorem encG_frG {e : GE} (g : goodE e = true) : encG e = encE (frG e) := by
  have : encG (toG (frG e)) = encE (frG e) := rfl
  rw [toG_frG g] at this
  exact this
theorem lay_gens : ∀ {es : List GE}, (∀ e ∈ es, goodE e = true) → PyData.canLayAll0 (es.map encG) = true
  | [], _ => by simp [PyData.canLayAll0]
  | x :: xs, h => by
    simp only [List.map_cons, PyData.canLayAll0, lay_gens fun e he => h e (List.mem_cons_of_mem _ he)]
    rw [encG_frG (h x (List.mem_cons_self ..)), lay_ent]
    rfl
theorem deep_gens : ∀ es : List GE, PyData.depthAll (es.map encG) ≤ 61
  | [] => by simp [PyData.depthAll]
  | x :: xs => by
    have h1 := deep_gens xs
    have h2 := depth_gen x
    simp only [List.map_cons, PyData.depthAll]
    omega
theorem shaped_kind {es : List GE} (g : ∀ e ∈ es, goodE e = true) : SeqAt.shaped (encK es) = true := by
  have h2 : PyData.depth (encK es) ≤ 64 := by
    have := deep_gens es
    unfold encK
    simp only [PyData.depth]
    omega
  have h1 : PyData.canLay0 (encK es) = true := by
    unfold encK
    simp only [PyData.canLay0]
    exact lay_gens g
  unfold SeqAt.shaped
  rw [h1, decide_eq_true h2]
  rfl
theorem shaped_gen {e : GE} (g : goodE e = true) : SeqAt.shaped (encG e) = true := by
  have h2 : PyData.depth (encG e) ≤ 64 := Nat.le_trans (depth_gen e) (by decide)
  have h1 : PyData.canLay0 (encG e) = true := by
    rw [encG_frG g]
    exact lay_ent _
  unfold SeqAt.shaped
  rw [h1, decide_eq_true h2]
  rfl
def gA : GE := ("chain", 2, -1)
def gB : GE := ("chain", 2, 1)
def gC : GE := ("chain", 3, 0)
def gD : GE := ("ring", 4, 0)
def SAFE : List (List GE) := [[], [gA], [gB], [gC], [gD]]
def safeB (es : List GE) : Bool := decide (es ∈ SAFE)
theorem shaped_SAFE : SeqAt.shaped (.list (SAFE.map encK)) = true := by decide +kernel
theorem any_SAFE (es : List GE) : (SAFE.map encK).any (fun z => PyData.eqv z (encK es)) = safeB es := by
  unfold safeB
  rw [List.any_map, Bool.eq_iff_iff, List.any_eq_true, decide_eq_true_eq]
  constructor
  · rintro ⟨x, hx, e⟩
    have e : PyData.eqv (encK x) (encK es) = true := e
    rw [eqv_kind, decide_eq_true_eq] at e
    rw [← e]
    exact hx
  · intro h
    refine ⟨es, h, ?_⟩
    show PyData.eqv (encK es) (encK es) = true
    rw [eqv_kind]
    exact decide_eq_true rfl
/-- sorted of a row of entries: the same entries in another order -/
theorem sort_gens {H : Hp} {ts : List Addr} {es : List GE} (hl : ts.length = es.length) (h : ∀ (i : Nat) (t : Addr) (e : GE), ts[i]? = some t → es[i]? = some e → GenAt H t e) :
    ∃ (ts' : List Addr) (es' : List GE), ((((ts.zip es).map fun z => (V.ref z.1, encG z.2)).mergeSort (dataLe false Prod.snd)).map Prod.fst) = ts'.map V.ref ∧ es'.Perm es ∧ ts'.length = es'.length ∧ ∀ (i : Nat) (t : Addr) (e : GE), ts'[i]? = some t → es'[i]? = some e → GenAt H t e := by
  have at_ : ∀ z ∈ ts.zip es, GenAt H z.1 z.2 := fun z hz => by
    obtain ⟨i, hi, e⟩ := List.getElem_of_mem hz
    have e2 : (ts.zip es)[i]? = some z := by rw [List.getElem?_eq_getElem hi, e]
    rw [List.getElem?_zip_eq_some] at e2
    exact h i _ _ e2.1 e2.2
  have sm : ((ts.zip es).map fun z => (V.ref z.1, encG z.2)).mergeSort (dataLe false Prod.snd) = ((ts.zip es).mergeSort fun a b => !dataLt (encG b.2) (encG a.2)).map fun z => (V.ref z.1, encG z.2) :=
    (sort_maps (fun z : Addr × GE => (V.ref z.1, encG z.2)) fun a ha b hb => rfl).symm
  refine ⟨((ts.zip es).mergeSort fun a b => !dataLt (encG b.2) (encG a.2)).map Prod.fst, ((ts.zip es).mergeSort fun a b => !dataLt (encG b.2) (encG a.2)).map Prod.snd, ?_, ?_, ?_, fun i t e h3 h4 => ?_⟩
  · rw [sm, List.map_map, List.map_map]
    rfl
  · have p := (List.mergeSort_perm (ts.zip es) fun a b => !dataLt (encG b.2) (encG a.2)).map Prod.snd
    rw [List.map_snd_zip (by omega)] at p
    exact p
  · rw [List.length_map, List.length_map]
  · rw [List.getElem?_map] at h3 h4
    cases q : ((ts.zip es).mergeSort fun a b => !dataLt (encG b.2) (encG a.2))[i]? with
    | none => rw [q] at h3; cases h3
    | some z =>
      rw [q] at h3 h4
      cases h3
      cases h4
      exact at_ z ((List.mergeSort_perm (ts.zip es) fun a b => !dataLt (encG b.2) (encG a.2)).mem_iff.mp (List.mem_of_getElem? q))
/-! ### kinds -/
def spWl : Sp := fun vs H Q _ => ∃ i : Int, vs = [.int i] ∧ Q (.bl true) H
def spBg (K : PySem.W.Frag) : Sp := fun vs H Q _ => ∃ (a : Addr) (ns : List Int), vs = [.ref a] ∧ SqL K H a (ns.map V.int) ∧ ns.length ≤ 63 ∧ ∀ b c H', H b = none → H c = none → Ex H H' → Bx H' b c → Q (.ref b) H'
def totZ (es : List GE) : Nat := totG (es.map frG)
/-- a kind of the law: not too long, not too many records -/
structure FewK (es : List GE) : Prop where
  l : es.length ≤ 60
  t : totZ es ≤ 64
def spPa : Sp := fun vs H Q _ => ∃ (b c : Addr) (room : Int), vs = [.ref b, .int room] ∧ 2 ≤ room ∧ room ≤ 64 ∧ Bx H b c ∧ ∀ t (e : GE) H', H t = none → Bx H' b c → Mut b H H' → GenAt H' t e → 0 ≤ e.2.1 → e.2.1 ≤ room → Q (.ref t) H'
def spKi : Sp := fun vs H Q _ => ∃ (b c : Addr) (most : Int), vs = [.ref b, .int most] ∧ 0 ≤ most ∧ most ≤ 64 ∧ Bx H b c ∧ ∀ p (es : List GE) H', H p = none → Bx H' b c → Mut b H H' → GensT H' p es → es.length ≤ 40 → (totZ es : Int) ≤ most → Q (.ref p) H'
def spTa : Sp := fun vs H Q _ => ∃ (b c : Addr), vs = [.ref b] ∧ Bx H b c ∧ ∀ p (es : List GE) H', H p = none → Bx H' b c → Mut b H H' → GensT H' p es → FewK es → Q (.ref p) H'
def spBk : Sp := fun vs H Q _ => ∃ (b c q : Addr) (es : List GE), vs = [.ref b, .ref q] ∧ Bx H b c ∧ GensT H q es ∧ es.length ≤ 40 ∧ totZ es ≤ 40 ∧ ∀ p (fs : List GE) H', H p = none → Bx H' b c → Mut b H H' → GensT H' p fs → FewK fs → Q (.ref p) H'
/-- kinds at ps -/
def KsAt (H : Hp) (ps : List Addr) (ks : List (List GE)) : Prop := ps.length = ks.length ∧ ∀ (i : Nat) (p : Addr) (es : List GE), ps[i]? = some p → ks[i]? = some es → GensT H p es ∧ FewK es
theorem KsAt.ex {H H' : Hp} {ps : List Addr} {ks : List (List GE)} (e : Ex H H') (h : KsAt H ps ks) : KsAt H' ps ks := ⟨h.1, fun i p es a b => ⟨(h.2 i p es a b).1.ex e, (h.2 i p es a b).2⟩⟩
def spKs : Sp := fun vs H Q _ => ∃ (b c : Addr) (n : Nat) (most : Int), vs = [.ref b, .int (n : Int), .int most] ∧ n ≤ 9 ∧ 0 ≤ most ∧ most ≤ 64 ∧ Bx H b c ∧ ∀ r (ps : List Addr) (ks : List (List GE)) H', H r = none → Bx H' b c → Mut b H H' → H' r = some (.lst (ps.map V.ref)) → KsAt H' ps ks → ps.length = n → Q (.ref r) H'
def spEr : Sp := fun vs H Q _ => ∃ (t : Addr) (e : GE), vs = [.ref t] ∧ GenAt H t e ∧ Q (.bl (goodE e)) H
def spKr : Sp := fun vs H Q _ => ∃ (p : Addr) (es : List GE), vs = [.ref p] ∧ GensT H p es ∧ es.length ≤ 60 ∧ (Valid es → Q (.bl true) H) ∧ (¬ Valid es → Q (.bl false) H)
def spSf : Sp := fun vs H Q _ => ∃ (p : Addr) (es : List GE), vs = [.ref p] ∧ GensT H p es ∧ es.length ≤ 60 ∧ (∀ e ∈ es, goodE e = true) ∧ ∀ H', Ex H H' → Q (.bl (safeB es)) H'
def allSafe (ks : List (List GE)) : Bool := ks.all safeB
def seAl (A : Ad) : HotE.SpE := fun a c d vs H Q _ => vs = [.ref a] ∧ c = .ref A.InvalidKind ∧ d = none ∧ Q (.bl true) H
/-! ### rows -/
def RwA (H : Hp) (p : Addr) (as : List Addr) (rs : List (List Int)) : Prop := H p = some (.lst (as.map V.ref)) ∧ as.length = 5 ∧ rs.length = 5 ∧ ∀ (i : Nat) (a : Addr) (xs : List Int), as[i]? = some a → rs[i]? = some xs → ListI H a xs ∧ xs.length ≤ 70
theorem RwA.ex {H H' : Hp} {p : Addr} {as : List Addr} {rs : List (List Int)} (e : Ex H H') (h : RwA H p as rs) : RwA H' p as rs := ⟨e _ _ h.1, h.2.1, h.2.2.1, fun i a xs x y => ⟨(h.2.2.2 i a xs x y).1.ex e, (h.2.2.2 i a xs x y).2⟩⟩
def tornF (a b m : List Int) : Bool := decide (a.length = m.length) && (decide (b.length = m.length) && (List.range m.length).all fun k => decide (m.getD k 0 = a.getD k 0) || decide (m.getD k 0 = b.getD k 0))
def holdsF (a b c d m : List Int) : Bool := tornF a b m && (tornF c d m && (!decide (a = c) && (!decide (a = d) && (!decide (b = c) && !decide (b = d)))))
def g5 (rs : List (List Int)) (i : Nat) : List Int := rs.getD i []
def holdsR (rs : List (List Int)) : Bool := holdsF (g5 rs 0) (g5 rs 1) (g5 rs 2) (g5 rs 3) (g5 rs 4)
def spHo : Sp := fun vs H Q _ => ∃ (p : Addr) (as : List Addr) (rs : List (List Int)), vs = [.ref p] ∧ RwA H p as rs ∧ Q (.bl (holdsR rs)) H
def spOw : Sp := fun vs H Q _ => ∃ (t a b : Addr) (xs ys : List Int), vs = [.ref t] ∧ H t = some (.tup [.ref a, .ref b]) ∧ ListI H a xs ∧ ListI H b ys ∧ xs.length ≤ 70 ∧ ys.length ≤ 70 ∧
  ∀ u p q H', H u = none → H p = none → H q = none → Ex H H' → H' u = some (.tup [.ref p, .ref q]) → ListI H' p xs → ListI H' q ys → Q (.ref u) H'
def spTo : Sp := fun vs H Q _ => ∃ (t a b m : Addr) (xs ys ms : List Int), vs = [.ref t, .ref m] ∧ H t = some (.tup [.ref a, .ref b]) ∧ ListI H a xs ∧ ListI H b ys ∧ ListI H m ms ∧ xs.length ≤ 70 ∧ ys.length ≤ 70 ∧ ms.length ≤ 70 ∧ ∀ H', Ex H H' → Q (.bl (tornF xs ys ms)) H'
/-- a clash at u: its own tuples, rows and image -/
structure ClA (A : Ad) (H : Hp) (u t1 t2 a b c d m : Addr) (rs : List (List Int)) : Prop where
  obj : ∃ dx, H u = some (.ins A.Clash dx [("first", .ref t1), ("second", .ref t2), ("image", .ref m)])
  one : H t1 = some (.tup [.ref a, .ref b])
  two : H t2 = some (.tup [.ref c, .ref d])
  r0 : ListI H a (g5 rs 0)
  r1 : ListI H b (g5 rs 1)
  r2 : ListI H c (g5 rs 2)
  r3 : ListI H d (g5 rs 3)
  r4 : ListI H m (g5 rs 4)
  few : ∀ i, (g5 rs i).length ≤ 70
theorem ClA.keep {A : Ad} {H H' : Hp} {u t1 t2 a b c d m : Addr} {rs : List (List Int)} (h : ClA A H u t1 t2 a b c d m rs) (k : ∀ x ∈ [u, t1, t2, a, b, c, d, m], ∀ o, H x = some o → H' x = some o) : ClA A H' u t1 t2 a b c d m rs := by
  obtain ⟨⟨dx, h0⟩, h1, h2, h3, h4, h5, h6, h7, h8⟩ := h
  exact ⟨⟨dx, k _ (by simp) _ h0⟩, k _ (by simp) _ h1, k _ (by simp) _ h2, k _ (by simp) _ h3, k _ (by simp) _ h4, k _ (by simp) _ h5, k _ (by simp) _ h6, k _ (by simp) _ h7, h8⟩
theorem ClA.ex {A : Ad} {H H' : Hp} {u t1 t2 a b c d m : Addr} {rs : List (List Int)} (e : Ex H H') (h : ClA A H u t1 t2 a b c d m rs) : ClA A H' u t1 t2 a b c d m rs := h.keep fun x _ o q => e x o q
def spIn (A : Ad) : Sp := fun vs H Q _ => ∃ (u dx s1 s2 p0 p1 p2 p3 p4 : Addr) (rs : List (List Int)), vs = [.ref u, .ref s1, .ref s2, .ref p4] ∧ H u = some (.ins A.Clash dx []) ∧ H s1 = some (.tup [.ref p0, .ref p1]) ∧ H s2 = some (.tup [.ref p2, .ref p3]) ∧
  ListI H p0 (g5 rs 0) ∧ ListI H p1 (g5 rs 1) ∧ ListI H p2 (g5 rs 2) ∧ ListI H p3 (g5 rs 3) ∧ ListI H p4 (g5 rs 4) ∧ (∀ i, (g5 rs i).length ≤ 70) ∧
  ∀ t1 t2 a b c d m H', (∀ x ∈ [t1, t2, a, b, c, d, m], H x = none) → (∀ x o, x ≠ u → H x = some o → H' x = some o) → ClA A H' u t1 t2 a b c d m rs → Q .non H'
def spHd (A : Ad) : Sp := fun vs H Q _ => ∃ (u t1 t2 a b c d m : Addr) (rs : List (List Int)), vs = [.ref u] ∧ ClA A H u t1 t2 a b c d m rs ∧ ∀ H', Ex H H' → Q (.bl (holdsR rs)) H'
theorem sortG {K : PySem.W.Frag} {H : Hp} {r : Addr} {ts : List Addr} {es : List GE} (hr : H r = some (.lst (ts.map V.ref))) (hl : ts.length = es.length) (h : ∀ (i : Nat) (t : Addr) (e : GE), ts[i]? = some t → es[i]? = some e → GenAt H t e) :
    ∃ (bs : List (V × PyData)) (ts' : List Addr) (es' : List GE), SqL K H r (bs.map Prod.fst) ∧ (∀ b ∈ bs, Dp K H b.1 b.2 ∧ b.2.depth ≤ 60) ∧ AllAlike (bs.map Prod.snd) ∧ Sortable (bs.map Prod.snd) ∧ (bs.mergeSort (dataLe false Prod.snd)).map Prod.fst = ts'.map V.ref ∧
      es'.Perm es ∧ ts'.length = es'.length ∧ ∀ (i : Nat) (t : Addr) (e : GE), ts'[i]? = some t → es'[i]? = some e → GenAt H t e := by
  obtain ⟨ts', es', so1, so2, so3, so4⟩ := sort_gens hl h
  have zf : ((ts.zip es).map fun z => (V.ref z.1, encG z.2)).map Prod.fst = ts.map V.ref := by
    rw [List.map_map]
    have := List.map_fst_zip (l₁ := ts) (l₂ := es) (by omega)
    conv => rhs; rw [← this, List.map_map]
    rfl
  refine ⟨(ts.zip es).map fun z => (V.ref z.1, encG z.2), ts', es', (by rw [zf]; exact SqL.of hr), fun z hz => ?_, ?_, ?_, so1, so2, so3, so4⟩
  · obtain ⟨y, hy, rfl⟩ := List.mem_map.mp hz
    obtain ⟨i, hi, ez⟩ := List.getElem_of_mem hy
    have e2z : (ts.zip es)[i]? = some y := by rw [List.getElem?_eq_getElem hi, ez]
    rw [List.getElem?_zip_eq_some] at e2z
    exact ⟨dp_gen (h i _ _ e2z.1 e2z.2), depth_gen _⟩
  · rw [List.map_map]
    intro d hd d' hd'
    obtain ⟨y, _, rfl⟩ := List.mem_map.mp hd
    obtain ⟨y', _, rfl⟩ := List.mem_map.mp hd'
    exact alike_gen _ _
  · rw [List.map_map]
    refine .inl fun d hd => ?_
    obtain ⟨y, _, rfl⟩ := List.mem_map.mp hd
    exact ⟨_, _, rfl⟩
theorem Mut.ext {b : Addr} {H H1 H2 : Hp} (x : Mut b H H1) (e : Ex H1 H2) : Mut b H H2 := fun a o n h => e _ _ (x a o n h)
theorem cat_nI {l m : List Nat} : nI l ++ nI m = nI (l ++ m) := (List.map_append ..).symm
/-! ### clashes of a kind -/
def spSr (A : Ad) : Sp := fun vs H Q E => ∃ (p : Addr) (es : List GE), vs = [.ref p] ∧ GensT H p es ∧ es.length ≤ 70 ∧ (Valid es → totG (es.map frG) ≤ 64) ∧ (Valid es → ∀ t a b H', H t = none → H a = none → H b = none → Ex H H' → H' t = some (.tup [.ref a, .ref b]) → ListN H' a (rowG 0 0 (es.map frG)) → ListN H' b (rowG 1 0 (es.map frG)) → Q (.ref t) H') ∧ (¬ Valid es → ∀ H', Ex H H' → E (.ref A.InvalidKind) none H')
def rA (es : List GE) : List Nat := rowG 0 0 (es.map frG)
def rB (es : List GE) : List Nat := rowG 1 0 (es.map frG)
def fstN (es : List GE) : Nat := match es with
  | [] => 0
  | e :: _ => nG (frG e)
def rC (es : List GE) : List Nat := if es.length = 1 then swR (rA es) else restR (rA es) (rB es) (fstN es)
def rD (es : List GE) : List Nat := if es.length = 1 then swR (rB es) else restR (rA es) (rB es) (fstN es)
def rM (es : List GE) : List Nat := imgR (rA es) (rB es) (rC es) (rD es)
def rsK (es : List GE) : List (List Int) := [zI (rA es), zI (rB es), zI (rC es), zI (rD es), zI (rM es)]
theorem listNI {H : Hp} {p : Addr} {R : List Nat} : ListN H p R ↔ ListI H p (zI R) := by
  unfold ListN ListI zI nI
  rw [List.map_map]
  exact Iff.rfl
def ClK (A : Ad) (H : Hp) (u : Addr) (es : List GE) : Prop := ∃ t1 t2 a b c d m, ClA A H u t1 t2 a b c d m (rsK es)
theorem ClK.ex {A : Ad} {H H' : Hp} {u : Addr} {es : List GE} (e : Ex H H') (h : ClK A H u es) : ClK A H' u es := by
  obtain ⟨t1, t2, a, b, c, d, m, h⟩ := h
  exact ⟨t1, t2, a, b, c, d, m, h.ex e⟩
theorem gd_all {es : List GE} (v : Valid es) : ∀ f ∈ es.map frG, GdE f := fun f hf => by
  obtain ⟨e, he, rfl⟩ := List.mem_map.mp hf
  exact gdE (v.1 e he)
theorem goodW {e : GE} (h : goodE e = true) : (e.1 = ("ring" : Str) ∧ 4 ≤ e.2.1 ∧ e.2.1 % 2 = 0 ∧ e.2.2 = 0) ∨ (e.1 ≠ ("ring" : Str) ∧ e.1 = ("chain" : Str) ∧ 2 ≤ e.2.1 ∧ (if e.2.1 % 2 = 0 then e.2.2 = 1 ∨ e.2.2 = -1 else e.2.2 = 0)) := by
  unfold goodE at h
  by_cases c : e.1 = ("ring" : Str)
  · rw [if_pos c] at h
    simp only [Bool.and_eq_true, decide_eq_true_eq] at h
    exact .inl ⟨c, h⟩
  · rw [if_neg c] at h
    by_cases c2 : e.1 = ("chain" : Str)
    · rw [if_pos c2] at h
      refine .inr ⟨c, c2, ?_⟩
      by_cases c3 : e.2.1 < 2
      · rw [if_pos c3] at h
        cases h
      · rw [if_neg c3] at h
        refine ⟨by omega, ?_⟩
        split
        · rename_i z
          rw [if_pos z] at h
          simp only [Bool.or_eq_true, decide_eq_true_eq] at h
          exact h
        · rename_i z
          rw [if_neg z] at h
          exact of_decide_eq_true h
    · rw [if_neg c2] at h
      cases h
/-- one entry that is not safe is long -/
theorem unsafe_one {e : GE} (v : Valid [e]) (u : safeB [e] = false) : 4 ≤ nG (frG e) ∧ ((frG e).1 = 1 → 6 ≤ nG (frG e)) := by
  have g := v.1 e (List.mem_cons_self ..)
  have u : ¬ [e] ∈ SAFE := of_decide_eq_false u
  have nn : nG (frG e) = e.2.1.toNat := rfl
  have out : ∀ x : GE, [x] ∈ SAFE → e ≠ x := fun x hx z => u (by rw [z]; exact hx)
  rcases goodW g with ⟨w, h4, h2, h0⟩ | ⟨nr, w, h2, hz⟩
  · have : e.2.1 ≠ 4 := fun z => out gD (by decide) (by
      obtain ⟨a, b, c⟩ := e
      cases w; cases z; cases h0
      rfl)
    rw [nn]
    omega
  · have f0 : (frG e).1 = 0 := if_neg nr
    rw [f0, nn]
    refine ⟨?_, fun z => by cases z⟩
    have n2 : e.2.1 ≠ 2 := fun z => by
      rw [z, if_pos (by decide)] at hz
      rcases hz with h | h
      · exact out gB (by decide) (by
          obtain ⟨a, b, c⟩ := e
          cases w; cases z; cases h
          rfl)
      · exact out gA (by decide) (by
          obtain ⟨a, b, c⟩ := e
          cases w; cases z; cases h
          rfl)
    have n3 : e.2.1 ≠ 3 := fun z => by
      rw [z, if_neg (by decide)] at hz
      exact out gC (by decide) (by
          obtain ⟨a, b, c⟩ := e
          cases w; cases z; cases hz
          rfl)
    omega
theorem cla_K {es : List GE} (v : Valid es) (u : safeB es = false) (t : totZ es ≤ 64) : Cla (rA es) (rB es) (rC es) (rD es) (totZ es) := by
  have g := gd_all v
  match es, v, u, t, g with
  | [], _, u, _, _ => cases u
  | [e], v, u, t, g =>
    obtain ⟨h4, h6⟩ := unsafe_one v u
    exact cla_one (g _ (List.mem_cons_self ..)) h4 h6 (by have t : nG (frG e) + 0 ≤ 64 := t; omega)
  | e0 :: e1 :: es, v, u, t, g =>
    have l : ¬ (e0 :: e1 :: es).length = 1 := by simp
    unfold rC rD
    rw [if_neg l, if_neg l]
    exact cla_many g
theorem wG_lt (e : Ent) : 1 < wG e := by unfold wG; split <;> omega
theorem pcs_cr : ∀ {st : Nat} {es : List Ent}, ∀ p ∈ pcsG st es, 1 < p.1
  | _, [], p, hp => by cases hp
  | st, e :: es, p, hp => by
    rcases List.mem_cons.mp hp with h | h
    · rw [h]
      exact wG_lt e
    · exact pcs_cr p h
/-- both pairs of rows are of the kind -/
structure OfK (A B : List Nat) (es : List GE) (n : Nat) (ps : List Pc) : Prop where
  bl : Bl A B 0 ps n
  cr : ∀ p ∈ ps, 1 < p.1
  ents : ps.map (entD 0) = es.map frG
theorem entsD_cr {ps : List Pc} (h : ∀ p ∈ ps, 1 < p.1) : entsD 0 ps = ps.map (entD 0) := by
  unfold entsD
  rw [List.filter_eq_self.mpr (show ∀ p ∈ ps, isCR p = true from fun p hp => decide_eq_true (h p hp))]
theorem of_one {es : List GE} (v : Valid es) : OfK (rA es) (rB es) es (totZ es) (pcsG 0 (es.map frG)) :=
  ⟨bl_G (gd_all v), pcs_cr, by rw [← entsD_cr pcs_cr]; exact (entsD_G (gd_all v)).1⟩
theorem of_two {es : List GE} (v : Valid es) (u : safeB es = false) (ne : rC es ≠ rD es) : OfK (rC es) (rD es) es (totZ es) ((pcsG 0 (es.map frG)).map swP) := by
  have o := of_one v
  by_cases l : es.length = 1
  · have n3 : 3 ≤ totZ es := by
      match es, l, v, u with
      | [e], _, v, u =>
        have := (unsafe_one v u).1
        show 3 ≤ nG (frG e) + 0
        omega
    unfold rC rD
    rw [if_pos l, if_pos l]
    refine ⟨o.bl.sw n3, fun p hp => ?_, ?_⟩
    · obtain ⟨q, hq, rfl⟩ := List.mem_map.mp hp
      exact o.cr q hq
    · rw [← entsD_cr fun p hp => ?_, entsD_sw, entsD_cr o.cr]
      · exact o.ents
      · obtain ⟨q, hq, rfl⟩ := List.mem_map.mp hp
        exact o.cr q hq
  · unfold rC rD at ne
    rw [if_neg l, if_neg l] at ne
    exact absurd rfl ne
theorem getD_zI {R : List Nat} {k : Nat} : (zI R).getD k 0 = ((gt R k : Nat) : Int) := by
  unfold zI gt
  rw [List.getD_eq_getElem?_getD, List.getD_eq_getElem?_getD, List.getElem?_map]
  cases R[k]? <;> rfl
theorem zI_len {R : List Nat} : (zI R).length = R.length := List.length_map ..
theorem torn_of {A B M : List Nat} (la : A.length = M.length) (lb : B.length = M.length) (h : ∀ j, j < M.length → gt M j = gt A j ∨ gt M j = gt B j) : tornF (zI A) (zI B) (zI M) = true := by
  unfold tornF
  rw [zI_len, zI_len, zI_len, decide_eq_true la, decide_eq_true lb, Bool.true_and, Bool.true_and]
  refine List.all_eq_true.mpr fun k hk => ?_
  rw [getD_zI, getD_zI, getD_zI, Bool.or_eq_true, decide_eq_true_eq, decide_eq_true_eq]
  rcases h k (List.mem_range.mp hk) with e | e
  · exact .inl (by rw [e])
  · exact .inr (by rw [e])
theorem holds_K {es : List GE} {n : Nat} (c : Cla (rA es) (rB es) (rC es) (rD es) n) : holdsR (rsK es) = true := by
  have la := c.a.len
  have lb := c.b.len
  have lc := c.c.len
  have ld := c.d.len
  have lm : (rM es).length = n := mp_len.trans la
  have at_ : ∀ j, j < n → gt (rM es) j = if gt (rA es) j = gt (rC es) j ∨ gt (rA es) j = gt (rD es) j then gt (rA es) j else gt (rB es) j := fun j h => gt_mp (by rw [la]; exact h)
  have t1 : tornF (zI (rA es)) (zI (rB es)) (zI (rM es)) = true := torn_of (by omega) (by omega) fun j h => by
    rw [at_ j (by omega)]
    split
    · exact .inl rfl
    · exact .inr rfl
  have t2 : tornF (zI (rC es)) (zI (rD es)) (zI (rM es)) = true := torn_of (by omega) (by omega) fun j h => by
    rw [at_ j (by omega)]
    split
    · rename_i h; exact h
    · rename_i k
      have := c.torn j (by omega)
      rcases this with h | h | h | h
      · exact absurd (.inl h) k
      · exact absurd (.inr h) k
      · exact .inl h
      · exact .inr h
  have ne : ∀ {R S : List Nat}, R ≠ S → (!decide (zI R = zI S)) = true := fun h => by
    rw [decide_eq_false fun z => h (zI_inj z)]
    rfl
  show (tornF (zI (rA es)) (zI (rB es)) (zI (rM es)) && (tornF (zI (rC es)) (zI (rD es)) (zI (rM es)) && (!decide (zI (rA es) = zI (rC es)) && (!decide (zI (rA es) = zI (rD es)) && (!decide (zI (rB es) = zI (rC es)) && !decide (zI (rB es) = zI (rD es))))))) = true
  rw [t1, t2, ne c.ac, ne c.ad, ne c.bc, ne c.bd]
  rfl
/-! ### promises -/
def spRn : Sp := fun vs H Q _ => ∃ (a m : Addr) (R : List Nat), vs = [.ref a, .ref m] ∧ ListN H a R ∧ ListN H m (mp sw R.length) ∧ 3 ≤ R.length ∧ R.length ≤ 64 ∧ (∀ j, j < R.length → gt R j < R.length) ∧ ∀ p H', H p = none → Ex H H' → ListN H' p (swR R) → Q (.ref p) H'
def spOt : Sp := fun vs H Q _ => ∃ (t a b : Addr) (R S : List Nat), vs = [.ref t] ∧ H t = some (.tup [.ref a, .ref b]) ∧ ListN H a R ∧ ListN H b S ∧ S.length = R.length ∧ 3 ≤ R.length ∧ R.length ≤ 64 ∧ (∀ j, j < R.length → gt R j < R.length) ∧ (∀ j, j < S.length → gt S j < S.length) ∧
  ∀ u p q H', H u = none → Ex H H' → H' u = some (.tup [.ref p, .ref q]) → ListN H' p (swR R) → ListN H' q (swR S) → Q (.ref u) H'
def spRa : Sp := fun vs H Q _ => ∃ (t a b r : Addr) (R S : List Nat) (m : Nat), vs = [.ref t, .ref r] ∧ H t = some (.tup [.ref a, .ref b]) ∧ ListN H a R ∧ ListN H b S ∧ ListN H r (List.range m) ∧ S.length = R.length ∧ R.length ≤ 64 ∧ m ≤ 64 ∧
  ∀ u p H', H u = none → Ex H H' → H' u = some (.tup [.ref p, .ref p]) → ListN H' p (restR R S m) → Q (.ref u) H'
def spCb (A : Ad) : Sp := fun vs H Q _ => ∃ (t1 t2 a b c d : Addr) (R S X Y : List Nat), vs = [.ref t1, .ref t2] ∧ H t1 = some (.tup [.ref a, .ref b]) ∧ H t2 = some (.tup [.ref c, .ref d]) ∧ ListN H a R ∧ ListN H b S ∧ ListN H c X ∧ ListN H d Y ∧ S.length = R.length ∧ X.length = R.length ∧ Y.length = R.length ∧ R.length ≤ 64 ∧
  ∀ u u1 u2 p0 p1 p2 p3 p4 H', Ex H H' → ClA A H' u u1 u2 p0 p1 p2 p3 p4 [zI R, zI S, zI X, zI Y, zI (imgR R S X Y)] → Q (.ref u) H'
def spKc (A : Ad) : Sp := fun vs H Q E => ∃ (p : Addr) (es : List GE), vs = [.ref p] ∧ GensT H p es ∧ FewK es ∧ (Valid es → safeB es = true → ∀ H', Ex H H' → Q .non H') ∧ (Valid es → safeB es = false → ∀ u H', Ex H H' → ClK A H' u es → Q (.ref u) H') ∧ (¬ Valid es → ∀ H', Ex H H' → E (.ref A.InvalidKind) none H')
/-- the first that is not safe -/
def FirstU (ks : List (List GE)) (v : V) : Prop := (v = .non ∧ ∀ k ∈ ks, safeB k = true) ∨ ∃ (i : Nat) (es : List GE), v = .int (i : Int) ∧ ks[i]? = some es ∧ safeB es = false ∧ ∀ k ∈ ks.take i, safeB k = true
def spFu (A : Ad) : Sp := fun vs H Q E => ∃ (t : Addr) (ps : List Addr) (ks : List (List GE)), vs = [.ref t] ∧ H t = some (.tup (ps.map V.ref)) ∧ KsAt H ps ks ∧ ps.length ≤ 9 ∧
  ((∀ k ∈ ks, Valid k) → ∀ v H', Ex H H' → FirstU ks v → Q v H') ∧ ((¬ ∀ k ∈ ks, Valid k) → ∀ H', Ex H H' → E (.ref A.InvalidKind) none H')
/-- what first_clash answers -/
def Ans (A : Ad) (H : Hp) (ks : List (List GE)) (v : V) : Prop := (v = .non ∧ ∀ k ∈ ks, safeB k = true) ∨ ∃ (t u : Addr) (i : Nat) (es : List GE), v = .ref t ∧ H t = some (.tup [.int (i : Int), .ref u]) ∧ ks[i]? = some es ∧ safeB es = false ∧ (∀ k ∈ ks.take i, safeB k = true) ∧ ClK A H u es
theorem Ans.ex {A : Ad} {H H' : Hp} {ks : List (List GE)} {v : V} (e : Ex H H') (h : Ans A H ks v) : Ans A H' ks v := by
  rcases h with h | ⟨t, u, i, es, h1, h2, h3, h4, h5, h6⟩
  · exact .inl h
  · exact .inr ⟨t, u, i, es, h1, e _ _ h2, h3, h4, h5, h6.ex e⟩
def spFc (A : Ad) : Sp := fun vs H Q E => ∃ (ps : List Addr) (ks : List (List GE)), vs = ps.map V.ref ∧ KsAt H ps ks ∧ ps.length ≤ 9 ∧
  ((∀ k ∈ ks, Valid k) → ∀ v H', Ex H H' → Ans A H' ks v → Q v H') ∧ ((¬ ∀ k ∈ ks, Valid k) → ∀ H', Ex H H' → E (.ref A.InvalidKind) none H')
def Many (n : Nat) : Prop := n ≤ 4 ∨ n = 6
def spLc (A : Ad) : Sp := fun vs H Q E => ∃ (r : Addr) (ps : List Addr) (ks : List (List GE)), vs = [.ref r] ∧ H r = some (.lst (ps.map V.ref)) ∧ KsAt H ps ks ∧ Many ps.length ∧
  ((∀ k ∈ ks, Valid k) → ∀ v H', Ex H H' → Ans A H' ks v → Q v H') ∧ ((¬ ∀ k ∈ ks, Valid k) → ∀ H', Ex H H' → E (.ref A.InvalidKind) none H')
def spMf (A : Ad) : Sp := fun vs H Q _ => ∃ (r : Addr) (ps : List Addr) (ks : List (List GE)), vs = [.ref r] ∧ H r = some (.lst (ps.map V.ref)) ∧ KsAt H ps ks ∧ Many ps.length ∧
  ((∀ k ∈ ks, Valid k) → ∀ t v H', Ex H H' → H' t = some (.tup [.str "told", v]) → Ans A H' ks v → Q (.ref t) H') ∧ ((¬ ∀ k ∈ ks, Valid k) → ∀ t H', Ex H H' → H' t = some (.tup [.str "refused", .bl true]) → Q (.ref t) H')
def spMk (A : Ad) : Sp := fun vs H Q _ => ∃ (p : Addr) (es : List GE), vs = [.ref p] ∧ GensT H p es ∧ FewK es ∧
  (Valid es → safeB es = true → ∀ t H', Ex H H' → H' t = some (.tup [.str "told", .non]) → Q (.ref t) H') ∧ (Valid es → safeB es = false → ∀ t u H', Ex H H' → H' t = some (.tup [.str "told", .ref u]) → ClK A H' u es → Q (.ref t) H') ∧ (¬ Valid es → ∀ t H', Ex H H' → H' t = some (.tup [.str "refused", .bl true]) → Q (.ref t) H')
def spKo : Sp := fun vs H Q _ => ∃ (a b : Addr) (R S : List Nat) (es : List GE) (n : Nat) (ps : List Pc), vs = [.ref a, .ref b] ∧ ListN H a R ∧ ListN H b S ∧ OfK R S es n ps ∧ n ≤ 64 ∧ Valid es ∧ ∀ q H', Ex H H' → KindAt H' q (es.map frG) → Q (.ref q) H'
def spSt : Sp := fun vs H Q _ => ∃ (p : Addr) (R : List Nat) (n : Nat), vs = [.ref p, .int (n : Int)] ∧ ListN H p R ∧ StB 0 R n ∧ n ≤ 64 ∧ Q (.bl true) H
def spCl (A : Ad) : Sp := fun vs H Q _ => ∃ (u p : Addr) (es : List GE), vs = [.ref u, .ref p] ∧ ClK A H u es ∧ GensT H p es ∧ FewK es ∧ Valid es ∧ safeB es = false ∧ ∀ H', Ex H H' → Q (.bl true) H'
def spO1r : Sp := fun vs H Q _ => ∃ (p : Addr) (es : List GE), vs = [.ref p] ∧ GensT H p es ∧ FewK es ∧ ∀ H', Ex H H' → Q (.bl true) H'
def spFr : Sp := fun vs H Q _ => ∃ (r : Addr) (ps : List Addr) (ks : List (List GE)), vs = [.ref r] ∧ H r = some (.lst (ps.map V.ref)) ∧ KsAt H ps ks ∧ Many ps.length ∧ ∀ H', Ex H H' → Q (.bl true) H'
theorem totZ_cons {e : GE} {es : List GE} : totZ (e :: es) = e.2.1.toNat + totZ es := rfl
theorem totZ_perm {es fs : List GE} (p : es.Perm fs) : totZ es = totZ fs := by
  induction p with
  | nil => rfl
  | cons x _ ih => rw [totZ_cons, totZ_cons, ih]
  | swap x y l => rw [totZ_cons, totZ_cons, totZ_cons, totZ_cons]; omega
  | trans _ _ a b => exact a.trans b
theorem sum_tot : ∀ {es : List GE}, (∀ e ∈ es, 0 ≤ e.2.1) → (es.map (·.2.1)).sum = (totZ es : Int)
  | [], _ => rfl
  | e :: es, h => by
    have h1 := h e (List.mem_cons_self ..)
    rw [List.map_cons, List.sum_cons, sum_tot fun x hx => h x (List.mem_cons_of_mem _ hx), totZ_cons]
    omega
structure TeK (most : Int) (es : List GE) : Prop where
  pos : ∀ e ∈ es, 0 ≤ e.2.1
  tot : (totZ es : Int) ≤ most
theorem TeK.snoc {most : Int} {es : List GE} {f : GE} (h : TeK most es) (f0 : 0 ≤ f.2.1) (f1 : f.2.1 ≤ most - (totZ es : Int)) : TeK most (es ++ [f]) := by
  refine ⟨fun x hx => ?_, ?_⟩
  · rcases List.mem_append.mp hx with m | m
    · exact h.pos x m
    · rw [List.mem_singleton.mp m]
      exact f0
  · rw [totZ_perm (List.perm_append_comm (l₁ := es) (l₂ := [f])), List.singleton_append, totZ_cons]
    omega
theorem FewK.perm {es fs : List GE} (p : es.Perm fs) (h : FewK fs) : FewK es := ⟨by rw [p.length_eq]; exact h.l, by rw [totZ_perm p]; exact h.t⟩
theorem few_ins {es : List GE} {e : GE} {d : Nat} (hd : d ≤ es.length) (hl : es.length ≤ 40) (ht : totZ es ≤ 40) (he : e.2.1 ≤ 12) : FewK (es.take d ++ [e] ++ es.drop d) := by
  have p : (es.take d ++ [e] ++ es.drop d).Perm (e :: es) := by
    have p1 : (es.take d ++ [e]).Perm (e :: es.take d) := List.perm_append_comm
    have p2 := p1.append_right (es.drop d)
    rw [List.cons_append, List.take_append_drop] at p2
    exact p2
  refine FewK.perm p ⟨by rw [List.length_cons]; omega, ?_⟩
  rw [totZ_cons]
  omega
theorem nd_len {α : Type} [DecidableEq α] : ∀ {l m : List α}, l.Nodup → (∀ x ∈ l, x ∈ m) → l.length ≤ m.length
  | [], _, _, _ => Nat.zero_le _
  | a :: l, m, nd, h => by
    have nd := List.nodup_cons.mp nd
    have am := h a (List.mem_cons_self ..)
    have := nd_len (m := m.erase a) nd.2 fun x hx => (List.mem_erase_of_ne (fun z => nd.1 (by rw [← z]; exact hx))).mpr (h x (List.mem_cons_of_mem _ hx))
    rw [List.length_erase_of_mem am] at this
    have := List.length_pos_of_mem am
    rw [List.length_cons]
    omega
theorem Bl.recs_len {A B : List Nat} {f n : Nat} {ps : List Pc} (b : Bl A B f ps n) {p : Pc} (hp : p ∈ ps) : p.2.1.length ≤ n := by
  have := nd_len (b.ok p hp).nd fun x hx => List.mem_range.mpr (b.lt hp x hx)
  rw [List.length_range] at this
  exact this
theorem Bl.ps_len {A B : List Nat} {f n : Nat} {ps : List Pc} (b : Bl A B f ps n) : ps.length ≤ n := by
  have h := b.perm.length_eq
  rw [List.length_range] at h
  have g : ∀ qs : List Pc, (∀ p ∈ qs, PcOk p) → qs.length ≤ (qs.flatMap (·.2.1)).length := fun qs => by
    induction qs with
    | nil => exact fun _ => Nat.le_refl _
    | cons a qs ih =>
      intro ok
      have := (ok a (List.mem_cons_self ..)).pos
      have := ih fun p hp => ok p (List.mem_cons_of_mem _ hp)
      rw [List.flatMap_cons, List.length_append, List.length_cons]
      omega
  have := g ps b.ok
  omega
theorem sortE {K : PySem.W.Frag} {H : Hp} {r : Addr} {ts : List Addr} {es : List Ent} (hr : H r = some (.lst (ts.map V.ref))) (hl : ts.length = es.length) (h : ∀ (i : Nat) (t : Addr) (e : Ent), ts[i]? = some t → es[i]? = some e → EntAt H t e) (lt : ∀ e ∈ es, e.1 < 2) :
    ∃ (bs : List (V × PyData)) (ts' : List Addr) (es' : List Ent), SqL K H r (bs.map Prod.fst) ∧ (∀ b ∈ bs, Dp K H b.1 b.2 ∧ b.2.depth ≤ 60) ∧ AllAlike (bs.map Prod.snd) ∧ Sortable (bs.map Prod.snd) ∧ (bs.mergeSort (dataLe false Prod.snd)).map Prod.fst = ts'.map V.ref ∧
      es'.Perm es ∧ es'.Pairwise (fun e f => leE e f = true) ∧ ts'.length = es'.length ∧ ∀ (i : Nat) (t : Addr) (e : Ent), ts'[i]? = some t → es'[i]? = some e → EntAt H t e := by
  obtain ⟨ts', es', so1, so2, so5, so3, so4⟩ := sort_ents hl h lt
  have zf : ((ts.zip es).map fun z => (V.ref z.1, encE z.2)).map Prod.fst = ts.map V.ref := by
    rw [List.map_map]
    have := List.map_fst_zip (l₁ := ts) (l₂ := es) (by omega)
    conv => rhs; rw [← this, List.map_map]
    rfl
  refine ⟨(ts.zip es).map fun z => (V.ref z.1, encE z.2), ts', es', (by rw [zf]; exact SqL.of hr), fun z hz => ?_, ?_, ?_, so1, so2, so5, so3, so4⟩
  · obtain ⟨y, hy, rfl⟩ := List.mem_map.mp hz
    obtain ⟨i, hi, ez⟩ := List.getElem_of_mem hy
    have e2z : (ts.zip es)[i]? = some y := by rw [List.getElem?_eq_getElem hi, ez]
    rw [List.getElem?_zip_eq_some] at e2z
    exact ⟨dp_ent (h i _ _ e2z.1 e2z.2), depth_ent _⟩
  · rw [List.map_map]
    intro d hd d' hd'
    obtain ⟨y, _, rfl⟩ := List.mem_map.mp hd
    obtain ⟨y', _, rfl⟩ := List.mem_map.mp hd'
    exact alike_ent _ _
  · rw [List.map_map]
    refine .inl fun d hd => ?_
    obtain ⟨y, _, rfl⟩ := List.mem_map.mp hd
    exact ⟨_, _, rfl⟩
theorem cnt_step {A l : List Nat} {j : Nat} (h : j < l.length) : cntA A (l.take (j + 1)) = cntA A (l.take j) + (if gt A (gt l j) ≠ gt l j then 1 else 0) := by
  unfold cntA
  rw [take_succ' h, List.filter_append, List.length_append]
  congr 1
  by_cases c : gt A (gt l j) ≠ gt l j
  · rw [if_pos c, List.filter_cons, if_pos (decide_eq_true c)]
    rfl
  · rw [if_neg c, List.filter_cons, if_neg (by rw [decide_eq_false c]; decide)]
    rfl
end Pv

namespace Pv
open PySem L2 Evl Pm
/-! rows of ints as data -/
def dI (xs : List Int) : PyData := .list (xs.map PyData.int)
theorem dpAll_I {K : PySem.W.Frag} {H : Hp} : ∀ xs : List Int, DpAll K H (xs.map V.int) (xs.map PyData.int)
  | [] => .nil
  | x :: xs => .cons (.int x) (dpAll_I xs)
theorem dp_I {K : PySem.W.Frag} {H : Hp} {a : Addr} {xs : List Int} (h : ListI H a xs) : Dp K H (.ref a) (dI xs) := .lst (SqL.of h) (dpAll_I xs)
theorem lay_I : ∀ xs : List Int, PyData.canLayAll0 (xs.map PyData.int) = true
  | [] => by simp [PyData.canLayAll0]
  | x :: xs => by
    simp only [List.map_cons, PyData.canLayAll0, PyData.canLay0, lay_I xs]
    rfl
theorem deep_I : ∀ xs : List Int, PyData.depthAll (xs.map PyData.int) ≤ 1
  | [] => by simp [PyData.depthAll]
  | x :: xs => by
    have := deep_I xs
    simp only [List.map_cons, PyData.depthAll, PyData.depth]
    omega
theorem canLay_I (xs : List Int) : PyData.canLay0 (dI xs) = true := by
  unfold dI
  simp only [PyData.canLay0]
  exact lay_I xs
theorem depth_I (xs : List Int) : (dI xs).depth ≤ 2 := by
  have := deep_I xs
  unfold dI
  simp only [PyData.depth]
  omega
theorem shaped_I (xs : List Int) : SeqAt.shaped (dI xs) = true := by
  unfold SeqAt.shaped
  rw [canLay_I, decide_eq_true (Nat.le_trans (depth_I xs) (by decide))]
  rfl
theorem eqvAll_I : ∀ xs ys : List Int, PyData.eqvAll (xs.map PyData.int) (ys.map PyData.int) = decide (xs = ys)
  | [], [] => by simp [PyData.eqvAll]
  | [], _ :: _ => by simp [PyData.eqvAll]
  | _ :: _, [] => by simp [PyData.eqvAll]
  | x :: xs, y :: ys => by
    have ih := eqvAll_I xs ys
    simp only [List.map_cons, PyData.eqvAll, PyData.eqv, ih]
    rw [Bool.eq_iff_iff]
    simp
theorem eqv_dI (xs ys : List Int) : PyData.eqv (dI xs) (dI ys) = decide (xs = ys) := by
  unfold dI
  simp only [PyData.eqv]
  exact eqvAll_I xs ys
theorem dpAll_II {K : PySem.W.Frag} {H : Hp} : ∀ (as : List Addr) (rs : List (List Int)), as.length = rs.length → (∀ (i : Nat) (a : Addr) (xs : List Int), as[i]? = some a → rs[i]? = some xs → ListI H a xs) → DpAll K H (as.map V.ref) (rs.map dI)
  | [], [], _, _ => .nil
  | [], _ :: _, h, _ => by cases h
  | _ :: _, [], h, _ => by cases h
  | a :: as, r :: rs, h, k => .cons (dp_I (k 0 a r rfl rfl)) (dpAll_II as rs (by simpa using h) fun i a' r' x y => k (i + 1) a' r' x y)
theorem layAll_II : ∀ rs : List (List Int), PyData.canLayAll0 (rs.map dI) = true
  | [] => by simp [PyData.canLayAll0]
  | x :: xs => by
    simp only [List.map_cons, PyData.canLayAll0, layAll_II xs, canLay_I]
    rfl
theorem deepAll_II : ∀ rs : List (List Int), PyData.depthAll (rs.map dI) ≤ 3
  | [] => by simp [PyData.depthAll]
  | x :: xs => by
    have h1 := deepAll_II xs
    have h2 := depth_I x
    simp only [List.map_cons, PyData.depthAll]
    omega
theorem shaped_II (rs : List (List Int)) : SeqAt.shaped (.list (rs.map dI)) = true := by
  have h2 : PyData.depth (.list (rs.map dI)) ≤ 64 := by
    have := deepAll_II rs
    simp only [PyData.depth]
    omega
  have h1 : PyData.canLay0 (.list (rs.map dI)) = true := by
    simp only [PyData.canLay0]
    exact layAll_II rs
  unfold SeqAt.shaped
  rw [h1, decide_eq_true h2]
  rfl
theorem eqv_II (rs : List (List Int)) : PyData.eqv (.list (rs.map dI)) (.list (rs.map dI)) = true := SeqAt.eqv_refl _ (by
  simp only [PyData.canLay0]
  exact layAll_II rs)
theorem any2 (xs ys z : List Int) : [dI xs, dI ys].any (fun d => PyData.eqv d (dI z)) = (decide (z = xs) || decide (z = ys)) := by
  show (PyData.eqv (dI xs) (dI z) || (PyData.eqv (dI ys) (dI z) || false)) = _
  rw [eqv_dI, eqv_dI, Bool.or_false, Bool.eq_iff_iff]
  simp only [Bool.or_eq_true, decide_eq_true_eq]
  constructor
  · rintro (h | h)
    · exact Or.inl h.symm
    · exact Or.inr h.symm
  · rintro (h | h)
    · exact Or.inl h.symm
    · exact Or.inr h.symm
end Pv

namespace Pv
open PySem L2 Evl Pm PySem.W
theorem safe_mk {K : PySem.W.Frag} {c_SAFE_KINDS sk0 sk1 sk2 sk3 sk4 sg1 sg2 sg3 sg4 : Addr} {odS odk0 odk1 odk2 odk3 odk4 odg1 odg2 odg3 odg4 : Option Addr} {slS slk0 slk1 slk2 slk3 slk4 slg1 slg2 slg3 slg4 : Array (Option Value)} {nS nk0 nk1 nk2 nk3 nk4 ng1 ng2 ng3 ng4 : Nat} {tg1_0 tg1_1 tg1_2 tg2_0 tg2_1 tg2_2 tg3_0 tg3_1 tg3_2 tg4_0 tg4_1 tg4_2 : Tok} 
    (l_SAFE : List.lookup c_SAFE_KINDS K = some ⟨.type "tuple", odS, .seq #[.ref sk0, .ref sk1, .ref sk2, .ref sk3, .ref sk4] nS, slS⟩)
    (l_sk0 : List.lookup sk0 K = some ⟨.type "tuple", odk0, .seq #[] nk0, slk0⟩)
    (l_sk1 : List.lookup sk1 K = some ⟨.type "tuple", odk1, .seq #[.ref sg1] nk1, slk1⟩)
    (l_sg1 : List.lookup sg1 K = some ⟨.type "tuple", odg1, .seq #[.str "chain" tg1_0, .int 2 tg1_1, .int (-1) tg1_2] ng1, slg1⟩)
    (l_sk2 : List.lookup sk2 K = some ⟨.type "tuple", odk2, .seq #[.ref sg2] nk2, slk2⟩)
    (l_sg2 : List.lookup sg2 K = some ⟨.type "tuple", odg2, .seq #[.str "chain" tg2_0, .int 2 tg2_1, .int 1 tg2_2] ng2, slg2⟩)
    (l_sk3 : List.lookup sk3 K = some ⟨.type "tuple", odk3, .seq #[.ref sg3] nk3, slk3⟩)
    (l_sg3 : List.lookup sg3 K = some ⟨.type "tuple", odg3, .seq #[.str "chain" tg3_0, .int 3 tg3_1, .int 0 tg3_2] ng3, slg3⟩)
    (l_sk4 : List.lookup sk4 K = some ⟨.type "tuple", odk4, .seq #[.ref sg4] nk4, slk4⟩)
    (l_sg4 : List.lookup sg4 K = some ⟨.type "tuple", odg4, .seq #[.str "ring" tg4_0, .int 4 tg4_1, .int 0 tg4_2] ng4, slg4⟩) (H : Hp) : Dp K H (.ref c_SAFE_KINDS) (.tuple (SAFE.map encK)) := by
  have e0 : Dp K H (.ref sk0) (encK []) := .tup (xs := []) (Or.inr ⟨_, _, _, l_sk0, rfl, rfl, (by show 0 ≤ sizeLine; decide), .nil⟩) .nil
  have g1 : Dp K H (.ref sg1) (encG gA) := .tup (xs := [.str "chain", .int 2, .int (-1)]) (Or.inr ⟨_, _, _, l_sg1, rfl, rfl, (by show 3 ≤ sizeLine; decide), .cons ⟨_, rfl⟩ (.cons ⟨_, rfl⟩ (.cons ⟨_, rfl⟩ .nil))⟩) (.cons (.str _) (.cons (.int _) (.cons (.int _) .nil)))
  have e1 : Dp K H (.ref sk1) (encK [gA]) := .tup (xs := [.ref sg1]) (Or.inr ⟨_, _, _, l_sk1, rfl, rfl, (by show 1 ≤ sizeLine; decide), .cons rfl .nil⟩) (.cons g1 .nil)
  have g2 : Dp K H (.ref sg2) (encG gB) := .tup (xs := [.str "chain", .int 2, .int (1)]) (Or.inr ⟨_, _, _, l_sg2, rfl, rfl, (by show 3 ≤ sizeLine; decide), .cons ⟨_, rfl⟩ (.cons ⟨_, rfl⟩ (.cons ⟨_, rfl⟩ .nil))⟩) (.cons (.str _) (.cons (.int _) (.cons (.int _) .nil)))
  have e2 : Dp K H (.ref sk2) (encK [gB]) := .tup (xs := [.ref sg2]) (Or.inr ⟨_, _, _, l_sk2, rfl, rfl, (by show 1 ≤ sizeLine; decide), .cons rfl .nil⟩) (.cons g2 .nil)
  have g3 : Dp K H (.ref sg3) (encG gC) := .tup (xs := [.str "chain", .int 3, .int (0)]) (Or.inr ⟨_, _, _, l_sg3, rfl, rfl, (by show 3 ≤ sizeLine; decide), .cons ⟨_, rfl⟩ (.cons ⟨_, rfl⟩ (.cons ⟨_, rfl⟩ .nil))⟩) (.cons (.str _) (.cons (.int _) (.cons (.int _) .nil)))
  have e3 : Dp K H (.ref sk3) (encK [gC]) := .tup (xs := [.ref sg3]) (Or.inr ⟨_, _, _, l_sk3, rfl, rfl, (by show 1 ≤ sizeLine; decide), .cons rfl .nil⟩) (.cons g3 .nil)
  have g4 : Dp K H (.ref sg4) (encG gD) := .tup (xs := [.str "ring", .int 4, .int (0)]) (Or.inr ⟨_, _, _, l_sg4, rfl, rfl, (by show 3 ≤ sizeLine; decide), .cons ⟨_, rfl⟩ (.cons ⟨_, rfl⟩ (.cons ⟨_, rfl⟩ .nil))⟩) (.cons (.str _) (.cons (.int _) (.cons (.int _) .nil)))
  have e4 : Dp K H (.ref sk4) (encK [gD]) := .tup (xs := [.ref sg4]) (Or.inr ⟨_, _, _, l_sk4, rfl, rfl, (by show 1 ≤ sizeLine; decide), .cons rfl .nil⟩) (.cons g4 .nil)
  exact .tup (xs := [.ref sk0, .ref sk1, .ref sk2, .ref sk3, .ref sk4]) (Or.inr ⟨_, _, _, l_SAFE, rfl, rfl, (by show 5 ≤ sizeLine; decide), .cons rfl (.cons rfl (.cons rfl (.cons rfl (.cons rfl .nil))))⟩) (.cons e0 (.cons e1 (.cons e2 (.cons e3 (.cons e4 .nil)))))
end Pv

namespace Pv
open PySem L2 Evl Pm
local macro_rules | `(tactic| walk_at "r1") => `(tactic| first
  | refine ⟨_, rfl, ?_⟩
  | refine ⟨rfl, ?_⟩
  | refine ⟨_, _, rfl, rfl, (show (_ : Prop) from by first | decide | omega | assumption | exact Or.inr ⟨by decide, by decide⟩ | exact Or.inl ⟨by omega, by omega⟩ | exact ⟨by decide, by decide, by decide⟩ | exact ⟨by decide, by decide⟩ | exact wide_div (b := 60) (by omega) (by omega) (by decide) (by decide)), ?_⟩
  | refine ⟨_, _, rfl, rfl, ?_⟩
  | refine ⟨_, _, _, _, rfl, rfl, (show (_ : Prop) from by first | exact SqL.of (by assumption) | exact SqL.of upd_same | assumption | exact upd_same), rfl, ?_⟩
  | refine Or.inl ⟨_, rfl, ?_⟩)
local macro_rules | `(tactic| walk_at "ex") => `(tactic| first | exact Ex.refl _ | assumption | (refine ex_new ?_ (by assumption); walk_at "ex"))
local macro_rules | `(tactic| walk_at "r") => `(tactic| repeat (walk_at "r1"))

section
variable {P : Program} {w : World} {K : PySem.W.Frag} {mg : Str → Option Value} {base : Heap} {A : Ad}
theorem ref_at {ts : List Addr} {i : Nat} {x : V} (h : (ts.map V.ref)[i]? = some x) : ∃ t, ts[i]? = some t ∧ x = V.ref t := by
  rw [List.getElem?_map] at h
  cases z : ts[i]? with
  | none => rw [z] at h; cases h
  | some y => rw [z] at h; exact ⟨y, rfl, (Option.some.inj h).symm⟩
theorem atR {ts : List Addr} {i : Nat} {t : Addr} (h : ts[i]? = some t) : atI (ts.map V.ref) (i : Int) = some (V.ref t) := atI_nat (by rw [List.getElem?_map, h]; rfl)
theorem app_at {α β : Type} {R : α → β → Prop} {us : List α} {fs : List β} {t : α} {e : β} (ul : us.length = fs.length) (h : ∀ (k : Nat) (a : α) (b : β), us[k]? = some a → fs[k]? = some b → R a b) (h1 : R t e)   : ∀ (k : Nat) (a : α) (b : β), (us ++ [t])[k]? = some a → (fs ++ [e])[k]? = some b → R a b := by
  intro k a b ha hb
  by_cases c : k < us.length
  · rw [List.getElem?_append_left c] at ha
    rw [List.getElem?_append_left (by omega)] at hb
    exact h k a b ha hb
  · rw [List.getElem?_append_right (by omega)] at ha
    rw [List.getElem?_append_right (by omega), ← ul] at hb
    match hz : k - us.length with
    | 0 =>
      rw [hz] at ha hb
      have ha := Option.some.inj ha
      have hb := Option.some.inj hb
      rw [← ha, ← hb]
      exact h1
    | z + 1 =>
      rw [hz] at ha
      cases ha
theorem ins_at {α β : Type} {R : α → β → Prop} {us : List α} {fs : List β} {t : α} {e : β} {j : Nat} (ul : us.length = fs.length) (hj : j ≤ us.length) (h : ∀ (k : Nat) (a : α) (b : β), us[k]? = some a → fs[k]? = some b → R a b) (h1 : R t e)   : ∀ (k : Nat) (a : α) (b : β), (us.take j ++ [t] ++ us.drop j)[k]? = some a → (fs.take j ++ [e] ++ fs.drop j)[k]? = some b → R a b := by
  intro k a b ha hb
  rw [List.append_assoc, List.getElem?_append, List.length_take, Nat.min_eq_left hj] at ha
  rw [List.append_assoc, List.getElem?_append, List.length_take, Nat.min_eq_left (by omega)] at hb
  by_cases c : k < j
  · rw [if_pos c, List.getElem?_take_of_lt c] at ha hb
    exact h k a b ha hb
  · rw [if_neg c] at ha hb
    match hz : k - j with
    | 0 =>
      rw [hz] at ha hb
      have ha := Option.some.inj ha
      have hb := Option.some.inj hb
      rw [← ha, ← hb]
      exact h1
    | z + 1 =>
      rw [hz] at ha hb
      have ha : (us.drop j)[z]? = some a := ha
      have hb : (fs.drop j)[z]? = some b := hb
      rw [List.getElem?_drop] at ha hb
      exact h _ a b ha hb
theorem w4_eq {i j : Nat} (hi : i < 4) (hj : j < 4) : decide (V.str (w4 i) = V.str (w4 j)) = decide (i = j) := by
  by_cases c : i = j
  · rw [c, decide_eq_true rfl, decide_eq_true rfl]
  · rw [decide_eq_false c, decide_eq_false]
    intro h
    injection h with h
    have all : ∀ i, i < 4 → ∀ j, j < 4 → i ≠ j → w4 i ≠ w4 j := by decide +kernel
    exact all i hi j hj c h
theorem w4_pair {i : Nat} (hi : i < 4) : decide (V.str (w4 i) = V.str (Str.ofString "pair")) = decide (i = 1) := w4_eq (j := 1) hi (by decide)
theorem w4_chain {i : Nat} (hi : i < 4) : decide (V.str (w4 i) = V.str (Str.ofString "chain")) = decide (i = 2) := w4_eq (j := 2) hi (by decide)
theorem w4_ring {i : Nat} (hi : i < 4) : decide (V.str (w4 i) = V.str (Str.ofString "ring")) = decide (i = 3) := w4_eq (j := 3) hi (by decide)
end

theorem gen_snoc {H : Hp} {ts : List Addr} {es : List GE} {t : Addr} {e : GE} (hl : ts.length = es.length) (h : ∀ (i : Nat) (t : Addr) (e : GE), ts[i]? = some t → es[i]? = some e → GenAt H t e) (h1 : GenAt H t e) :
    (ts ++ [t]).length = (es ++ [e]).length ∧ ∀ (i : Nat) (u : Addr) (f : GE), (ts ++ [t])[i]? = some u → (es ++ [e])[i]? = some f → GenAt H u f :=
  ⟨by rw [List.length_append, List.length_append, hl]; rfl, app_at hl h h1⟩

section
variable {P : Program} {w : World} {K : PySem.W.Frag} {mg : Str → Option Value} {base : Heap} {A : Ad}
theorem ifF {b : Bool} {p q : Prop} (h : b = false) (k : q) : if b = true then p else q := by
  rw [h]
  exact iteF k
theorem ifT {b : Bool} {p q : Prop} (h : b = true) (k : p) : if b = true then p else q := by
  rw [h]
  exact iteT k
theorem ndec {p : Prop} [Decidable p] (h : p) : (!decide p) = false := by
  rw [decide_eq_true h]
  rfl
theorem bit1 : ∀ n, n < 200 → Builtin.bitAnd ((n : Nat) : Int) 1 = ((n % 2 : Nat) : Int) := by decide +kernel
theorem inCR : ∀ w, w < 4 → inV (V.str (w4 w)) [V.str (Str.ofString "chain"), V.str (Str.ofString "ring")] = decide (1 < w) := by decide +kernel
theorem flat_few : ∀ {ps : List Pc}, (∀ p ∈ ps, 0 < p.2.1.length) → ps.length ≤ (ps.flatMap (·.2.1)).length
  | [], _ => Nat.zero_le _
  | p :: ps, h => by
    have ih := flat_few (ps := ps) fun q hq => h q (List.mem_cons_of_mem _ hq)
    have := h p (List.mem_cons_self ..)
    rw [List.flatMap_cons, List.length_append, List.length_cons]
    omega
theorem Cut.few {n : Nat} {ps : List Pc} (C : Cut n ps) : ps.length ≤ n := by
  have := flat_few fun p hp => (C.ok p hp).pos
  have e := C.perm.length_eq
  rw [List.length_range] at e
  omega
theorem Cut.lt {n : Nat} {ps : List Pc} (C : Cut n ps) {p : Pc} (hp : p ∈ ps) : ∀ x ∈ p.2.1, x < n := fun x hx => List.mem_range.mp (C.perm.mem_iff.mp (List.mem_flatMap.mpr ⟨p, hp, hx⟩))
theorem Cut.len {n : Nat} {ps : List Pc} (C : Cut n ps) {p : Pc} (hp : p ∈ ps) : p.2.1.length ≤ n := nodup_len (C.ok p hp).nd (C.lt hp)
theorem Cut.nd {n : Nat} {ps : List Pc} (C : Cut n ps) : (ps.flatMap (·.2.1)).Nodup := C.perm.nodup_iff.mpr List.nodup_range
theorem one_least {i : Nat} : ∀ {ps : List Pc}, (ps.flatMap (·.2.1)).Nodup → (∀ p ∈ ps, PcOk p) → ps.filter (fun p => isCR p && decide (mn p.2.1 = i)) = (atJ ps i).toList
  | [], _, _ => rfl
  | a :: ps, nd, ok => by
    rw [List.flatMap_cons, List.nodup_append] at nd
    have ih := one_least (i := i) nd.2.1 fun p hp => ok p (List.mem_cons_of_mem _ hp)
    unfold atJ at *
    rw [List.filter_cons, List.find?_cons]
    by_cases c : (isCR a && decide (mn a.2.1 = i)) = true
    · rw [c, if_pos rfl]
      have : ps.filter (fun p => isCR p && decide (mn p.2.1 = i)) = [] := by
        rw [List.filter_eq_nil_iff]
        intro p hp c2
        rw [Bool.and_eq_true, decide_eq_true_eq] at c c2
        exact nd.2.2 _ (mn_in (ok a (List.mem_cons_self ..))) _ (List.mem_flatMap.mpr ⟨p, hp, mn_in (ok p (List.mem_cons_of_mem _ hp))⟩) (c.2.trans c2.2.symm)
      rw [this]
      rfl
    · have c := Bool.not_eq_true _ ▸ c
      rw [c, if_neg (by decide)]
      exact ih
end

section
variable {P : Program} {w : World} {K : PySem.W.Frag} {mg : Str → Option Value} {base : Heap} {A : Ad}
theorem sq_ (x y : Str) : decide (V.str x = V.str y) = decide (x = y) := by
  by_cases c : x = y
  · rw [c, decide_eq_true rfl, decide_eq_true rfl]
  · rw [decide_eq_false c, decide_eq_false (fun h => by injection h with h; exact c h)]
theorem iq_ (x y : Int) : decide (V.int x = V.int y) = decide (x = y) := by
  by_cases c : x = y
  · rw [c, decide_eq_true rfl, decide_eq_true rfl]
  · rw [decide_eq_false c, decide_eq_false (fun h => by injection h with h; exact c h)]
end

section
variable {P : Program} {w : World} {K : PySem.W.Frag} {mg : Str → Option Value} {base : Heap} {A : Ad}
theorem ok_check_kind (T : Txt K mg A)  (g_is_entry : Okd P w K mg base CX0 1 A.is_entry P_is_entry spIe) : Okd P w K mg base (L2N.CX P w) 2 A.check_kind P_check_kind (spCk A) := by
  obtain ⟨fd, F⟩ := T.d_check_kind
  obtain ⟨fd_is_entry, G_is_entry, b_is_entry⟩ := g_is_entry
  refine ⟨fd, F.okN sc_check_kind (fun vs H Q E h => ?_) (fun cdv A' outer s H vs Q E hr h => ?_), F.binds fun _ _ _ _ _ _ us hl => match us, hl with | [_], _ => rfl⟩
  · obtain ⟨p, es, rfl, _⟩ := h
    rfl
  · obtain ⟨p, es, rfl, hp, hl, kq, kr⟩ := h
    refine ⟨_, (pss_one (ps_if (PW.pt (pw_or (pt_not (pt_val (pe_callB (cr_all (by rfl)) (by rfl) T.n_all (by decide +kernel) (pa_cons (pe_lc (own := [("entry", 1)]) (tt := tYes) (by rfl) sc_check_kind.nd (pi_tup (pv 0)) (blkOk_by (own := [("entry", 1)]) (N := N_check_kind) (sc := defScope s_check_kind) (by decide +kernel)) (fun _ _ _ _ _ => (pg_name (i := 1) sc_check_kind.nd rfl (Or.inl rfl))) (fun _ _ _ _ _ => pts_nil) (fun _ _ _ _ _ => (pe_call G_is_entry (hr.mono (by decide)) (by rfl) T.g_is_entry T.k_is_entry b_is_entry .nil pass0 (pa_cons (pv 1) pa_nil)))) pa_nil)))) (pw_or1 (pt_cmpR (op_neD hr.units) (pe_callTy call_list_of (by rfl) T.n_list (by decide +kernel) (pa_cons (pv 0) pa_nil)) (pe_callB (DaS.cr_sortT hr.units) (by rfl) T.n_sorted (by decide +kernel) (pa_cons (pv 0) pa_nil)) (nomark _))))) (pss_one (L2N.ps_raise rfl (L2N.takes_of rfl rfl rfl rfl) (L2N.pmk_own0N PySem.F.excBase_ValueError T.q_InvalidKind T.e_InvalidKind.g T.e_InvalidKind.k (raises_own T.e_InvalidKind.sub T.e_InvalidKind.ty) rfl))) pss_nil)), ?_⟩
    obtain ⟨ts, hts, tl, tat⟩ := hp
    refine ⟨_, rfl, p, rfl, ⟨_, SqT.of hts⟩, fun D hD => ?_⟩
    refine lc_tup (K := K) (a := p) (xs := ts.map V.ref) (fun j G => Ex H G ∧ G D = some (.lst (((es.take j).map goodE).map V.bl))) ⟨Ex.new hD, upd_same⟩ (fun j G _ q => SqT.of (q.1 _ _ hts)) ?_ ?_
    · rintro j x G hx ⟨e, hd⟩
      obtain ⟨t1, ht1, rfl⟩ := ref_at hx
      have jl : j < es.length := by have := (List.getElem?_eq_some_iff.mp ht1).1; omega
      have he1 : es[j]? = some es[j] := List.getElem?_eq_getElem jl
      have E1 := e _ _ (tat j _ _ ht1 he1)
      refine ⟨rfl, _, rfl, t1, es[j], rfl, E1, fun G2 e2 => ?_⟩
      refine ⟨_, e2 _ _ hd, small1000 (by rw [List.length_map, List.length_map, List.length_take]; omega), fun x o ho => ?_, ?_⟩
      · rw [upd_ne (ne_of_none ho hD)]
        exact e2 _ _ (e _ _ ho)
      · rw [upd_same, List.take_add_one, he1, List.map_append, List.map_append]
        rfl
    rintro G1 ⟨e1, hd⟩
    rw [List.length_map, tl, List.take_length] at hd
    refine ⟨D, _, rfl, SqL.of hd, _, rfl, ?_⟩
    refine ite_b (fun c => ?_) (fun c => ?_)
    · refine iteT (kr (fun v => ?_) G1 e1)
      have : (es.map goodE).all id = true := by
        rw [List.all_eq_true]
        intro b hb
        obtain ⟨e, he, rfl⟩ := List.mem_map.mp hb
        exact v.1 e he
      rw [this] at c
      cases c
    have good : ∀ e ∈ es, goodE e = true := by
      have c2 : (es.map goodE).all id = true := by
        cases z : (es.map goodE).all id with
        | true => rfl
        | false => rw [z] at c; cases c
      rw [List.all_eq_true] at c2
      exact fun e he => c2 _ (List.mem_map.mpr ⟨e, he, rfl⟩)
    have fl : (es.map frG).length = es.length := List.length_map ..
    have fat : ∀ (i : Nat) (t : Addr) (f : Ent), ts[i]? = some t → (es.map frG)[i]? = some f → EntAt H t f := fun i t f a b => by
      rw [List.getElem?_map] at b
      cases z : es[i]? with
      | none => rw [z] at b; cases b
      | some e =>
        rw [z] at b
        rw [← Option.some.inj b]
        exact gen_ent (good e (List.mem_of_getElem? z)) (tat i t e a z)
    have w2 : ∀ f ∈ es.map frG, f.1 < 2 := fun f hf => by
      obtain ⟨e, _, rfl⟩ := List.mem_map.mp hf
      exact frG_lt e
    unfold Valid at kq kr
    generalize es.map frG = fs at fl fat w2 kq kr
    have ul : ts.length = fs.length := by omega
    have htsG := e1 _ _ hts
    refine ⟨_, rfl, p, _, rfl, Or.inr (SqT.of htsG), fun p1 hp1 => ?_⟩
    have l1 : upd G1 p1 (.lst (ts.map V.ref)) p1 = some (.lst (ts.map V.ref)) := upd_same
    have e2 := e1.trans (Ex.new (o := .lst (ts.map V.ref)) hp1)
    generalize upd G1 p1 (.lst (ts.map V.ref)) = G2 at l1 e2 ⊢
    have fat2 : ∀ (i : Nat) (t : Addr) (f : Ent), ts[i]? = some t → fs[i]? = some f → EntAt G2 t f := fun i t f a b => e2 _ _ (fat i t f a b)
    obtain ⟨ts', es', so1, so2, so3, so4, so5⟩ := sort_ents ul fat2 w2
    have zf : ((ts.zip fs).map fun z => (V.ref z.1, encE z.2)).map Prod.fst = ts.map V.ref := by
      rw [List.map_map]
      have := List.map_fst_zip (l₁ := ts) (l₂ := fs) (by omega)
      conv => rhs; rw [← this, List.map_map]
      rfl
    refine ⟨_, rfl, p, (ts.zip fs).map fun z => (V.ref z.1, encE z.2), rfl, (by rw [zf]; exact SqT.of (e2 _ _ hts)), fun z hz => ?_, ?_, ?_, fun p2 hp2 => ?_⟩
    · obtain ⟨y, hy, rfl⟩ := List.mem_map.mp hz
      obtain ⟨i, hi, ez⟩ := List.getElem_of_mem hy
      have e2z : (ts.zip fs)[i]? = some y := by rw [List.getElem?_eq_getElem hi, ez]
      rw [List.getElem?_zip_eq_some] at e2z
      exact ⟨dp_ent (fat2 i _ _ e2z.1 e2z.2), depth_ent _⟩
    · rw [List.map_map]
      intro d hd d' hd'
      obtain ⟨y, _, rfl⟩ := List.mem_map.mp hd
      obtain ⟨y', _, rfl⟩ := List.mem_map.mp hd'
      exact alike_ent _ _
    · rw [List.map_map]
      refine .inl fun d hd => ?_
      obtain ⟨y, _, rfl⟩ := List.mem_map.mp hd
      exact ⟨_, _, rfl⟩
    rw [so1]
    have e3 := Ex.new (o := .lst (ts'.map V.ref)) hp2
    have l2 : upd G2 p2 (.lst (ts'.map V.ref)) p2 = some (.lst (ts'.map V.ref)) := upd_same
    have w2' : ∀ f ∈ es', f.1 < 2 := fun f hf => w2 f (so2.mem_iff.mp hf)
    refine ⟨dE fs, dE es', .lst (SqL.of (e3 _ _ l1)) (dpAll_E ts fs ul fun i t f a b => e3 _ _ (fat2 i t f a b)), .lst (SqL.of l2) (dpAll_E ts' es' so4 fun i t f a b => e3 _ _ (so5 i t f a b)), shaped_E _, shaped_E _, _, rfl, ?_⟩
    rw [show PyData.eqv (dE fs) (dE es') = decide (fs = es') from eqv_E fs es' w2 w2']
    have e03 := e2.trans e3
    by_cases z : fs = es'
    · rw [decide_eq_true z]
      refine iteF (kq ⟨good, ?_⟩ _ e03)
      rw [z]
      exact so3
    · rw [decide_eq_false z]
      exact iteT (kr (fun v => z (sorted_one so2.symm v.2 so3)) _ e03)

end

section
variable {P : Program} {w : World} {K : PySem.W.Frag} {mg : Str → Option Value} {base : Heap} {A : Ad}
theorem markV_int {xs : List Int} {i : Nat} {y : V} (h : (xs.map V.int)[i]? = some y) : ∃ z, xs[i]? = some z ∧ y = V.int z := by
  rw [List.getElem?_map] at h
  cases e : xs[i]? with
  | none => rw [e] at h; cases h
  | some z =>
    rw [e] at h
    exact ⟨z, rfl, (Option.some.inj h).symm⟩
end

section
variable {P : Program} {w : World} {K : PySem.W.Frag} {mg : Str → Option Value} {base : Heap} {A : Ad}
theorem ks_at {H : Hp} {ps : List Addr} {ks : List (List GE)} (h : KsAt H ps ks) {i : Nat} {p : Addr} (hp : ps[i]? = some p) : ∃ es, ks[i]? = some es ∧ GensT H p es ∧ FewK es := by
  have il : i < ks.length := by have := (List.getElem?_eq_some_iff.mp hp).1; have := h.1; omega
  have e : ks[i]? = some ks[i] := List.getElem?_eq_getElem il
  obtain ⟨a, b⟩ := h.2 i p _ hp e
  exact ⟨_, e, a, b⟩
theorem ok_first_unsafe (T : Txt K mg A) (hS : ∀ H, Dp K H (.ref A.SAFE_KINDS) (.tuple (SAFE.map encK))) (g_check_kind : Okd P w K mg base (L2N.CX P w) 2 A.check_kind P_check_kind (spCk A)) : Okd P w K mg base (L2N.CX P w) 3 A.first_unsafe P_first_unsafe (spFu A) := by
  obtain ⟨fd, F⟩ := T.d_first_unsafe
  obtain ⟨fd_check_kind, G_check_kind, b_check_kind⟩ := g_check_kind
  refine ⟨fd, F.okN sc_first_unsafe (fun vs H Q E h => ?_) (fun cdv A' outer s H vs Q E hr h => ?_), F.binds fun _ _ _ _ _ _ us hl => match us, hl with | [_], _ => rfl⟩
  · obtain ⟨t, ps, ks, rfl, _⟩ := h
    rfl
  · obtain ⟨t, ps, ks, rfl, ht, hk, hl, kt, kf⟩ := h
    refine ⟨_, (pss_cut (ps_for (passes_of rfl) rfl (pi_tup (pv 0)) (pg_name (i := 1) sc_first_unsafe.nd rfl (Or.inl rfl)) (pss_one (ps_expr (pe_callS G_check_kind (hr.mono (by decide)) rfl T.g_check_kind T.k_check_kind b_check_kind (fun σ => L2N.passAt (L2N.takes_of rfl rfl rfl rfl) σ) (pa_cons (pv 1) pa_nil)))))
      (pss_cons (ps_for (passes_of rfl) rfl (EnT.pi_enumT (by rfl) T.n_enumerate (pa_cons (pv 0) pa_nil)) (pg_tup (by rfl) (pgs_cons (pg_name (i := 2) sc_first_unsafe.nd rfl (Or.inl rfl)) (pgs_cons (pg_name (i := 1) sc_first_unsafe.nd rfl (Or.inl rfl)) pgs_nil))) (pss_one (ps_if (pt_cmpR (RvT.op_notInT (units65R hr)) (pv 1) (pe_glob (v := .ref A.SAFE_KINDS) rfl T.g_SAFE_KINDS rfl) (by with_unfolding_all rfl)) (pss_one (ps_ret (pv 2))) pss_nil)))
      (pss_one (ps_ret pe_non)))), ?_⟩
    refine ⟨fun σ G => ∃ v1 : Option V, σ = [some (.ref t), v1, none] ∧ Ex H G ∧ ∀ k ∈ ks, Valid k, ?_, ?_⟩
    · refine ⟨_, rfl, t, rfl, ⟨_, SqT.of ht⟩, for_tup (K := K) (a := t) (xs := ps.map V.ref) (fun i σ G => ∃ v1 : Option V, σ = [some (.ref t), v1, none] ∧ Ex H G ∧ ∀ k ∈ ks.take i, Valid k) ⟨none, rfl, Ex.refl H, (fun k h => by cases h)⟩ (fun i σ G _ ⟨_, _, e, _⟩ => SqT.of (e _ _ ht)) ?_ ?_⟩
      · rintro i x σ G hx ⟨v1, rfl, e, vd⟩
        obtain ⟨p, hp, rfl⟩ := ref_at hx
        obtain ⟨es, he, g, l⟩ := ks_at hk hp
        refine ⟨_, rfl, p, es, rfl, g.ex e, (by have := l.l; omega), fun v G2 e2 => ?_, fun nv G2 e2 => ?_⟩
        · refine ⟨_, rfl, e.trans e2, fun k hk2 => ?_⟩
          rw [List.take_add_one, he] at hk2
          rcases List.mem_append.mp hk2 with h | h
          · exact vd k h
          · rw [List.mem_singleton.mp h]
            exact v
        · exact kf (fun all => nv (all es (List.mem_of_getElem? he))) G2 (e.trans e2)
      · rintro σ G ⟨v1, rfl, e, vd⟩
        rw [List.length_map, hk.1, List.take_length] at vd
        exact ⟨v1, rfl, e, vd⟩
    rintro σ G ⟨v1, rfl, e, vd⟩
    have kt := kt vd
    refine ⟨_, rfl, t, _, rfl, SqT.of (e _ _ ht), for_it EnT.walk_enumT (fun i σ G' => ∃ v1 v2 : Option V, σ = [some (.ref t), v1, v2] ∧ Ex H G' ∧ ∀ k ∈ ks.take i, safeB k = true) ⟨v1, none, rfl, e, (fun k h => by cases h)⟩ (fun i σ G' _ ⟨_, _, _, e, _⟩ => SqT.of (e _ _ ht)) ?_ ?_⟩
    · rintro i x σ G' G'' hi ⟨w1, w2, rfl, e, sf⟩ ⟨T0, y1, y2, rfl, hT, rfl, g1, g2⟩
      cases g1
      obtain ⟨p, hp, rfl⟩ := ref_at g2
      obtain ⟨es, he, g, l⟩ := ks_at hk hp
      have vE := vd es (List.mem_of_getElem? he)
      have eT := e.trans (Ex.new (o := .tup [V.int (i : Int), V.ref p]) hT)
      refine ⟨T0, _, rfl, SqT.of upd_same, rfl, _, _, rfl, _, _, rfl, rfl, ?_⟩
      refine ⟨_, rfl, encK es, _, dp_kind (g.ex eT), hS _, shaped_kind vE.1, shaped_SAFE, _, rfl, ?_⟩
      rw [any_SAFE]
      cases c : safeB es with
      | false =>
        exact iteT ⟨_, rfl, kt _ _ eT (.inr ⟨i, es, rfl, he, c, sf⟩)⟩
      | true =>
        refine iteF ⟨_, _, rfl, eT, fun k hk2 => ?_⟩
        rw [List.take_add_one, he] at hk2
        rcases List.mem_append.mp hk2 with h | h
        · exact sf k h
        · rw [List.mem_singleton.mp h]
          exact c
    · rintro σ G' ⟨w1, w2, rfl, e, sf⟩
      rw [List.length_map, hk.1, List.take_length] at sf
      exact kt _ _ e (.inl ⟨rfl, sf⟩)

end

section
variable {P : Program} {w : World} {K : PySem.W.Frag} {mg : Str → Option Value} {base : Heap} {A : Ad}
theorem ok_law_first_right (T : Txt K mg A)  (g_law_met_first : Okd P w K mg base CX0 9 A.law_met_first P_law_met_first (spMf A)) (g_law_kind_right : Okd P w K mg base CX0 2 A.law_kind_right P_law_kind_right spKr) (g_law_safe : Okd P w K mg base CX0 1 A.law_safe P_law_safe spSf) (g_law_whole : Okd P w K mg base CX0 1 A.law_whole P_law_whole spWl) (g_law_clash_right : Okd P w K mg base CX0 3 A.law_clash_right P_law_clash_right (spCl A)) : Okd P w K mg base CX0 10 A.law_first_right P_law_first_right spFr := by
  obtain ⟨fd, F⟩ := T.d_law_first_right
  obtain ⟨fd_law_met_first, G_law_met_first, b_law_met_first⟩ := g_law_met_first
  obtain ⟨fd_law_kind_right, G_law_kind_right, b_law_kind_right⟩ := g_law_kind_right
  obtain ⟨fd_law_safe, G_law_safe, b_law_safe⟩ := g_law_safe
  obtain ⟨fd_law_whole, G_law_whole, b_law_whole⟩ := g_law_whole
  obtain ⟨fd_law_clash_right, G_law_clash_right, b_law_clash_right⟩ := g_law_clash_right
  refine ⟨fd, F.ok sc_law_first_right (fun vs H Q E h => ?_) (fun cdv A' outer s H vs Q E hr h => ?_), F.binds fun _ _ _ _ _ _ us hl => match us, hl with | [_], _ => rfl⟩
  · obtain ⟨r, ps, ks, rfl, _⟩ := h
    rfl
  · obtain ⟨r, ps, ks, rfl, hrr, hk, hm, k⟩ := h
    refine ⟨_, (pss_cons (ps_set (i := 1) sc_law_first_right.nd rfl (Or.inl rfl) (pe_call G_law_met_first (hr.mono (by decide)) (by rfl) T.g_law_met_first T.k_law_met_first b_law_met_first .nil pass0 (pa_cons (pv 0) pa_nil)))
      (pss_cons (ps_for PassesOwn.never rfl (pi_list (pv 0)) (pg_name (i := 2) sc_law_first_right.nd rfl (Or.inl rfl)) (pss_one (ps_if (pt_not (pt_val (pe_call G_law_kind_right (hr.mono (by decide)) (by rfl) T.g_law_kind_right T.k_law_kind_right b_law_kind_right .nil pass0 (pa_cons (pv 2) pa_nil)))) (pss_one (ps_ret (pe_and (pe_cmpR op_eq (pe_ix ix_tup (pv 1) pe_int (fun _ _ => rfl)) pe_str (nomark _)) (pe_one (pe_ix ix_tup (pv 1) pe_int (fun _ _ => rfl)))))) pss_nil)))
      (pss_cons (ps_if (pt_cmpR op_ne (pe_ix ix_tup (pv 1) pe_int (fun _ _ => rfl)) pe_str (nomark _)) (pss_one (ps_ret pe_bl)) pss_nil)
      (pss_cons (ps_for PassesOwn.never rfl (pi_range1 (by rfl) T.n_range (pa_cons (pe_callB call_len_seq (by rfl) T.n_len PySem.boot_len (pa_cons (pv 0) pa_nil)) pa_nil)) (pg_name (i := 3) sc_law_first_right.nd rfl (Or.inl rfl)) (pss_one (ps_if (pt_not (pt_val (pe_call G_law_safe (hr.mono (by decide)) (by rfl) T.g_law_safe T.k_law_safe b_law_safe .nil pass0 (pa_cons (pe_ix ix_list (pv 0) (pv 3) (fun _ _ => rfl)) pa_nil)))) (pss_cons (ps_if (PW.pt (pw_or (pt_not (pt_val (pe_callB call_isi (by rfl) T.n_isinstance (by decide +kernel) (pa_cons (pe_ix ix_tup (pv 1) pe_int (fun _ _ => rfl)) (pa_cons (pe_bltn (v := .ty "tuple") (u := .type "tuple") (by rfl) T.n_tuple (by decide +kernel) rfl) pa_nil))))) (pw_or1 (pt_cmpR op_ne (pe_callB call_len_seq (by rfl) T.n_len PySem.boot_len (pa_cons (pe_ix ix_tup (pv 1) pe_int (fun _ _ => rfl)) pa_nil)) pe_int (nomark _))))) (pss_one (ps_ret pe_bl)) pss_nil)
      (pss_cons (ps_if (PW.pt (pw_or (pt_not (pt_val (pe_call G_law_whole (hr.mono (by decide)) (by rfl) T.g_law_whole T.k_law_whole b_law_whole .nil pass0 (pa_cons (pe_ix ix_tup (pe_ix ix_tup (pv 1) pe_int (fun _ _ => rfl)) pe_int (fun _ _ => rfl)) pa_nil)))) (pw_or1 (pt_cmpR op_ne (pe_ix ix_tup (pe_ix ix_tup (pv 1) pe_int (fun _ _ => rfl)) pe_int (fun _ _ => rfl)) (pv 3) (nomark _))))) (pss_one (ps_ret pe_bl)) pss_nil)
      (pss_one (ps_ret (pe_call G_law_clash_right (hr.mono (by decide)) (by rfl) T.g_law_clash_right T.k_law_clash_right b_law_clash_right .nil pass0 (pa_cons (pe_ix ix_tup (pe_ix ix_tup (pv 1) pe_int (fun _ _ => rfl)) pe_int (fun _ _ => rfl)) (pa_cons (pe_ix ix_list (pv 0) (pv 3) (fun _ _ => rfl)) pa_nil))))))) pss_nil)))
      (pss_one (ps_ret (pe_cmpR op_isN (pe_ix ix_tup (pv 1) pe_int (fun _ _ => rfl)) pe_non (nomark _)))))))), ?_⟩
    have few9 : ps.length ≤ 9 := by unfold Many at hm; omega
    refine ⟨_, rfl, r, ps, ks, rfl, hrr, hk, hm, fun v t u H1 e1 ht a => ?_, fun nv t H1 e1 ht => ?_⟩
    · have hr1 := e1 _ _ hrr
      refine ⟨_, rfl, r, rfl, ⟨_, SqL.of hr1⟩, for_list (K := K) (a := r) (xs := ps.map V.ref) (fun i σ G => ∃ v2 v3 : Option V, σ = [some (.ref r), some (.ref t), v2, v3] ∧ G = H1) ⟨none, none, rfl, rfl⟩ (fun i σ G _ ⟨_, _, _, q⟩ => by rw [q]; exact SqL.of hr1) ?_ ?_⟩
      · rintro i x σ G hx ⟨v2, v3, rfl, rfl⟩
        obtain ⟨p, hp, rfl⟩ := ref_at hx
        obtain ⟨es, he, g, l⟩ := ks_at hk hp
        refine ⟨_, rfl, p, es, rfl, g.ex e1, l.l, fun _ => ⟨_, rfl, iteF ⟨_, _, rfl, rfl⟩⟩, fun nv => absurd (v es (List.mem_of_getElem? he)) nv⟩
      rintro σ G ⟨v2, v3, rfl, rfl⟩
      refine ⟨_, rfl, t, _, _, _, rfl, rfl, SqT.of ht, atI_nat (j := 0) rfl, rfl, _, rfl, ?_⟩
      refine iteF ?_
      refine ⟨_, rfl, r, _, rfl, .inl (SqL.of hr1), _, rfl, by rw [List.length_map]; omega, by rw [List.length_map]; omega, ?_⟩
      rw [List.length_map, Int.toNat_natCast]
      refine for_range (lo := 0) (n := ps.length) (fun i σ G2 => ∃ w2 w3 : Option V, σ = [some (.ref r), some (.ref t), w2, w3] ∧ Ex G G2 ∧ ∀ k ∈ ks.take i, safeB k = true) ⟨v2, v3, rfl, Ex.refl _, fun k h => by cases h⟩ ?_ ?_
      · rintro i σ G2 hi ⟨w2, w3, rfl, e2, pre⟩
        rw [Int.zero_add]
        have hpi : ps[i]? = some ps[i] := List.getElem?_eq_getElem hi
        obtain ⟨es, he, g, l⟩ := ks_at hk hpi
        have vE := v es (List.mem_of_getElem? he)
        refine ⟨_, rfl, _, rfl, r, _, _, _, rfl, rfl, SqL.of (e2 _ _ hr1), atR (i := i) hpi, _, es, rfl, (g.ex e1).ex e2, l.l, vE.1, fun G3 e3' => ⟨_, rfl, ?_⟩⟩
        have e3 := e2.trans e3'
        cases c : safeB es with
        | true =>
          refine iteF ⟨_, _, rfl, e3, fun q hq => ?_⟩
          rw [List.take_add_one, he] at hq
          rcases List.mem_append.mp hq with h | h
          · exact pre q h
          · rw [List.mem_singleton.mp h]
            exact c
        | false =>
        refine iteT ?_
        have at_ : ∀ {j m : Nat} {f : List GE}, ks[j]? = some f → j < m → f ∈ ks.take m := fun {j m f} h1 h2 => List.mem_of_getElem? (i := j) (by rw [List.getElem?_take, if_pos h2]; exact h1)
        rcases a with ⟨_, al⟩ | ⟨t2, u2, i2, es2, rfl, hT2, he2, un2, pre2, CK⟩
        · rw [al es (List.mem_of_getElem? he)] at c
          cases c
        have ei : i2 = i := by
          rcases Nat.lt_trichotomy i2 i with h | h | h
          · rw [pre es2 (at_ he2 h)] at un2
            cases un2
          · exact h
          · rw [pre2 es (at_ he h)] at c
            cases c
        subst ei
        rw [he] at he2
        cases he2
        have hT2 := e3 _ _ hT2
        refine ⟨_, rfl, t, _, _, _, rfl, rfl, SqT.of (e3 _ _ ht), atI_nat (j := 1) rfl, _, _, _, _, true, rfl, ClsV.ty "tuple", TyX.base (TyOf.tup hT2), kit_ty (by decide +kernel), ?_⟩
        refine ⟨true, rfl, iteF ?_⟩
        refine ⟨_, rfl, t, _, _, _, rfl, rfl, SqT.of (e3 _ _ ht), atI_nat (j := 1) rfl, t2, _, rfl, .inr (SqT.of hT2), rfl, _, rfl, iteF ?_⟩
        refine ⟨_, rfl, t, _, _, _, rfl, rfl, SqT.of (e3 _ _ ht), atI_nat (j := 1) rfl, t2, _, _, _, rfl, rfl, SqT.of hT2, atI_nat (j := 0) rfl, _, rfl, _, rfl, iteF ?_⟩
        refine ⟨_, rfl, t, _, _, _, rfl, rfl, SqT.of (e3 _ _ ht), atI_nat (j := 1) rfl, t2, _, _, _, rfl, rfl, SqT.of hT2, atI_nat (j := 0) rfl, _, rfl, rfl, _, rfl, ?_⟩
        rw [decide_eq_true rfl]
        refine iteF ?_
        refine ⟨_, rfl, t, _, _, _, rfl, rfl, SqT.of (e3 _ _ ht), atI_nat (j := 1) rfl, t2, _, _, _, rfl, rfl, SqT.of hT2, atI_nat (j := 1) rfl, _, rfl, _, rfl, r, _, _, _, rfl, rfl, SqL.of (e3 _ _ hr1), atR (i := i2) hpi, u2, _, es, rfl, CK.ex e3, (g.ex e1).ex e3, l, vE, c, fun G4 e4 => k G4 ((e1.trans e3).trans e4)⟩
      · rintro σ G2 ⟨w2, w3, rfl, e2, pre⟩
        rw [hk.1, List.take_length] at pre
        rcases a with ⟨rfl, _⟩ | ⟨t2, u2, i2, es2, rfl, hT2, he2, un2, pre2, CK⟩
        · exact ⟨_, rfl, t, _, _, _, rfl, rfl, SqT.of (e2 _ _ ht), atI_nat (j := 1) rfl, rfl, k G2 (e1.trans e2)⟩
        · rw [pre es2 (List.mem_of_getElem? he2)] at un2
          cases un2
    · have hr1 := e1 _ _ hrr
      refine ⟨_, rfl, r, rfl, ⟨_, SqL.of hr1⟩, for_list (K := K) (a := r) (xs := ps.map V.ref) (fun i σ G => ∃ v2 v3 : Option V, σ = [some (.ref r), some (.ref t), v2, v3] ∧ G = H1 ∧ ∀ k ∈ ks.take i, Valid k) ⟨none, none, rfl, rfl, fun k h => by cases h⟩ (fun i σ G _ ⟨_, _, _, q, _⟩ => by rw [q]; exact SqL.of hr1) ?_ ?_⟩
      · rintro i x σ G hx ⟨v2, v3, rfl, rfl, vd⟩
        obtain ⟨p, hp, rfl⟩ := ref_at hx
        obtain ⟨es, he, g, l⟩ := ks_at hk hp
        refine ⟨_, rfl, p, es, rfl, g.ex e1, l.l, fun v => ⟨_, rfl, iteF ⟨_, _, rfl, rfl, fun q hq => ?_⟩⟩, fun nv => ⟨_, rfl, iteT ?_⟩⟩
        · rw [List.take_add_one, he] at hq
          rcases List.mem_append.mp hq with h | h
          · exact vd q h
          · rw [List.mem_singleton.mp h]
            exact v
        · refine ⟨_, rfl, t, _, _, _, rfl, rfl, SqT.of ht, atI_nat (j := 0) rfl, rfl, _, rfl, iteT ?_⟩
          exact ⟨_, rfl, t, _, _, _, rfl, rfl, SqT.of ht, atI_nat (j := 1) rfl, k G e1⟩
      rintro σ G ⟨v2, v3, rfl, rfl, vd⟩
      rw [List.length_map, hk.1, List.take_length] at vd
      exact absurd vd nv

end

section
variable {P : Program} {w : World} {K : PySem.W.Frag} {mg : Str → Option Value} {base : Heap} {A : Ad}
theorem ok_law_one_right (T : Txt K mg A)  (g_law_met_kind : Okd P w K mg base CX0 6 A.law_met_kind P_law_met_kind (spMk A)) (g_law_kind_right : Okd P w K mg base CX0 2 A.law_kind_right P_law_kind_right spKr) (g_law_safe : Okd P w K mg base CX0 1 A.law_safe P_law_safe spSf) (g_law_clash_right : Okd P w K mg base CX0 3 A.law_clash_right P_law_clash_right (spCl A)) : Okd P w K mg base CX0 7 A.law_one_right P_law_one_right spO1r := by
  obtain ⟨fd, F⟩ := T.d_law_one_right
  obtain ⟨fd_law_met_kind, G_law_met_kind, b_law_met_kind⟩ := g_law_met_kind
  obtain ⟨fd_law_kind_right, G_law_kind_right, b_law_kind_right⟩ := g_law_kind_right
  obtain ⟨fd_law_safe, G_law_safe, b_law_safe⟩ := g_law_safe
  obtain ⟨fd_law_clash_right, G_law_clash_right, b_law_clash_right⟩ := g_law_clash_right
  refine ⟨fd, F.ok sc_law_one_right (fun vs H Q E h => ?_) (fun cdv A' outer s H vs Q E hr h => ?_), F.binds fun _ _ _ _ _ _ us hl => match us, hl with | [_], _ => rfl⟩
  · obtain ⟨p, es, rfl, _⟩ := h
    rfl
  · obtain ⟨p, es, rfl, hp, few, k⟩ := h
    refine ⟨_, (pss_cons (ps_set (i := 1) sc_law_one_right.nd rfl (Or.inl rfl) (pe_call G_law_met_kind (hr.mono (by decide)) (by rfl) T.g_law_met_kind T.k_law_met_kind b_law_met_kind .nil pass0 (pa_cons (pv 0) pa_nil)))
      (pss_cons (ps_if (pt_not (pt_val (pe_call G_law_kind_right (hr.mono (by decide)) (by rfl) T.g_law_kind_right T.k_law_kind_right b_law_kind_right .nil pass0 (pa_cons (pv 0) pa_nil)))) (pss_one (ps_ret (pe_and (pe_cmpR op_eq (pe_ix ix_tup (pv 1) pe_int (fun _ _ => rfl)) pe_str (nomark _)) (pe_one (pe_ix ix_tup (pv 1) pe_int (fun _ _ => rfl)))))) pss_nil)
      (pss_cons (ps_if (PW.pt (pw_or (pt_cmpR op_ne (pe_ix ix_tup (pv 1) pe_int (fun _ _ => rfl)) pe_str (nomark _)) (pw_or1 (pt_val (pe_call G_law_safe (hr.mono (by decide)) (by rfl) T.g_law_safe T.k_law_safe b_law_safe .nil pass0 (pa_cons (pv 0) pa_nil)))))) (pss_one (ps_ret (pe_and (pe_cmpR op_eq (pe_ix ix_tup (pv 1) pe_int (fun _ _ => rfl)) pe_str (nomark _)) (pe_one (pe_cmpR op_isN (pe_ix ix_tup (pv 1) pe_int (fun _ _ => rfl)) pe_non (nomark _)))))) pss_nil)
      (pss_one (ps_ret (pe_call G_law_clash_right (hr.mono (by decide)) (by rfl) T.g_law_clash_right T.k_law_clash_right b_law_clash_right .nil pass0 (pa_cons (pe_ix ix_tup (pv 1) pe_int (fun _ _ => rfl)) (pa_cons (pv 0) pa_nil)))))))), ?_⟩
    by_cases v : Valid es
    · cases sf : safeB es with
      | true =>
        refine ⟨_, rfl, p, es, rfl, hp, few, fun _ _ t H1 e1 ht => ?_, fun _ c => (by rw [sf] at c; cases c), fun nv => absurd v nv⟩
        refine ⟨_, rfl, p, es, rfl, hp.ex e1, few.l, fun _ => ⟨_, rfl, iteF ?_⟩, fun nv => absurd v nv⟩
        refine ⟨_, rfl, t, _, _, _, rfl, rfl, SqT.of ht, atI_nat (j := 0) rfl, rfl, _, rfl, ?_⟩
        refine iteF ⟨_, rfl, p, es, rfl, hp.ex e1, few.l, v.1, fun G e2 => ⟨_, rfl, ?_⟩⟩
        rw [sf]
        refine iteT ⟨_, rfl, t, _, _, _, rfl, rfl, SqT.of (e2 _ _ ht), atI_nat (j := 0) rfl, rfl, _, rfl, ?_⟩
        exact iteT ⟨_, rfl, t, _, _, _, rfl, rfl, SqT.of (e2 _ _ ht), atI_nat (j := 1) rfl, rfl, k G (e1.trans e2)⟩
      | false =>
        refine ⟨_, rfl, p, es, rfl, hp, few, fun _ c => (by rw [sf] at c; cases c), fun _ _ t u H1 e1 ht C => ?_, fun nv => absurd v nv⟩
        refine ⟨_, rfl, p, es, rfl, hp.ex e1, few.l, fun _ => ⟨_, rfl, iteF ?_⟩, fun nv => absurd v nv⟩
        refine ⟨_, rfl, t, _, _, _, rfl, rfl, SqT.of ht, atI_nat (j := 0) rfl, rfl, _, rfl, ?_⟩
        refine iteF ⟨_, rfl, p, es, rfl, hp.ex e1, few.l, v.1, fun G e2 => ⟨_, rfl, ?_⟩⟩
        rw [sf]
        refine iteF ?_
        have e12 := e1.trans e2
        exact ⟨_, rfl, t, _, _, _, rfl, rfl, SqT.of (e2 _ _ ht), atI_nat (j := 1) rfl, _, rfl, u, p, es, rfl, C.ex e2, hp.ex e12, few, v, sf, fun G3 e3 => k G3 (e12.trans e3)⟩
    · refine ⟨_, rfl, p, es, rfl, hp, few, fun v' => absurd v' v, fun v' => absurd v' v, fun _ t H1 e1 ht => ?_⟩
      refine ⟨_, rfl, p, es, rfl, hp.ex e1, few.l, fun v' => absurd v' v, fun _ => ⟨_, rfl, iteT ?_⟩⟩
      refine ⟨_, rfl, t, _, _, _, rfl, rfl, SqT.of ht, atI_nat (j := 0) rfl, rfl, _, rfl, ?_⟩
      exact iteT ⟨_, rfl, t, _, _, _, rfl, rfl, SqT.of ht, atI_nat (j := 1) rfl, k H1 e1⟩

end

section
variable {P : Program} {w : World} {K : PySem.W.Frag} {mg : Str → Option Value} {base : Heap} {A : Ad}
theorem atv {R : List Nat} {i : Nat} (h : i < R.length) : (nI R)[i]? = some (V.int ((gt R i : Nat) : Int)) := by
  unfold nI gt
  rw [List.getElem?_map, List.getElem?_eq_getElem h, List.getD_eq_getElem?_getD, List.getElem?_eq_getElem h]
  rfl
theorem natv {R : List Nat} {i : Nat} {y : V} (h : (nI R)[i]? = some y) : i < R.length ∧ y = V.int ((gt R i : Nat) : Int) := by
  have l : i < R.length := by
    have := (List.getElem?_eq_some_iff.mp h).1
    unfold nI at this
    rw [List.length_map] at this
    exact this
  refine ⟨l, ?_⟩
  rw [atv l] at h
  exact (Option.some.inj h).symm
theorem nIl {R : List Nat} : (nI R).length = R.length := List.length_map ..
end

section
variable {P : Program} {w : World} {K : PySem.W.Frag} {mg : Str → Option Value} {base : Heap} {A : Ad}
theorem kindG {H : Hp} {p : Addr} {es : List GE} (v : Valid es) (h : KindAt H p (es.map frG)) : GensT H p es := by
  obtain ⟨ts, h1, h2, h3⟩ := h
  refine ⟨ts, h1, by rw [h2, List.length_map], fun i t e a b => ?_⟩
  have := ent_gen (h3 i t (frG e) a (by rw [List.getElem?_map, b]; rfl))
  rw [toG_frG (v.1 e (List.mem_of_getElem? b))] at this
  exact this
theorem ok_law_clash_right (T : Txt K mg A)  (g_law_state_right : Okd P w K mg base CX0 2 A.law_state_right P_law_state_right spSt) (g_law_whole : Okd P w K mg base CX0 1 A.law_whole P_law_whole spWl) (g_law_holds : Okd P w K mg base CX0 1 A.law_holds P_law_holds spHo) (g_m_holds : Okd P w K mg base CX0 2 A.m_holds P_m_holds (spHd A)) (g_law_kind_of : Okd P w K mg base CX0 1 A.law_kind_of P_law_kind_of spKo) : Okd P w K mg base CX0 3 A.law_clash_right P_law_clash_right (spCl A) := by
  obtain ⟨fd, F⟩ := T.d_law_clash_right
  obtain ⟨fd_law_state_right, G_law_state_right, b_law_state_right⟩ := g_law_state_right
  obtain ⟨fd_law_whole, G_law_whole, b_law_whole⟩ := g_law_whole
  obtain ⟨fd_law_holds, G_law_holds, b_law_holds⟩ := g_law_holds
  obtain ⟨fd_m_holds, G_m_holds, b_m_holds⟩ := g_m_holds
  obtain ⟨fd_law_kind_of, G_law_kind_of, b_law_kind_of⟩ := g_law_kind_of
  refine ⟨fd, F.ok sc_law_clash_right (fun vs H Q E h => ?_) (fun cdv A' outer s H vs Q E hr h => ?_), F.binds fun _ _ _ _ _ _ us hl => match us, hl with | [_, _], _ => rfl⟩
  · obtain ⟨u, p, es, rfl, _⟩ := h
    rfl
  · obtain ⟨u, p, es, rfl, hu, hp, few, v, un, k⟩ := h
    refine ⟨_, (pss_cons (ps_if (pt_not (pt_val (pe_callB call_isi (by rfl) T.n_isinstance (by decide +kernel) (pa_cons (pv 0) (pa_cons (pe_glob (v := .ref A.Clash) rfl T.g_Clash rfl) pa_nil))))) (pss_one (ps_ret pe_bl)) pss_nil)
      (pss_cons (ps_set (i := 2) sc_law_clash_right.nd rfl (Or.inl rfl) (pe_callB (cr_sum (by rfl)) (by rfl) T.n_sum (by decide +kernel) (pa_cons (pe_lc (own := [("part", 7)]) (tt := tYes) (by rfl) sc_law_clash_right.nd (pi_tup (pv 1)) (blkOk_by (own := [("part", 7)]) (N := N_law_clash_right) (sc := defScope s_law_clash_right) (by decide +kernel)) (fun _ _ _ _ _ => (pg_name (i := 7) sc_law_clash_right.nd rfl (Or.inl rfl))) (fun _ _ _ _ _ => pts_nil) (fun _ _ _ _ _ => (pe_ix (ix_tupK (K := K) rfl) (pv 7) pe_int (fun _ _ => rfl)))) pa_nil)))
      (pss_cons (ps_set (i := 3) sc_law_clash_right.nd rfl (Or.inl rfl) (pe_lst pa_nil))
      (pss_cons (ps_for PassesOwn.never rfl (pi_tup (pe_tup (pa_cons (pe_fld (pv 0) rfl) (pa_cons (pe_fld (pv 0) rfl) pa_nil)))) (pg_name (i := 4) sc_law_clash_right.nd rfl (Or.inl rfl)) (pss_cons (ps_if (PW.pt (pw_or (pt_not (pt_val (pe_callB call_isi (by rfl) T.n_isinstance (by decide +kernel) (pa_cons (pv 4) (pa_cons (pe_bltn (v := .ty "tuple") (u := .type "tuple") (by rfl) T.n_tuple (by decide +kernel) rfl) pa_nil))))) (pw_or1 (pt_cmpR op_ne (pe_callB call_len_seq (by rfl) T.n_len PySem.boot_len (pa_cons (pv 4) pa_nil)) pe_int (nomark _))))) (pss_one (ps_ret pe_bl)) pss_nil)
      (pss_one (ps_for PassesOwn.never rfl (pi_tup (pv 4)) (pg_name (i := 5) sc_law_clash_right.nd rfl (Or.inl rfl)) (pss_cons (ps_if (pt_not (pt_val (pe_call G_law_state_right (hr.mono (by decide)) (by rfl) T.g_law_state_right T.k_law_state_right b_law_state_right .nil pass0 (pa_cons (pv 5) (pa_cons (pv 2) pa_nil))))) (pss_one (ps_ret pe_bl)) pss_nil)
      (pss_one (ps_expr (pe_bm PySem.F.plainAttrs_list PySem.F.slot_list_append PySem.F.type_list_append mt_append (pv 3) (pa_cons (pv 5) pa_nil)))))))))
      (pss_cons (ps_set (i := 6) sc_law_clash_right.nd rfl (Or.inl rfl) (pe_fld (pv 0) rfl))
      (pss_cons (ps_if (PW.pt (pw_or (pt_not (pt_val (pe_callB call_isi (by rfl) T.n_isinstance (by decide +kernel) (pa_cons (pv 6) (pa_cons (pe_bltn (v := .ty "list") (u := .type "list") (by rfl) T.n_list (by decide +kernel) rfl) pa_nil))))) (pw_or1 (pt_cmpR op_gt (pe_callB call_len_seq (by rfl) T.n_len PySem.boot_len (pa_cons (pe_lc (own := [("x", 8)]) (tt := _) (by rfl) sc_law_clash_right.nd (pi_list (pv 6)) (blkOk_by (own := [("x", 8)]) (N := N_law_clash_right) (sc := defScope s_law_clash_right) (by decide +kernel)) (fun _ _ _ _ _ => (pg_name (i := 8) sc_law_clash_right.nd rfl (Or.inl rfl))) (fun _ _ _ _ _ => (pts_one (pt_not (pt_val (pe_call G_law_whole (hr.mono (by decide)) (by rfl) T.g_law_whole T.k_law_whole b_law_whole .nil pass0 (pa_cons (pv 8) pa_nil)))))) (fun _ _ _ _ _ => (pv 8))) pa_nil)) pe_int (nomark _))))) (pss_one (ps_ret pe_bl)) pss_nil)
      (pss_cons (ps_expr (pe_bm PySem.F.plainAttrs_list PySem.F.slot_list_append PySem.F.type_list_append mt_append (pv 3) (pa_cons (pv 6) pa_nil)))
      (pss_cons (ps_if (PW.pt (pw_or (pt_not (pt_val (pe_call G_law_holds (hr.mono (by decide)) (by rfl) T.g_law_holds T.k_law_holds b_law_holds .nil pass0 (pa_cons (pv 3) pa_nil)))) (pw_or (pt_not (pt_val (pe_callB call_isi (by rfl) T.n_isinstance (by decide +kernel) (pa_cons (pe_meth0 (pv 0) T.cR T.mt_holds G_m_holds (hr.mono (by decide)) b_m_holds .nil pass0) (pa_cons (pe_bltn (v := .ty "bool") (u := .type "bool") (by rfl) T.n_bool (by decide +kernel) rfl) pa_nil))))) (pw_or1 (pt_not (pt_val (pe_meth0 (pv 0) T.cR T.mt_holds G_m_holds (hr.mono (by decide)) b_m_holds .nil pass0))))))) (pss_one (ps_ret pe_bl)) pss_nil)
      (pss_cons (ps_if (pt_cmpR (op_neD hr.units) (pe_call G_law_kind_of (hr.mono (by decide)) (by rfl) T.g_law_kind_of T.k_law_kind_of b_law_kind_of .nil pass0 (pa_cons (pe_ix ix_list (pv 3) pe_int (fun _ _ => rfl)) (pa_cons (pe_ix ix_list (pv 3) pe_int (fun _ _ => rfl)) pa_nil))) (pv 1) (nomark _)) (pss_one (ps_ret pe_bl)) pss_nil)
      (pss_one (ps_ret (pe_or (pe_cmpR (op_eqD hr.units) (pe_ix ix_list (pv 3) pe_int (fun _ _ => rfl)) (pe_ix ix_list (pv 3) pe_int (fun _ _ => rfl)) (nomark _)) (pe_one (pe_cmpR (op_eqD hr.units) (pe_call G_law_kind_of (hr.mono (by decide)) (by rfl) T.g_law_kind_of T.k_law_kind_of b_law_kind_of .nil pass0 (pa_cons (pe_ix ix_list (pv 3) pe_int (fun _ _ => rfl)) (pa_cons (pe_ix ix_list (pv 3) pe_int (fun _ _ => rfl)) pa_nil))) (pv 1) (nomark _))))))))))))))), ?_⟩
    have C := cla_K v un few.t
    have o1 := of_one v
    have t64 := few.t
    have HK := holds_K C
    obtain ⟨t1, t2, a, b, c, d, m, KA⟩ := hu
    obtain ⟨⟨dx, hu⟩, h1, h2, q0, q1, q2, q3, q4, fw⟩ := id KA
    have q0 : ListI H a (zI (rA es)) := q0
    have q1 : ListI H b (zI (rB es)) := q1
    have q2 : ListI H c (zI (rC es)) := q2
    have q3 : ListI H d (zI (rD es)) := q3
    have q4 : ListI H m (zI (rM es)) := q4
    obtain ⟨ts, hts, tl, tat⟩ := id hp
    refine ⟨_, rfl, _, _, _, _, true, rfl, ClsV.own _, TyX.base (TyOf.ins hu T.cR T.cc T.cn T.ct T.co), kit_self, ?_⟩
    refine ⟨true, rfl, iteF ?_⟩
    refine ⟨_, rfl, p, rfl, ⟨_, SqT.of hts⟩, fun D hD => ?_⟩
    refine lc_tup (K := K) (a := p) (xs := ts.map V.ref) (fun j G => Ex H G ∧ G D = some (.lst (((es.take j).map (·.2.1)).map V.int))) ⟨Ex.new hD, upd_same⟩ (fun j G _ q => SqT.of (q.1 _ _ hts)) ?_ ?_
    · rintro j x G2 hx ⟨e, hd⟩
      obtain ⟨t1, ht1, rfl⟩ := ref_at hx
      have jl : j < es.length := by have := (List.getElem?_eq_some_iff.mp ht1).1; omega
      have he1 : es[j]? = some es[j] := List.getElem?_eq_getElem jl
      refine ⟨rfl, _, rfl, t1, _, _, _, rfl, rfl, SqT.of (e _ _ (tat j _ _ ht1 he1)), atI_nat (j := 1) rfl, ?_⟩
      refine ⟨_, hd, small1000 (by rw [List.length_map, List.length_map, List.length_take]; have := few.l; omega), fun x o ho => ?_, ?_⟩
      · rw [upd_ne (ne_of_none ho hD)]
        exact e _ _ ho
      · rw [upd_same, List.take_add_one, he1, List.map_append, List.map_append]
        rfl
    rintro G2 ⟨e, hd⟩
    rw [List.length_map, tl, List.take_length] at hd
    have pos : ∀ x ∈ es, 0 ≤ x.2.1 := fun x hx => by
      have := (gdE (v.1 x hx)).n2
      have : 2 ≤ x.2.1 := this
      omega
    refine ⟨D, _, rfl, SqL.of hd, ?_⟩
    rw [sum_tot pos]
    refine ⟨(by show 0 ≤ sizeLine; decide), fun r hr => ?_⟩
    have eR := e.trans (Ex.new (o := .lst []) hr)
    have hr2 : upd G2 r (.lst []) r = some (.lst ([].map V.ref)) := upd_same
    have fr : H r = none := back_none e hr
    have nt : ∀ {x : Addr} {xs : List V}, H x = some (.tup xs) → x ≠ r := fun {x xs} h => ne_of_none h fr
    have nr : ∀ {x : Addr} {R : List Nat}, ListN H x R → x ≠ r := fun {x R} h => ne_of_none h fr
    generalize upd G2 r (.lst []) = H2 at eR hr2 ⊢
    have hu2 := eR _ _ hu
    have l0 : ListN H a (rA es) := listNI.mpr q0
    have l1 : ListN H b (rB es) := listNI.mpr q1
    have l2 : ListN H c (rC es) := listNI.mpr q2
    have l3 : ListN H d (rD es) := listNI.mpr q3
    have l4 : ListN H m (rM es) := listNI.mpr q4
    have kp0 : ∀ x o, x ≠ r → H x = some o → H2 x = some o := fun x o _ h => eR _ _ h
    refine ⟨_, rfl, u, _, dx, _, _, rfl, hu2, T.cR, T.nc_first, rfl, _, rfl, u, _, dx, _, _, rfl, hu2, T.cR, T.nc_second, rfl, (by show 2 ≤ sizeLine; decide), fun t ht => ?_⟩
    have eT := Ex.new (o := .tup [V.ref t1, V.ref t2]) ht
    have hT : upd H2 t (.tup [V.ref t1, V.ref t2]) t = some (.tup [V.ref t1, V.ref t2]) := upd_same
    have ntr : t ≠ r := fun z => by rw [z, hr2] at ht; cases ht
    have kp1 : ∀ x o, x ≠ r → H x = some o → upd H2 t (.tup [V.ref t1, V.ref t2]) x = some o := fun x o n h => eT _ _ (kp0 x o n h)
    have hr3 := eT _ _ hr2
    generalize upd H2 t (.tup [V.ref t1, V.ref t2]) = H3 at eT hT kp1 hr3 ⊢
    refine ⟨t, rfl, ⟨_, SqT.of hT⟩, for_tup (K := K) (a := t) (xs := [V.ref t1, V.ref t2]) (fun i σ G => ∃ v4 v5 : Option V, σ = [some (.ref u), some (.ref p), some (.int (totZ es : Nat)), some (.ref r), v4, v5, none, none, none] ∧ (∀ x o, x ≠ r → H x = some o → G x = some o) ∧ G r = some (.lst (([a, b, c, d].take (2 * i)).map V.ref)) ∧ G t = some (.tup [V.ref t1, V.ref t2])) ⟨none, none, rfl, kp1, hr3, hT⟩ (fun i σ G _ ⟨_, _, _, _, _, q⟩ => SqT.of q) ?_ ?_⟩
    · rintro i x σ G4 hx ⟨v4, v5, rfl, kp4, hr4, hT4⟩
      match i, hx, hr4 with
        | 0, hx, hr4 =>
          have ex : V.ref t1 = x := Option.some.inj hx
          subst ex
          have hT1 : G4 t1 = some _ := kp4 _ _ (nt h1) h1
          refine ⟨_, rfl, _, _, _, _, true, rfl, ClsV.ty "tuple", TyX.base (TyOf.tup hT1), kit_ty (by decide +kernel), ?_⟩
          refine ⟨true, rfl, iteF ?_⟩
          refine ⟨_, rfl, t1, _, rfl, .inr (SqT.of hT1), rfl, _, rfl, iteF ?_⟩
          refine ⟨_, rfl, t1, rfl, ⟨_, SqT.of hT1⟩, for_tup (K := K) (a := t1) (xs := [V.ref a, V.ref b]) (fun j σ G => ∃ v5 : Option V, σ = [some (.ref u), some (.ref p), some (.int (totZ es : Nat)), some (.ref r), some (.ref t1), v5, none, none, none] ∧ (∀ x o, x ≠ r → H x = some o → G x = some o) ∧ G t = some (.tup [V.ref t1, V.ref t2]) ∧ G r = some (.lst (([] ++ [a, b].take j).map V.ref))) ⟨v5, rfl, kp4, hT4, hr4⟩ (fun j σ G _ ⟨_, _, kp, _, _⟩ => SqT.of (kp _ _ (nt h1) h1)) ?_ ?_⟩
          · rintro j y σ G5 hx ⟨v5, rfl, kp5, hT5, hr5⟩
            match j, hx, hr5 with
            | 0, hx, hr5 =>
              have ex : V.ref a = y := Option.some.inj hx
              subst ex
              have lx : ListN G5 a (rA es) := kp5 _ _ (nr l0) l0
              refine ⟨_, rfl, _, rfl, a, rA es, totZ es, rfl, lx, C.a, t64, _, rfl, iteF ?_⟩
              refine ⟨_, rfl, .inl ⟨rfl, _, SqL.of hr5⟩, _, rfl, r, _, _, rfl, rfl, hr5, small1000 (by show 0 ≤ 1000; decide), ?_⟩
              refine ⟨_, rfl, fun w o n h => by rw [upd_ne n]; exact kp5 _ _ n h, by rw [upd_ne ntr]; exact hT5, ?_⟩
              rw [upd_same]
              rfl
            | 1, hx, hr5 =>
              have ex : V.ref b = y := Option.some.inj hx
              subst ex
              have lx : ListN G5 b (rB es) := kp5 _ _ (nr l1) l1
              refine ⟨_, rfl, _, rfl, b, rB es, totZ es, rfl, lx, C.b, t64, _, rfl, iteF ?_⟩
              refine ⟨_, rfl, .inl ⟨rfl, _, SqL.of hr5⟩, _, rfl, r, _, _, rfl, rfl, hr5, small1000 (by show 1 ≤ 1000; decide), ?_⟩
              refine ⟨_, rfl, fun w o n h => by rw [upd_ne n]; exact kp5 _ _ n h, by rw [upd_ne ntr]; exact hT5, ?_⟩
              rw [upd_same]
              rfl
            | j + 2, hx, _ => cases hx
          · rintro σ G5 ⟨v5, rfl, kp5, hT5, hr5⟩
            exact ⟨_, v5, rfl, kp5, hr5, hT5⟩
        | 1, hx, hr4 =>
          have ex : V.ref t2 = x := Option.some.inj hx
          subst ex
          have hT1 : G4 t2 = some _ := kp4 _ _ (nt h2) h2
          refine ⟨_, rfl, _, _, _, _, true, rfl, ClsV.ty "tuple", TyX.base (TyOf.tup hT1), kit_ty (by decide +kernel), ?_⟩
          refine ⟨true, rfl, iteF ?_⟩
          refine ⟨_, rfl, t2, _, rfl, .inr (SqT.of hT1), rfl, _, rfl, iteF ?_⟩
          refine ⟨_, rfl, t2, rfl, ⟨_, SqT.of hT1⟩, for_tup (K := K) (a := t2) (xs := [V.ref c, V.ref d]) (fun j σ G => ∃ v5 : Option V, σ = [some (.ref u), some (.ref p), some (.int (totZ es : Nat)), some (.ref r), some (.ref t2), v5, none, none, none] ∧ (∀ x o, x ≠ r → H x = some o → G x = some o) ∧ G t = some (.tup [V.ref t1, V.ref t2]) ∧ G r = some (.lst (([a, b] ++ [c, d].take j).map V.ref))) ⟨v5, rfl, kp4, hT4, hr4⟩ (fun j σ G _ ⟨_, _, kp, _, _⟩ => SqT.of (kp _ _ (nt h2) h2)) ?_ ?_⟩
          · rintro j y σ G5 hx ⟨v5, rfl, kp5, hT5, hr5⟩
            match j, hx, hr5 with
            | 0, hx, hr5 =>
              have ex : V.ref c = y := Option.some.inj hx
              subst ex
              have lx : ListN G5 c (rC es) := kp5 _ _ (nr l2) l2
              refine ⟨_, rfl, _, rfl, c, rC es, totZ es, rfl, lx, C.c, t64, _, rfl, iteF ?_⟩
              refine ⟨_, rfl, .inl ⟨rfl, _, SqL.of hr5⟩, _, rfl, r, _, _, rfl, rfl, hr5, small1000 (by show 2 ≤ 1000; decide), ?_⟩
              refine ⟨_, rfl, fun w o n h => by rw [upd_ne n]; exact kp5 _ _ n h, by rw [upd_ne ntr]; exact hT5, ?_⟩
              rw [upd_same]
              rfl
            | 1, hx, hr5 =>
              have ex : V.ref d = y := Option.some.inj hx
              subst ex
              have lx : ListN G5 d (rD es) := kp5 _ _ (nr l3) l3
              refine ⟨_, rfl, _, rfl, d, rD es, totZ es, rfl, lx, C.d, t64, _, rfl, iteF ?_⟩
              refine ⟨_, rfl, .inl ⟨rfl, _, SqL.of hr5⟩, _, rfl, r, _, _, rfl, rfl, hr5, small1000 (by show 3 ≤ 1000; decide), ?_⟩
              refine ⟨_, rfl, fun w o n h => by rw [upd_ne n]; exact kp5 _ _ n h, by rw [upd_ne ntr]; exact hT5, ?_⟩
              rw [upd_same]
              rfl
            | j + 2, hx, _ => cases hx
          · rintro σ G5 ⟨v5, rfl, kp5, hT5, hr5⟩
            exact ⟨_, v5, rfl, kp5, hr5, hT5⟩
        | i + 2, hx, _ => cases hx
    rintro σ G ⟨v4, v5, rfl, kp, hrG, _⟩
    have hrG : G r = some (.lst ([a, b, c, d].map V.ref)) := hrG
    have huG := kp _ _ (ne_of_none hu fr) hu
    have hmG : ListI G m (zI (rM es)) := kp _ _ (nr l4) q4
    refine ⟨_, rfl, u, _, dx, _, _, rfl, huG, T.cR, T.nc_image, rfl, ?_⟩
    refine ⟨_, rfl, _, _, _, _, true, rfl, ClsV.ty "list", TyX.base (TyOf.lst hmG), kit_ty (by decide +kernel), ?_⟩
    refine ⟨true, rfl, iteF ?_⟩
    refine ⟨_, rfl, m, rfl, ⟨_, SqL.of hmG⟩, fun D2 hD2 => ?_⟩
    refine lc_list (K := K) (a := m) (xs := (zI (rM es)).map V.int) (fun j G2 => Ex G G2 ∧ G2 D2 = some (.lst [])) ⟨Ex.new hD2, upd_same⟩ (fun j G2 _ q => SqL.of (q.1 _ _ hmG)) ?_ ?_
    · rintro j x G2 hx ⟨e, hd⟩
      obtain ⟨z, hz, rfl⟩ := markV_int hx
      exact ⟨rfl, _, rfl, z, rfl, _, rfl, iteF ⟨e, hd⟩⟩
    rintro G2 ⟨eG, hd2⟩
    refine ⟨D2, _, rfl, .inl (SqL.of hd2), _, _, rfl, rfl, _, rfl, ?_⟩
    refine iteF ?_
    have hr5 := eG _ _ hrG
    refine ⟨_, rfl, .inl ⟨rfl, _, SqL.of hr5⟩, _, rfl, r, _, _, rfl, rfl, hr5, (by show 4 < sizeLine; decide), ?_⟩
    have kp6 : ∀ x o, x ≠ r → H x = some o → upd G2 r (.lst ([a, b, c, d].map V.ref ++ [V.ref m])) x = some o := fun x o n h => by rw [upd_ne n]; exact eG _ _ (kp x o n h)
    have hr6 : upd G2 r (.lst ([a, b, c, d].map V.ref ++ [V.ref m])) r = some (.lst ([a, b, c, d, m].map V.ref)) := upd_same
    generalize upd G2 r (.lst ([a, b, c, d].map V.ref ++ [V.ref m])) = G6 at kp6 hr6 ⊢
    have RW : RwA G6 r [a, b, c, d, m] (rsK es) := ⟨hr6, rfl, rfl, fun i x xs h1 h2 => by
      match i, h1, h2 with
      | 0, h1, h2 => rw [← Option.some.inj h1, ← Option.some.inj h2]; exact ⟨kp6 _ _ (nr l0) q0, fw 0⟩
      | 1, h1, h2 => rw [← Option.some.inj h1, ← Option.some.inj h2]; exact ⟨kp6 _ _ (nr l1) q1, fw 1⟩
      | 2, h1, h2 => rw [← Option.some.inj h1, ← Option.some.inj h2]; exact ⟨kp6 _ _ (nr l2) q2, fw 2⟩
      | 3, h1, h2 => rw [← Option.some.inj h1, ← Option.some.inj h2]; exact ⟨kp6 _ _ (nr l3) q3, fw 3⟩
      | 4, h1, h2 => rw [← Option.some.inj h1, ← Option.some.inj h2]; exact ⟨kp6 _ _ (nr l4) q4, fw 4⟩
      | i + 5, h1, h2 => cases h1⟩
    refine ⟨_, rfl, r, [a, b, c, d, m], rsK es, rfl, RW, _, rfl, ?_⟩
    rw [HK]
    refine iteF ?_
    have KA6 := KA.keep fun x _ o q => kp6 x o (ne_of_none q fr) q
    have hu6 := kp6 _ _ (ne_of_none hu fr) hu
    refine ⟨_, rfl, u, dx, _, rfl, hu6, rfl, u, t1, t2, a, b, c, d, m, rsK es, rfl, KA6, fun G7 e7 => ?_⟩
    rw [HK]
    refine ⟨_, _, _, _, true, rfl, ClsV.ty "bool", TyX.base (TyOf.bl _), kit_ty (by decide +kernel), ?_⟩
    refine ⟨true, rfl, iteF ?_⟩
    refine ⟨_, rfl, u, dx, _, rfl, e7 _ _ hu6, rfl, u, t1, t2, a, b, c, d, m, rsK es, rfl, KA6.ex e7, fun G8 e8 => ?_⟩
    rw [HK]
    refine ⟨true, rfl, iteF ?_⟩
    have e78 := e7.trans e8
    have XG : Ex H G8 := fun x o h => e78 _ _ (kp6 _ _ (ne_of_none h fr) h)
    have hr8 := e78 _ _ hr6
    have A0 : ListN G8 a (rA es) := XG _ _ l0
    have A1 : ListN G8 b (rB es) := XG _ _ l1
    refine ⟨_, rfl, r, _, _, _, rfl, rfl, SqL.of hr8, atI_nat (j := 0) rfl, _, rfl, r, _, _, _, rfl, rfl, SqL.of hr8, atI_nat (j := 1) rfl, a, b, rA es, rB es, es, totZ es, _, rfl, A0, A1, o1, t64, v, fun w G9 e9 hw => ?_⟩
    have X9 := XG.trans e9
    refine ⟨_, rfl, _, _, dp_kind (kindG v hw), dp_kind (hp.ex X9), shaped_kind v.1, shaped_kind v.1, ?_⟩
    rw [eqv_kind, decide_eq_true rfl]
    refine ⟨_, rfl, iteF ?_⟩
    have hr9 := e9 _ _ hr8
    have B2 : ListI G9 c (zI (rC es)) := X9 _ _ q2
    have B3 : ListI G9 d (zI (rD es)) := X9 _ _ q3
    refine ⟨_, rfl, r, _, _, _, rfl, rfl, SqL.of hr9, atI_nat (j := 2) rfl, _, rfl, r, _, _, _, rfl, rfl, SqL.of hr9, atI_nat (j := 3) rfl, _, _, dp_I B2, dp_I B3, shaped_I _, shaped_I _, ?_⟩
    rw [eqv_dI]
    by_cases same : rC es = rD es
    · rw [decide_eq_true (show zI (rC es) = zI (rD es) from by rw [same])]
      exact ⟨_, rfl, k G9 X9⟩
    · rw [decide_eq_false (show ¬ zI (rC es) = zI (rD es) from fun z => same (zI_inj z))]
      refine ⟨_, rfl, ?_⟩
      refine ⟨_, rfl, r, _, _, _, rfl, rfl, SqL.of hr9, atI_nat (j := 2) rfl, _, rfl, r, _, _, _, rfl, rfl, SqL.of hr9, atI_nat (j := 3) rfl, c, d, rC es, rD es, es, totZ es, _, rfl, listNI.mpr B2, listNI.mpr B3, of_two v un same, t64, v, fun w2 G10 e10 hw2 => ?_⟩
      have X10 := X9.trans e10
      refine ⟨_, rfl, _, _, dp_kind (kindG v hw2), dp_kind (hp.ex X10), shaped_kind v.1, shaped_kind v.1, ?_⟩
      rw [eqv_kind, decide_eq_true rfl]
      exact k G10 X10

end

section
variable {P : Program} {w : World} {K : PySem.W.Frag} {mg : Str → Option Value} {base : Heap} {A : Ad}
/-- n bools told by their places -/
def nB (f : Nat → Bool) (n : Nat) : List V := (List.range n).map fun j => V.bl (f j)
theorem nB_len {f : Nat → Bool} {n : Nat} : (nB f n).length = n := by unfold nB; rw [List.length_map, List.length_range]
theorem nB_at {f : Nat → Bool} {n j : Nat} (h : j < n) : (nB f n)[j]? = some (V.bl (f j)) := by
  unfold nB
  rw [List.getElem?_map, List.getElem?_range h]
  rfl
theorem nB_set {f : Nat → Bool} {n i : Nat} {b : Bool} : (nB f n).set i (V.bl b) = nB (fun j => if j = i then b else f j) n := by
  unfold nB
  refine List.ext_getElem (by simp) fun j h1 h2 => ?_
  rw [List.getElem_set, List.getElem_map, List.getElem_map, List.getElem_range]
  by_cases c : i = j
  · rw [if_pos c]
    show V.bl b = V.bl (if j = i then b else f j)
    rw [if_pos c.symm]
  · rw [if_neg c]
    show V.bl (f j) = V.bl (if j = i then b else f j)
    rw [if_neg (fun z : j = i => c z.symm)]
theorem nB_snoc {f : Nat → Bool} {n : Nat} : nB f n ++ [V.bl (f n)] = nB f (n + 1) := by
  unfold nB
  rw [List.range_succ, List.map_append]
  rfl
theorem nb_ne {p : Pc} (ok : PcOk p) (h1 : 1 < p.1) {k : Nat} (hk : k < p.2.1.length) : nb 0 p.1 p.2.1.length p.2.2 k ≠ nb 1 p.1 p.2.1.length p.2.2 k := by
  have h2 := ok.l2
  have h3 := ok.l3
  have hw := ok.w
  rw [nb_cr h1, nb_cr h1]
  by_cases c : (p.2.2 + k) % 2 = 0
  · rw [if_pos c, if_neg (show ¬ (p.2.2 + k) % 2 = 1 by omega)]
    split <;> split <;> (try split) <;> (try split) <;> omega
  · rw [if_neg c, if_pos (show (p.2.2 + k) % 2 = 1 by omega)]
    split <;> split <;> (try split) <;> (try split) <;> omega
theorem of_ne {R S : List Nat} {es : List GE} {n : Nat} {ps : List Pc} (o : OfK R S es n ps) {x : Nat} (hx : x < n) : gt R x ≠ gt S x := by
  obtain ⟨p, hp, m⟩ := o.bl.own hx
  have ok := o.bl.ok p hp
  obtain ⟨i1, i2⟩ := idx_gt m
  have pa := (o.bl.at_ p hp).1 _ i1
  have pb := (o.bl.at_ p hp).2 _ i1
  rw [i2] at pa pb
  rw [pa, pb]
  intro z
  have l0 := nb_lt ok (r := 0) i1
  have l1 := nb_lt ok (r := 1) i1
  refine nb_ne ok (o.cr p hp) i1 ?_
  have g : ∀ k (h : k < p.2.1.length), p.2.1[k]? = some (gt p.2.1 k) := fun k h => by
    unfold gt
    rw [List.getD_eq_getElem?_getD, List.getElem?_eq_getElem h]
    rfl
  exact (List.getElem?_inj l0 ok.nd).mp ((g _ l0).trans ((congrArg some z).trans (g _ l1).symm))
theorem nB_congr {f g : Nat → Bool} {n : Nat} (h : ∀ j, j < n → f j = g j) : nB f n = nB g n := List.map_congr_left fun j hj => by rw [h j (List.mem_range.mp hj)]
theorem ok_law_kind_of (T : Txt K mg A)   : Okd P w K mg base CX0 1 A.law_kind_of P_law_kind_of spKo := by
  obtain ⟨fd, F⟩ := T.d_law_kind_of

  refine ⟨fd, F.ok sc_law_kind_of (fun vs H Q E h => ?_) (fun cdv A' outer s H vs Q E hr h => ?_), F.binds fun _ _ _ _ _ _ us hl => match us, hl with | [_, _], _ => rfl⟩
  · obtain ⟨a, b, R, S, es, n, ps, rfl, _⟩ := h
    rfl
  · obtain ⟨a, b, R, S, es, n, ps, rfl, ha, hb, of, n64, v, k⟩ := h
    refine ⟨_, (pss_cons (ps_setLc (i := 2) (own := [("x", 10)]) (tt := tYes) (by rfl) sc_law_kind_of.nd rfl rfl (sw_true rfl rfl rfl (by decide +kernel)) (pi_range1 (by rfl) T.n_range (pa_cons (pe_callB call_len_seq (by rfl) T.n_len PySem.boot_len (pa_cons (pv 0) pa_nil)) pa_nil)) (blkOk_by (own := [("x", 10)]) (N := N_law_kind_of) (sc := defScope s_law_kind_of) (by decide +kernel)) (fun _ _ _ _ _ => (pg_name (i := 10) sc_law_kind_of.nd rfl (Or.inl rfl))) (fun _ _ _ _ _ => pts_nil) (fun _ _ _ _ _ => (pe_cmpR op_eq (pe_ix (ix_listK (K := K) rfl) (pv 0) (pv 10) (fun _ _ => rfl)) (pe_ix (ix_listK (K := K) rfl) (pv 1) (pv 10) (fun _ _ => rfl)) (nomark _))))
      (pss_cons (ps_set (i := 3) sc_law_kind_of.nd rfl (Or.inl rfl) (pe_lst pa_nil))
      (pss_cons (ps_for PassesOwn.never rfl (pi_range1 (by rfl) T.n_range (pa_cons (pe_callB call_len_seq (by rfl) T.n_len PySem.boot_len (pa_cons (pv 0) pa_nil)) pa_nil)) (pg_name (i := 4) sc_law_kind_of.nd rfl (Or.inl rfl)) (pss_one (ps_if (pt_not (pt_val (pe_ix ix_list (pv 2) (pv 4) (fun _ _ => rfl)))) (pss_cons (ps_asg pe_bl (pg_sub (pv 2) (pv 4) set_list))
      (pss_cons (ps_set (i := 5) sc_law_kind_of.nd rfl (Or.inl rfl) (pe_lst (pa_cons (pv 4) pa_nil)))
      (pss_cut (ps_for PassesOwn.never rfl (pi_range1 (by rfl) T.n_range (pa_cons (pe_callB call_len_seq (by rfl) T.n_len PySem.boot_len (pa_cons (pv 0) pa_nil)) pa_nil)) (pg_name (i := 6) sc_law_kind_of.nd rfl (Or.inl rfl)) (pss_cons (ps_if (pt_cmpR op_ge (pv 6) (pe_callB call_len_seq (by rfl) T.n_len PySem.boot_len (pa_cons (pv 5) pa_nil)) (nomark _)) (pss_one ps_break) pss_nil)
      (pss_one (ps_for PassesOwn.never rfl (pi_tup (pe_tup (pa_cons (pe_ix ix_list (pv 0) (pe_ix ix_list (pv 5) (pv 6) (fun _ _ => rfl)) (fun _ _ => rfl)) (pa_cons (pe_ix ix_list (pv 1) (pe_ix ix_list (pv 5) (pv 6) (fun _ _ => rfl)) (fun _ _ => rfl)) pa_nil)))) (pg_name (i := 7) sc_law_kind_of.nd rfl (Or.inl rfl)) (pss_one (ps_if (pt_not (pt_val (pe_ix ix_list (pv 2) (pv 7) (fun _ _ => rfl)))) (pss_cons (ps_asg pe_bl (pg_sub (pv 2) (pv 7) set_list))
      (pss_one (ps_expr (pe_bm PySem.F.plainAttrs_list PySem.F.slot_list_append PySem.F.type_list_append mt_append (pv 5) (pa_cons (pv 7) pa_nil))))) pss_nil))))))
      (pss_cons (ps_set (i := 8) sc_law_kind_of.nd rfl (Or.inl rfl) (pe_callB call_len_seq (by rfl) T.n_len PySem.boot_len (pa_cons (pe_lc (own := [("x", 10)]) (tt := _) (by rfl) sc_law_kind_of.nd (pi_list (pv 5)) (blkOk_by (own := [("x", 10)]) (N := N_law_kind_of) (sc := defScope s_law_kind_of) (by decide +kernel)) (fun _ _ _ _ _ => (pg_name (i := 10) sc_law_kind_of.nd rfl (Or.inl rfl))) (fun _ _ _ _ _ => (pts_one (pt_cmpR op_ne (pe_ix (ix_listK (K := K) rfl) (pv 0) (pv 10) (fun _ _ => rfl)) (pv 10) (nomark _)))) (fun _ _ _ _ _ => (pv 10))) pa_nil)))
      (pss_cons (ps_set (i := 9) sc_law_kind_of.nd rfl (Or.inl rfl) (pe_callB call_len_seq (by rfl) T.n_len PySem.boot_len (pa_cons (pe_lc (own := [("x", 10)]) (tt := _) (by rfl) sc_law_kind_of.nd (pi_list (pv 5)) (blkOk_by (own := [("x", 10)]) (N := N_law_kind_of) (sc := defScope s_law_kind_of) (by decide +kernel)) (fun _ _ _ _ _ => (pg_name (i := 10) sc_law_kind_of.nd rfl (Or.inl rfl))) (fun _ _ _ _ _ => (pts_one (pt_cmpR op_ne (pe_ix (ix_listK (K := K) rfl) (pv 1) (pv 10) (fun _ _ => rfl)) (pv 10) (nomark _)))) (fun _ _ _ _ _ => (pv 10))) pa_nil)))
      (pss_one (ps_if (PW.pt (pw_and (pt_cmpR op_eq (pv 8) (pe_callB call_len_seq (by rfl) T.n_len PySem.boot_len (pa_cons (pv 5) pa_nil)) (nomark _)) (pw_and1 (pt_cmpR op_eq (pv 9) (pe_callB call_len_seq (by rfl) T.n_len PySem.boot_len (pa_cons (pv 5) pa_nil)) (nomark _))))) (pss_one (ps_expr (pe_bm PySem.F.plainAttrs_list PySem.F.slot_list_append PySem.F.type_list_append mt_append (pv 3) (pa_cons (pe_tup (pa_cons pe_str (pa_cons (pe_callB call_len_seq (by rfl) T.n_len PySem.boot_len (pa_cons (pv 5) pa_nil)) (pa_cons pe_int pa_nil)))) pa_nil)))) (pss_one (ps_expr (pe_bm PySem.F.plainAttrs_list PySem.F.slot_list_append PySem.F.type_list_append mt_append (pv 3) (pa_cons (pe_tup (pa_cons pe_str (pa_cons (pe_callB call_len_seq (by rfl) T.n_len PySem.boot_len (pa_cons (pv 5) pa_nil)) (pa_cons (pe_op op_sub (pe_op op_fdivW (pv 9) pe_int) (pe_op op_fdivW (pv 8) pe_int)) pa_nil)))) pa_nil))))))))))) pss_nil)))
      (pss_one (ps_ret (pe_callTy call_tuple_of (by rfl) T.n_tuple (by decide +kernel) (pa_cons (pe_callB (DaS.cr_sortD hr.units) (by rfl) T.n_sorted (by decide +kernel) (pa_cons (pv 3) pa_nil)) pa_nil))))))), ?_⟩
    have la := of.bl.la
    have lb := of.bl.lb
    refine ⟨_, rfl, a, _, rfl, .inl (SqL.of ha), _, rfl, by rw [nIl]; omega, by rw [nIl]; omega, fun D hD => ?_⟩
    rw [nIl, Int.toNat_natCast, la]
    refine lc_range (lo := 0) (n := n) (fun i G => Ex H G ∧ G D = some (.lst (nB (fun _ => false) i))) ⟨Ex.new hD, upd_same⟩ ?_ ?_
    · rintro i G hi ⟨e, hd⟩
      rw [Int.zero_add]
      refine ⟨rfl, _, rfl, _, rfl, a, _, _, _, rfl, rfl, SqL.of (e _ _ ha), atI_nat (atv (by omega)), _, rfl, _, rfl, b, _, _, _, rfl, rfl, SqL.of (e _ _ hb), atI_nat (atv (by omega)), rfl, ?_⟩
      have ne := of_ne of hi
      rw [decide_eq_false (show ¬ V.int ((gt R i : Nat) : Int) = V.int ((gt S i : Nat) : Int) from fun z => by injection z with z; omega)]
      refine ⟨_, hd, small1000 (by rw [nB_len]; omega), fun x o ho => ?_, ?_⟩
      · rw [upd_ne (ne_of_none ho hD)]
        exact e _ _ ho
      · rw [upd_same, ← nB_snoc]
    rintro G ⟨eD, hd⟩
    refine ⟨(by show 0 ≤ sizeLine; decide), fun f hf => ?_⟩
    have e2 := eD.trans (Ex.new (o := .lst []) hf)
    have nDf : D ≠ f := fun z => by rw [z, hf] at hd; cases hd
    have hd2 : upd G f (.lst []) D = some (.lst (nB (fun _ => false) n)) := (Ex.new hf) _ _ hd
    have hf2 : upd G f (.lst []) f = some (.lst ([].map V.ref)) := upd_same
    have fD : H D = none := hD
    have ff : H f = none := back_none eD hf
    generalize upd G f (.lst []) = H2 at e2 hd2 hf2 ⊢
    have aD : a ≠ D := ne_of_none ha fD
    have af : a ≠ f := ne_of_none ha ff
    have bD : b ≠ D := ne_of_none hb fD
    have bf : b ≠ f := ne_of_none hb ff
    have ha2 := e2 _ _ ha
    have hb2 := e2 _ _ hb
    refine ⟨_, rfl, a, _, rfl, .inl (SqL.of ha2), _, rfl, by rw [nIl]; omega, by rw [nIl]; omega, ?_⟩
    rw [nIl, Int.toNat_natCast, la]
    refine for_range (lo := 0) (n := n) (fun i σ G => ∃ (v4 v5 v6 v7 v8 v9 : Option V) (S0 : Nat → Bool) (dn : List Pc) (ts : List Addr), σ = [some (.ref a), some (.ref b), some (.ref D), some (.ref f), v4, v5, v6, v7, v8, v9, none] ∧ (∀ x o, x ≠ D → x ≠ f → H2 x = some o → G x = some o) ∧ G D = some (.lst (nB S0 n)) ∧ Gs ps dn S0 ∧ (∀ x, x < i → S0 x = true) ∧ G f = some (.lst (ts.map V.ref)) ∧ ts.length = dn.length ∧ ∀ (j : Nat) (t : Addr) (p : Pc), ts[j]? = some t → dn[j]? = some p → EntAt G t (entD 0 p)) ⟨none, none, none, none, none, none, fun _ => false, [], [], rfl, fun _ _ _ _ h => h, hd2, ⟨List.nodup_nil, (fun p h => by cases h), (fun x => ⟨(fun h => by cases h), (fun h => by obtain ⟨_, h, _⟩ := h; cases h)⟩)⟩, fun x h => absurd h (Nat.not_lt_zero _), hf2, rfl, fun j t p h => by cases h⟩ ?_ ?_
    · rintro i σ G1 hi ⟨v4, v5, v6, v7, v8, v9, S0, dn, ts, rfl, kp1, hd1, gs, pre, hf1, tl, tat⟩
      rw [Int.zero_add]
      refine ⟨_, rfl, _, rfl, D, _, _, _, rfl, rfl, SqL.of hd1, atI_nat (nB_at hi), _, rfl, ?_⟩
      cases c0 : S0 i with
      | true =>
        refine iteF ⟨_, _, _, _, _, _, S0, dn, ts, rfl, kp1, hd1, gs, fun x hx => ?_, hf1, tl, tat⟩
        by_cases z : x = i
        · rw [z]; exact c0
        · exact pre x (by omega)
      | false =>
      refine iteT ?_
      obtain ⟨p, hp, ip, g0⟩ := gs.new of.bl hi c0
      have ok := of.bl.ok p hp
      have cr := of.cr p hp
      have pa := (of.bl.at_ p hp).1
      have pb := (of.bl.at_ p hp).2
      have ltn : ∀ x ∈ p.2.1, x < n := of.bl.lt hp
      refine ⟨_, rfl, _, rfl, D, _, _, i, rfl, rfl, hd1, Evl.ixN_nat (by rw [nB_len]; exact hi), ?_⟩
      rw [nB_set]
      have kpA : ∀ x o, x ≠ D → G1 x = some o → upd G1 D (.lst (nB (fun j => if j = i then true else S0 j) n)) x = some o := fun x o n h => by rw [upd_ne n]; exact h
      have hdA : upd G1 D (.lst (nB (fun j => if j = i then true else S0 j) n)) D = some (.lst (nB (fun j => if j = i then true else S0 j) n)) := upd_same
      generalize upd G1 D (.lst (nB (fun j => if j = i then true else S0 j) n)) = GA at kpA hdA ⊢
      refine ⟨_, rfl, (by show 1 ≤ sizeLine; decide), fun l hl => ?_⟩
      have eL := Ex.new (o := .lst [V.int (i : Int)]) hl
      have hl0 : ListN (upd GA l (.lst [V.int (i : Int)])) l [i] := upd_same
      have lD : l ≠ D := fun z => by rw [z, hdA] at hl; cases hl
      have kp0 : ∀ x o, x ≠ D → G1 x = some o → upd GA l (.lst [V.int (i : Int)]) x = some o := fun x o n h => eL _ _ (kpA x o n h)
      have fl1 : ∀ x o, x ≠ D → G1 x = some o → x ≠ l := fun x o n h z => by rw [z] at n h; rw [kpA _ _ n h] at hl; cases hl
      have hd0 := eL _ _ hdA
      generalize upd GA l (.lst [V.int (i : Int)]) = G0 at eL hl0 kp0 hd0 ⊢
      have haX := kp1 _ _ aD af ha2
      have hbX := kp1 _ _ bD bf hb2
      have al := fl1 _ _ aD haX
      have bl := fl1 _ _ bD hbX
      have fl := fl1 _ _ nDf.symm hf1
      have ha0 : ListN G0 a R := kp0 _ _ aD haX
      have hb0 : ListN G0 b S := kp0 _ _ bD hbX
      refine ⟨fun σ G => ∃ (v6 v7 : Option V) (line : List Nat) (S1 : Nat → Bool), σ = [some (.ref a), some (.ref b), some (.ref D), some (.ref f), some (.int (i : Int)), some (.ref l), v6, v7, v8, v9, none] ∧ (∀ x o, x ≠ D → x ≠ l → G0 x = some o → G x = some o) ∧ G D = some (.lst (nB S1 n)) ∧ ListN G l line ∧ Ga p S0 line S1 ∧ i ∈ line ∧ Dn R S line line.length, ?_, ?_⟩
      · refine ⟨_, rfl, a, _, rfl, .inl (SqL.of ha0), _, rfl, by rw [nIl]; omega, by rw [nIl]; omega, ?_⟩
        rw [nIl, Int.toNat_natCast, la]
        refine for_range (lo := 0) (n := n) (fun k σ G => ∃ (v6 v7 : Option V) (line : List Nat) (S1 : Nat → Bool), σ = [some (.ref a), some (.ref b), some (.ref D), some (.ref f), some (.int (i : Int)), some (.ref l), v6, v7, v8, v9, none] ∧ (∀ x o, x ≠ D → x ≠ l → G0 x = some o → G x = some o) ∧ G D = some (.lst (nB S1 n)) ∧ ListN G l line ∧ Ga p S0 line S1 ∧ i ∈ line ∧ Dn R S line k ∧ k ≤ line.length) ⟨v6, v7, [i], _, rfl, fun _ _ _ _ h => h, hd0, hl0, g0, List.mem_singleton.mpr rfl, fun q h => absurd h (Nat.not_lt_zero _), Nat.zero_le _⟩ ?_ ?_
        · rintro k0 σ G3 hk ⟨v6, v7, line, S1, rfl, kp3, hd3, hl3, ga, im, dnk, kl⟩
          rw [Int.zero_add]
          refine ⟨_, rfl, _, rfl, l, _, rfl, .inl (SqL.of hl3), _, _, rfl, rfl, _, rfl, ?_⟩
          rw [nIl]
          by_cases c : line.length ≤ k0
          · rw [decide_eq_true (show ((line.length : Nat) : Int) ≤ (k0 : Int) by omega)]
            have e : k0 = line.length := by omega
            rw [e] at dnk
            exact iteT ⟨_, _, line, S1, rfl, kp3, hd3, hl3, ga, im, dnk⟩
          rw [decide_eq_false (show ¬ ((line.length : Nat) : Int) ≤ (k0 : Int) by omega)]
          refine iteF ?_
          have kl : k0 < line.length := by omega
          have gm : gt line k0 ∈ line := by
            unfold gt
            rw [List.getD_eq_getElem?_getD, List.getElem?_eq_getElem kl]
            exact List.getElem_mem kl
          have xin := ga.sub _ gm
          have xl := ltn _ xin
          have y0in := recs_in ok pa xin
          have y1in := recs_in ok pb xin
          have ha3 := kp3 _ _ aD al ha0
          have hb3 := kp3 _ _ bD bl hb0
          refine ⟨_, rfl, _, rfl, _, rfl, l, _, _, _, rfl, rfl, SqL.of hl3, atI_nat (atv kl), a, _, _, _, rfl, rfl, SqL.of ha3, atI_nat (atv (by omega)), _, rfl, _, rfl, _, rfl, l, _, _, _, rfl, rfl, SqL.of hl3, atI_nat (atv kl), b, _, _, _, rfl, rfl, SqL.of hb3, atI_nat (atv (by omega)), (by show 2 ≤ sizeLine; decide), fun t ht => ?_⟩
          have eT := Ex.new (o := .tup [V.int ((gt R (gt line k0) : Nat) : Int), V.int ((gt S (gt line k0) : Nat) : Int)]) ht
          have hT : upd G3 t (.tup [V.int ((gt R (gt line k0) : Nat) : Int), V.int ((gt S (gt line k0) : Nat) : Int)]) t = some (.tup [V.int ((gt R (gt line k0) : Nat) : Int), V.int ((gt S (gt line k0) : Nat) : Int)]) := upd_same
          have tD : t ≠ D := fun z => by rw [z, hd3] at ht; cases ht
          have tl' : t ≠ l := fun z => by have h : G3 l = some _ := hl3; rw [z, h] at ht; cases ht
          generalize upd G3 t (.tup [V.int ((gt R (gt line k0) : Nat) : Int), V.int ((gt S (gt line k0) : Nat) : Int)]) = G4 at eT hT ⊢
          have hd4 := eT _ _ hd3
          have hl4 : ListN G4 l line := eT _ _ hl3
          have kp4 : ∀ x o, x ≠ D → x ≠ l → G0 x = some o → G4 x = some o := fun x o n1 n2 h => eT _ _ (kp3 x o n1 n2 h)
          obtain ⟨y0, ey0⟩ : ∃ y, y = gt R (gt line k0) := ⟨_, rfl⟩
          obtain ⟨y1, ey1⟩ : ∃ y, y = gt S (gt line k0) := ⟨_, rfl⟩
          rw [← ey0, ← ey1] at hT
          rw [← ey0] at y0in
          rw [← ey1] at y1in
          refine ⟨t, rfl, ⟨_, SqT.of hT⟩, for_tup (K := K) (a := t) (xs := [V.int (y0 : Int), V.int (y1 : Int)]) (fun m σ G => ∃ (v7 : Option V) (line2 : List Nat) (S2 : Nat → Bool), σ = [some (.ref a), some (.ref b), some (.ref D), some (.ref f), some (.int (i : Int)), some (.ref l), some (.int (k0 : Int)), v7, v8, v9, none] ∧ (∀ x o, x ≠ D → x ≠ l → G0 x = some o → G x = some o) ∧ G D = some (.lst (nB S2 n)) ∧ ListN G l line2 ∧ Ga p S0 line2 S2 ∧ (∃ ext, line2 = line ++ ext) ∧ (∀ q y, q < m → [y0, y1][q]? = some y → y ∈ line2) ∧ G t = some (.tup [V.int (y0 : Int), V.int (y1 : Int)])) ⟨_, line, S1, rfl, kp4, hd4, hl4, ga, ⟨[], (List.append_nil _).symm⟩, fun q y h => absurd h (Nat.not_lt_zero _), hT⟩ (fun m σ G _ ⟨_, _, _, _, _, _, _, _, _, _, q⟩ => SqT.of q) ?_ ?_⟩
          · rintro m x σ G5 hx ⟨v7, line2, S2, rfl, kp5, hd5, hl5, ga2, ⟨ext, ex⟩, mem, hT5⟩
            obtain ⟨y, hy, rfl, yin⟩ : ∃ y : Nat, [y0, y1][m]? = some y ∧ x = V.int (y : Int) ∧ y ∈ p.2.1 := by
              match m, hx with
              | 0, hx => exact ⟨y0, rfl, (Option.some.inj hx).symm, y0in⟩
              | 1, hx => exact ⟨y1, rfl, (Option.some.inj hx).symm, y1in⟩
              | m + 2, hx => cases hx
            have yl := ltn _ yin
            have l2 : line2.length ≤ 64 := Nat.le_trans (nd_len ga2.nd ga2.sub) (by have := of.bl.recs_len hp; omega)
            refine ⟨_, rfl, _, rfl, D, _, _, _, rfl, rfl, SqL.of hd5, atI_nat (nB_at yl), _, rfl, ?_⟩
            cases cy : S2 y with
            | true =>
              refine iteF ⟨_, line2, S2, rfl, kp5, hd5, hl5, ga2, ⟨ext, ex⟩, fun q z hq hz => ?_, hT5⟩
              by_cases e : q = m
              · rw [e, hy] at hz
                rw [← Option.some.inj hz]
                exact ga2.mem yin cy
              · exact mem q z (by omega) hz
            | false =>
              refine iteT ⟨_, rfl, _, rfl, D, _, _, y, rfl, rfl, hd5, Evl.ixN_nat (by rw [nB_len]; exact yl), ?_⟩
              rw [nB_set]
              have kp6 : ∀ x o, x ≠ D → G5 x = some o → upd G5 D (.lst (nB (fun j => if j = y then true else S2 j) n)) x = some o := fun x o n h => by rw [upd_ne n]; exact h
              have hd6 : upd G5 D (.lst (nB (fun j => if j = y then true else S2 j) n)) D = some (.lst (nB (fun j => if j = y then true else S2 j) n)) := upd_same
              have hl6 : ListN (upd G5 D (.lst (nB (fun j => if j = y then true else S2 j) n))) l line2 := kp6 _ _ lD hl5
              generalize upd G5 D (.lst (nB (fun j => if j = y then true else S2 j) n)) = G6 at kp6 hd6 hl6 ⊢
              refine ⟨_, rfl, .inl ⟨rfl, _, SqL.of hl6⟩, _, rfl, l, _, _, rfl, rfl, hl6, small1000 (by rw [nIl]; omega), ?_⟩
              refine ⟨_, line2 ++ [y], _, rfl, fun x o n1 n2 h => by rw [upd_ne n2]; exact kp6 _ _ n1 (kp5 _ _ n1 n2 h), by rw [upd_ne lD.symm]; exact hd6, ?_, ga2.add yin cy, ⟨ext ++ [y], by rw [ex, List.append_assoc]⟩, fun q z hq hz => ?_, by rw [upd_ne tl']; exact kp6 _ _ tD hT5⟩
              · show upd G6 l _ l = _
                rw [upd_same]
                exact congrArg (fun l => some (HO.lst l)) (List.map_append (f := fun x : Nat => V.int (x : Int)) (l₁ := line2) (l₂ := [y])).symm
              · by_cases e : q = m
                · rw [e, hy] at hz
                  rw [← Option.some.inj hz]
                  exact List.mem_append_right _ (List.mem_singleton.mpr rfl)
                · exact List.mem_append_left _ (mem q z (by omega) hz)
          · rintro σ G5 ⟨v7, line2, S2, rfl, kp5, hd5, hl5, ga2, ⟨ext, ex⟩, mem, hT5⟩
            refine ⟨_, _, line2, S2, rfl, kp5, hd5, hl5, ga2, by rw [ex]; exact List.mem_append_left _ im, fun q hq => ?_, by rw [ex, List.length_append]; omega⟩
            by_cases e : q = k0
            · subst e
              have e2 : gt line2 q = gt line q := by rw [ex, gt_app, if_pos kl]
              rw [e2, ← ey0, ← ey1]
              exact ⟨mem 0 y0 (by show 0 < 2; decide) rfl, mem 1 y1 (by show 1 < 2; decide) rfl⟩
            · have := dnk.mono (l2 := ext) (by omega) q (by omega)
              rw [← ex] at this
              exact this
        · rintro σ G3 ⟨v6, v7, line, S1, rfl, kp3, hd3, hl3, ga, im, dnk, kl⟩
          have ll : line.length ≤ n := Nat.le_trans (nd_len ga.nd ga.sub) (of.bl.recs_len hp)
          exact ⟨_, _, line, S1, rfl, kp3, hd3, hl3, ga, im, fun q hq => dnk q (by omega)⟩
      rintro σ G3 ⟨v6, v7, line, S1, rfl, kp3, hd3, hl3, ga, im, dnk⟩
      have pm := gather ok cr pa pb ga.nd ga.sub im dnk
      have pl := of.bl.recs_len hp
      have ll := pm.length_eq
      have ltn : ∀ x ∈ line, x < n := fun x hx => ltn x (ga.sub x hx)
      have gm : ∀ {j : Nat}, j < line.length → gt line j ∈ line := fun {j} h => by
        unfold gt
        rw [List.getD_eq_getElem?_getD, List.getElem?_eq_getElem h]
        exact List.getElem_mem h
      have ent := ent_is ok cr (by omega) pa pb pm
      have hl_3 := hl3
      have ha_3 : ListN G3 a R := kp3 _ _ aD al ha0
      have hb_3 : ListN G3 b S := kp3 _ _ bD bl hb0
      refine ⟨_, rfl, l, rfl, ⟨_, SqL.of hl_3⟩, fun Co hCo => ?_⟩
      refine lc_list (K := K) (a := l) (xs := nI line) (fun j G2 => Ex G3 G2 ∧ ∃ us : List Nat, ListN G2 Co us ∧ us.length = cntA R (line.take j)) ⟨Ex.new hCo, [], upd_same, rfl⟩ (fun j G2 _ q => SqL.of (q.1 _ _ hl_3)) ?_ ?_
      · rintro j x G2 hx ⟨e, us, hu, ul⟩
        obtain ⟨jl, rfl⟩ := natv hx
        have xl := ltn _ (gm jl)
        have ul2 : us.length ≤ 64 := by
          rw [ul]
          unfold cntA
          exact Nat.le_trans (List.length_filter_le ..) (by rw [List.length_take]; omega)
        refine ⟨rfl, _, rfl, _, rfl, a, _, _, _, rfl, rfl, SqL.of (e _ _ ha_3), atI_nat (atv (by omega)), _, rfl, rfl, _, rfl, ?_⟩
        by_cases c : gt R (gt line j) = gt line j
        · rw [c, decide_eq_true rfl]
          refine iteF ⟨e, us, hu, ?_⟩
          rw [cnt_step jl, if_neg (fun z => z c), ul]
          rfl
        · rw [decide_eq_false (show ¬ V.int ((gt R (gt line j) : Nat) : Int) = V.int ((gt line j : Nat) : Int) from fun z => by injection z with z; omega)]
          refine iteT ⟨_, rfl, _, hu, small1000 (by rw [nIl]; omega), fun x o ho => ?_, us ++ [gt line j], ?_, ?_⟩
          · rw [upd_ne (ne_of_none ho hCo)]
            exact e _ _ ho
          · show upd G2 Co _ Co = _
            rw [upd_same]
            exact congrArg (fun l => some (HO.lst l)) (List.map_append (f := fun x : Nat => V.int (x : Int)) (l₁ := us) (l₂ := [gt line j])).symm
          · rw [cnt_step jl, if_pos c, List.length_append, ul]
            rfl
      rintro Go ⟨eo, uso, huo, ulo⟩
      rw [nIl, List.take_length] at ulo
      refine ⟨Co, _, rfl, .inl (SqL.of huo), ?_⟩
      rw [nIl, ulo]
      have hl_4 : ListN Go l line := eo _ _ hl3
      have hb_4 : ListN Go b S := eo _ _ hb_3
      refine ⟨_, rfl, l, rfl, ⟨_, SqL.of hl_4⟩, fun Cw hCw => ?_⟩
      refine lc_list (K := K) (a := l) (xs := nI line) (fun j G2 => Ex Go G2 ∧ ∃ us : List Nat, ListN G2 Cw us ∧ us.length = cntA S (line.take j)) ⟨Ex.new hCw, [], upd_same, rfl⟩ (fun j G2 _ q => SqL.of (q.1 _ _ hl_4)) ?_ ?_
      · rintro j x G2 hx ⟨e, us, hu, ul⟩
        obtain ⟨jl, rfl⟩ := natv hx
        have xl := ltn _ (gm jl)
        have ul2 : us.length ≤ 64 := by
          rw [ul]
          unfold cntA
          exact Nat.le_trans (List.length_filter_le ..) (by rw [List.length_take]; omega)
        refine ⟨rfl, _, rfl, _, rfl, b, _, _, _, rfl, rfl, SqL.of (e _ _ hb_4), atI_nat (atv (by omega)), _, rfl, rfl, _, rfl, ?_⟩
        by_cases c : gt S (gt line j) = gt line j
        · rw [c, decide_eq_true rfl]
          refine iteF ⟨e, us, hu, ?_⟩
          rw [cnt_step jl, if_neg (fun z => z c), ul]
          rfl
        · rw [decide_eq_false (show ¬ V.int ((gt S (gt line j) : Nat) : Int) = V.int ((gt line j : Nat) : Int) from fun z => by injection z with z; omega)]
          refine iteT ⟨_, rfl, _, hu, small1000 (by rw [nIl]; omega), fun x o ho => ?_, us ++ [gt line j], ?_, ?_⟩
          · rw [upd_ne (ne_of_none ho hCw)]
            exact e _ _ ho
          · show upd G2 Cw _ Cw = _
            rw [upd_same]
            exact congrArg (fun l => some (HO.lst l)) (List.map_append (f := fun x : Nat => V.int (x : Int)) (l₁ := us) (l₂ := [gt line j])).symm
          · rw [cnt_step jl, if_pos c, List.length_append, ul]
            rfl
      rintro Gw ⟨ew, usw, huw, ulw⟩
      rw [nIl, List.take_length] at ulw
      refine ⟨Cw, _, rfl, .inl (SqL.of huw), ?_⟩
      rw [nIl, ulw]
      have e5 := eo.trans ew
      have hl_5 : ListN Gw l line := e5 _ _ hl3
      have hf5 : Gw f = some (.lst (ts.map V.ref)) := e5 _ _ (kp3 _ _ nDf.symm fl (kp0 _ _ nDf.symm hf1))
      have hd5 := e5 _ _ hd3
      have small : ts.length < 64 := by
        have h1 := (gs.add of.bl hp ga pm)
        have h2 := gs.nd
        have h3 : dn.length < ps.length := by
          have := nd_len h1.nd h1.sub
          rw [List.length_append] at this
          exact this
        have h4 := of.bl.ps_len
        omega
      have fin : ∀ t G6, Ex Gw G6 → Gw t = none → EntAt G6 t (entF (cntA R line) (cntA S line) line.length) → (fun i σ G => ∃ (v4 v5 v6 v7 v8 v9 : Option V) (S0 : Nat → Bool) (dn : List Pc) (ts : List Addr), σ = [some (.ref a), some (.ref b), some (.ref D), some (.ref f), v4, v5, v6, v7, v8, v9, none] ∧ (∀ x o, x ≠ D → x ≠ f → H2 x = some o → G x = some o) ∧ G D = some (.lst (nB S0 n)) ∧ Gs ps dn S0 ∧ (∀ x, x < i → S0 x = true) ∧ G f = some (.lst (ts.map V.ref)) ∧ ts.length = dn.length ∧ ∀ (j : Nat) (t : Addr) (p : Pc), ts[j]? = some t → dn[j]? = some p → EntAt G t (entD 0 p)) (i + 1) [some (.ref a), some (.ref b), some (.ref D), some (.ref f), some (.int (i : Int)), some (.ref l), v6, v7, some (.int (cntA R line : Nat)), some (.int (cntA S line : Nat)), none] (upd G6 f (.lst (ts.map V.ref ++ [V.ref t]))) := fun t G6 e6 ht en => by
        rw [ent] at en
        have tf : t ≠ f := fun z => by rw [z, hf5] at ht; cases ht
        have kf : ∀ x o, x ≠ f → G6 x = some o → upd G6 f (.lst (ts.map V.ref ++ [V.ref t])) x = some o := fun x o n h => by rw [upd_ne n]; exact h
        refine ⟨_, _, _, _, _, _, S1, dn ++ [p], ts ++ [t], rfl, fun x o n1 n2 h => kf _ _ n2 (e6 _ _ (e5 _ _ ?_)), kf _ _ nDf (e6 _ _ hd5), gs.add of.bl hp ga pm, fun x hx => ?_, by rw [upd_same, List.map_append]; rfl, by rw [List.length_append, List.length_append, tl]; rfl, fun j u q hu hq => ?_⟩
        · have h1 := kp1 x o n1 n2 h
          exact kp3 _ _ n1 (fl1 _ _ n1 h1) (kp0 _ _ n1 h1)
        · by_cases z : x = i
          · rw [z, ga.is, decide_eq_true im, Bool.or_true]
          · rw [ga.is, pre x (by omega), Bool.true_or]
        · have at2 : ∀ (j : Nat) (u : Addr) (q : Pc), ts[j]? = some u → dn[j]? = some q → EntAt (upd G6 f (.lst (ts.map V.ref ++ [V.ref t]))) u (entD 0 q) := fun j u q h1 h2 => by
            have h3 : G1 u = some _ := tat j u q h1 h2
            have uD : u ≠ D := fun z => by rw [z, hd1] at h3; cases h3
            have uf : u ≠ f := fun z => by rw [z, hf1] at h3; cases h3
            exact kf _ _ uf (e6 _ _ (e5 _ _ (kp3 _ _ uD (fl1 _ _ uD h3) (kp0 _ _ uD h3))))
          exact app_at (R := fun u q => EntAt (upd G6 f (.lst (ts.map V.ref ++ [V.ref t]))) u (entD 0 q)) tl at2 (kf _ _ tf en) j u q hu hq
      refine ⟨_, rfl, _, rfl, l, _, rfl, .inl (SqL.of hl_5), rfl, _, rfl, ?_⟩
      rw [nIl]
      have chain : ¬ (cntA R line = line.length ∧ cntA S line = line.length) → ∀ t, Gw t = none → EntAt (upd Gw t (.tup [V.str "chain", V.int ((line.length : Nat) : Int), V.int (((cntA S line : Nat) : Int) / 2 - ((cntA R line : Nat) : Int) / 2)])) t (entF (cntA R line) (cntA S line) line.length) := fun c t ht => by
        have e : entF (cntA R line) (cntA S line) line.length = (0, ((line.length : Nat) : Int), ((cntA S line : Nat) : Int) / 2 - ((cntA R line : Nat) : Int) / 2) := if_neg c
        rw [e]
        exact upd_same
      have ring : cntA R line = line.length ∧ cntA S line = line.length → ∀ t, Gw t = none → EntAt (upd Gw t (.tup [V.str "ring", V.int ((line.length : Nat) : Int), V.int 0])) t (entF (cntA R line) (cntA S line) line.length) := fun c t ht => by
        have e : entF (cntA R line) (cntA S line) line.length = (1, ((line.length : Nat) : Int), 0) := if_pos c
        rw [e]
        exact upd_same
      have put : ∀ t x, Gw t = none → EntAt (upd Gw t x) t (entF (cntA R line) (cntA S line) line.length) → ∃ l9 xs y, V.ref f = .ref l9 ∧ [V.ref t] = [y] ∧ upd Gw t x l9 = some (.lst xs) ∧ xs.length < sizeLine ∧ (fun i σ G => ∃ (v4 v5 v6 v7 v8 v9 : Option V) (S0 : Nat → Bool) (dn : List Pc) (ts : List Addr), σ = [some (.ref a), some (.ref b), some (.ref D), some (.ref f), v4, v5, v6, v7, v8, v9, none] ∧ (∀ x o, x ≠ D → x ≠ f → H2 x = some o → G x = some o) ∧ G D = some (.lst (nB S0 n)) ∧ Gs ps dn S0 ∧ (∀ x, x < i → S0 x = true) ∧ G f = some (.lst (ts.map V.ref)) ∧ ts.length = dn.length ∧ ∀ (j : Nat) (t : Addr) (p : Pc), ts[j]? = some t → dn[j]? = some p → EntAt G t (entD 0 p)) (i + 1) [some (.ref a), some (.ref b), some (.ref D), some (.ref f), some (.int (i : Int)), some (.ref l), v6, v7, some (.int (cntA R line : Nat)), some (.int (cntA S line : Nat)), none] (upd (upd Gw t x) l9 (.lst (xs ++ [y]))) := fun t x ht en =>
        ⟨f, _, _, rfl, rfl, (Ex.new ht) _ _ hf5, small1000 (by rw [List.length_map]; omega), fin t _ (Ex.new ht) ht en⟩
      by_cases c1 : cntA R line = line.length
      · rw [decide_eq_true (show V.int ((cntA R line : Nat) : Int) = V.int ((line.length : Nat) : Int) from by rw [c1])]
        refine iteT ⟨_, rfl, _, rfl, l, _, rfl, .inl (SqL.of hl_5), rfl, _, rfl, ?_⟩
        rw [nIl]
        by_cases c2 : cntA S line = line.length
        · rw [decide_eq_true (show V.int ((cntA S line : Nat) : Int) = V.int ((line.length : Nat) : Int) from by rw [c2])]
          refine iteT ⟨_, rfl, .inl ⟨rfl, _, SqL.of hf5⟩, _, rfl, l, _, rfl, .inl (SqL.of hl_5), (by show 3 ≤ sizeLine; decide), fun t ht => ?_⟩
          rw [nIl]
          exact put t _ ht (ring ⟨c1, c2⟩ t ht)
        · rw [decide_eq_false (show ¬ V.int ((cntA S line : Nat) : Int) = V.int ((line.length : Nat) : Int) from fun z => by injection z with z; omega)]
          refine iteF ⟨_, rfl, .inl ⟨rfl, _, SqL.of hf5⟩, _, rfl, l, _, rfl, .inl (SqL.of hl_5), _, rfl, _, _, rfl, rfl, wide_div (b := 60) (by omega) (by omega) (by decide) (by decide), _, rfl, _, _, rfl, rfl, wide_div (b := 60) (by omega) (by omega) (by decide) (by decide), _, _, rfl, rfl, (by show 3 ≤ sizeLine; decide), fun t ht => ?_⟩
          rw [nIl]
          exact put t _ ht (chain (fun z => c2 z.2) t ht)
      · rw [decide_eq_false (show ¬ V.int ((cntA R line : Nat) : Int) = V.int ((line.length : Nat) : Int) from fun z => by injection z with z; omega)]
        refine iteF (iteF ⟨_, rfl, .inl ⟨rfl, _, SqL.of hf5⟩, _, rfl, l, _, rfl, .inl (SqL.of hl_5), _, rfl, _, _, rfl, rfl, wide_div (b := 60) (by omega) (by omega) (by decide) (by decide), _, rfl, _, _, rfl, rfl, wide_div (b := 60) (by omega) (by omega) (by decide) (by decide), _, _, rfl, rfl, (by show 3 ≤ sizeLine; decide), fun t ht => ?_⟩)
        rw [nIl]
        exact put t _ ht (chain (fun z => c1 z.1) t ht)
    rintro σ G3 ⟨v4, v5, v6, v7, v8, v9, S0, dn, ts, rfl, kp1, hd1, gs, pre, hf1, tl, tat⟩
    have pm := gs.all of.bl pre
    have tat' : ∀ (j : Nat) (t : Addr) (e : Ent), ts[j]? = some t → (dn.map (entD 0))[j]? = some e → EntAt G3 t e := fun j t e h1 h2 => by
      rw [List.getElem?_map] at h2
      cases q : dn[j]? with
      | none => rw [q] at h2; cases h2
      | some p =>
        rw [q] at h2
        rw [← Option.some.inj h2]
        exact tat j t p h1 q
    obtain ⟨bs, ts', es', o1, o2, o3, o4, o5, pm2, srt, tl', at'⟩ := sortE (K := K) hf1 (by rw [List.length_map]; exact tl) tat' (fun e he => by
      obtain ⟨p, _, rfl⟩ := List.mem_map.mp he
      exact ent_lt)
    have eq : es' = es.map frG := sorted_one (pm2.trans (by rw [← of.ents]; exact pm.map _)) srt v.2
    refine ⟨_, rfl, f, bs, rfl, o1, o2, o3, o4, fun q hq => ?_⟩
    rw [o5]
    refine ⟨q, _, rfl, Or.inl ⟨SqL.of upd_same, fun u hu => ?_⟩⟩
    have e6 := (Ex.new (o := .lst (ts'.map V.ref)) hq).trans (Ex.new (o := .tup (ts'.map V.ref)) hu)
    have eX : Ex H G3 := fun x o h => kp1 _ _ (ne_of_none h fD) (ne_of_none h ff) (e2 _ _ h)
    refine k u _ (eX.trans e6) ⟨ts', upd_same, by rw [← eq]; exact tl', fun j t e h1 h2 => e6 _ _ (at' j t e h1 (by rw [eq]; exact h2))⟩

end

section
variable {P : Program} {w : World} {K : PySem.W.Frag} {mg : Str → Option Value} {base : Heap} {A : Ad}
theorem ok_law_state_right (T : Txt K mg A)  (g_law_whole : Okd P w K mg base CX0 1 A.law_whole P_law_whole spWl) : Okd P w K mg base CX0 2 A.law_state_right P_law_state_right spSt := by
  obtain ⟨fd, F⟩ := T.d_law_state_right
  obtain ⟨fd_law_whole, G_law_whole, b_law_whole⟩ := g_law_whole
  refine ⟨fd, F.ok sc_law_state_right (fun vs H Q E h => ?_) (fun cdv A' outer s H vs Q E hr h => ?_), F.binds fun _ _ _ _ _ _ us hl => match us, hl with | [_, _], _ => rfl⟩
  · obtain ⟨p, R, n, rfl, _⟩ := h
    rfl
  · obtain ⟨p, R, n, rfl, hp, st, n64, k⟩ := h
    refine ⟨_, (pss_cons (ps_if (PW.pt (pw_or (pt_not (pt_val (pe_callB call_isi (by rfl) T.n_isinstance (by decide +kernel) (pa_cons (pv 0) (pa_cons (pe_bltn (v := .ty "list") (u := .type "list") (by rfl) T.n_list (by decide +kernel) rfl) pa_nil))))) (pw_or1 (pt_cmpR op_ne (pe_callB call_len_seq (by rfl) T.n_len PySem.boot_len (pa_cons (pv 0) pa_nil)) (pv 1) (nomark _))))) (pss_one (ps_ret pe_bl)) pss_nil)
      (pss_cons (ps_for PassesOwn.never rfl (pi_range1 (by rfl) T.n_range (pa_cons (pv 1) pa_nil)) (pg_name (i := 2) sc_law_state_right.nd rfl (Or.inl rfl)) (pss_one (ps_if (PW.pt (pw_or (pt_not (pt_val (pe_call G_law_whole (hr.mono (by decide)) (by rfl) T.g_law_whole T.k_law_whole b_law_whole .nil pass0 (pa_cons (pe_ix ix_list (pv 0) (pv 2) (fun _ _ => rfl)) pa_nil)))) (pw_or1 (pt_not (pt_chain op_le op_lt pe_int (pe_ix ix_list (pv 0) (pv 2) (fun _ _ => rfl)) (pv 1)))))) (pss_one (ps_ret pe_bl)) pss_nil)))
      (pss_cons (ps_for PassesOwn.never rfl (pi_range1 (by rfl) T.n_range (pa_cons (pv 1) pa_nil)) (pg_name (i := 2) sc_law_state_right.nd rfl (Or.inl rfl)) (pss_one (ps_if (PW.pt (pw_or (pt_cmpR op_ne (pe_ix ix_list (pv 0) (pe_ix ix_list (pv 0) (pv 2) (fun _ _ => rfl)) (fun _ _ => rfl)) (pv 2) (nomark _)) (pw_or1 (PW.pt (pw_and (pt_cmpR op_ne (pe_ix ix_list (pv 0) (pv 2) (fun _ _ => rfl)) (pv 2) (nomark _)) (pw_and1 (pt_cmpR op_eq (pe_op op_mod (pe_callTy call_int1 (by rfl) T.n_int (by decide +kernel) (pa_cons (pe_op op_add (pv 2) (pe_ix ix_list (pv 0) (pv 2) (fun _ _ => rfl))) pa_nil)) pe_int) pe_int (nomark _)))))))) (pss_one (ps_ret pe_bl)) pss_nil)))
      (pss_one (ps_ret pe_bl))))), ?_⟩
    refine ⟨_, rfl, _, _, _, _, true, rfl, ClsV.ty "list", TyX.base (TyOf.lst hp), kit_ty (by decide +kernel), ?_⟩
    refine ⟨true, rfl, iteF ?_⟩
    refine ⟨_, rfl, p, _, rfl, .inl (SqL.of hp), _, rfl, rfl, _, rfl, ?_⟩
    rw [nIl, st.len, decide_eq_true rfl]
    refine iteF ⟨_, rfl, _, rfl, by omega, by omega, ?_⟩
    rw [Int.toNat_natCast]
    have rl := st.len
    have at_ : ∀ j, j < n → atI (nI R) (j : Int) = some (V.int ((gt R j : Nat) : Int)) := fun j h => atI_nat (atv (by omega))
    refine for_range (lo := 0) (n := n) (fun i σ G => ∃ v2, σ = [some (.ref p), some (.int (n : Int)), v2] ∧ G = H) ⟨none, rfl, rfl⟩ ?_ ?_
    · rintro i σ G hi ⟨v2, rfl, rfl⟩
      rw [Int.zero_add]
      have h1 := st.hi i hi
      refine ⟨_, rfl, _, rfl, p, _, _, _, rfl, rfl, SqL.of hp, at_ i hi, _, rfl, true, rfl, iteF ?_⟩
      refine ⟨_, rfl, _, rfl, p, _, _, _, rfl, rfl, SqL.of hp, at_ i hi, _, _, rfl, rfl, _, rfl, ?_⟩
      rw [decide_eq_true (show (0 : Int) ≤ ((gt R i : Nat) : Int) by omega)]
      refine iteT ⟨_, rfl, _, _, rfl, rfl, _, rfl, ?_⟩
      rw [decide_eq_true (show ((gt R i : Nat) : Int) < (n : Int) by omega)]
      exact iteF ⟨_, rfl, rfl⟩
    rintro σ G ⟨v2, rfl, rfl⟩
    refine ⟨_, rfl, _, rfl, by omega, by omega, ?_⟩
    rw [Int.toNat_natCast]
    refine for_range (lo := 0) (n := n) (fun i σ G' => ∃ v2, σ = [some (.ref p), some (.int (n : Int)), v2] ∧ G' = G) ⟨v2, rfl, rfl⟩ ?_ ?_
    · rintro i σ G hi ⟨v2, rfl, rfl⟩
      rw [Int.zero_add]
      have h1 := st.hi i hi
      have h2 := st.bk i hi
      have h3 := st.od i hi
      have h1 : gt R i < n := by omega
      rw [Nat.sub_zero, Nat.zero_add] at h2
      rw [Nat.zero_add] at h3
      refine ⟨_, rfl, _, rfl, _, rfl, p, _, _, _, rfl, rfl, SqL.of hp, at_ i hi, p, _, _, _, rfl, rfl, SqL.of hp, at_ _ h1, _, rfl, rfl, _, rfl, ?_⟩
      rw [h2, decide_eq_true rfl]
      refine iteF ?_
      refine ⟨_, rfl, _, rfl, p, _, _, _, rfl, rfl, SqL.of hp, at_ i hi, _, rfl, rfl, _, rfl, ?_⟩
      refine ite_b (fun c => ?_) (fun c => iteF ⟨_, rfl, rfl⟩)
      have ne : gt R i ≠ i := fun z => by
        rw [z, decide_eq_true rfl] at c
        cases c
      have od := h3 ne
      refine ⟨_, rfl, _, rfl, _, rfl, p, _, _, _, rfl, rfl, SqL.of hp, at_ i hi, _, _, rfl, rfl, Or.inl ⟨_, rfl, _, _, rfl, rfl, (by show (0 : Int) < 2; decide), rfl, _, rfl, ?_⟩⟩
      rw [decide_eq_false (show ¬ V.int (((i : Int) + ((gt R i : Nat) : Int)) % 2) = V.int 0 from fun z => by injection z with z; omega)]
      exact iteF ⟨_, rfl, rfl⟩
    rintro σ G ⟨v2, rfl, rfl⟩
    exact k

end

section
variable {P : Program} {w : World} {K : PySem.W.Frag} {mg : Str → Option Value} {base : Heap} {A : Ad}
theorem ok_law_met_kind (T : Txt K mg A)  (g_kind_clash : Okd P w K mg base (L2N.CX P w) 5 A.kind_clash P_kind_clash (spKc A)) (e_law_alone : Oke P w K mg base 1 A.law_alone P_law_alone (seAl A)) : Okd P w K mg base CX0 6 A.law_met_kind P_law_met_kind (spMk A) := by
  obtain ⟨fd, F⟩ := T.d_law_met_kind
  obtain ⟨fd_kind_clash, G_kind_clash, b_kind_clash⟩ := g_kind_clash
  obtain ⟨fde_law_alone, E_law_alone, eb_law_alone⟩ := e_law_alone
  refine ⟨fd, F.ok sc_law_met_kind (fun vs H Q E h => ?_) (fun cdv A' outer s H vs Q E hr h => ?_), F.binds fun _ _ _ _ _ _ us hl => match us, hl with | [_], _ => rfl⟩
  · obtain ⟨p, es, rfl, _⟩ := h
    rfl
  · obtain ⟨p, es, rfl, hp, few, ks, ku, kf⟩ := h
    refine ⟨_, (pss_one (L2N.ps_try_as (i := 1) rfl rfl sc_law_met_kind.nd rfl rfl ⟨rfl, by decide, .inl T.e_InvalidKind.g⟩ L2N.takes0N (fun W pn xe tk _ => (pss_one (ps_ret (pe_tup (pa_cons pe_str (pa_cons (pe_callS G_kind_clash (hr.mono (by decide)) rfl T.g_kind_clash T.k_kind_clash b_kind_clash (fun σ => L2N.passAt tk σ) (pa_cons (pv 0) pa_nil)) pa_nil)))))) (fun a oe cls d pn hz hf => (pss_one (ps_ret (pe_tup (pa_cons pe_str (pa_cons (HotE.pe_callE E_law_alone (L2H.roomH_mark (hr.mono (by decide)) _) (HotE.hotP_suite hz hf) (by rfl) T.g_law_alone T.k_law_alone eb_law_alone (passH0 (fun _ => E0)) (pa_cons (pv 1) pa_nil)) pa_nil)))))))), ?_⟩
    refine ⟨_, rfl, p, es, rfl, hp, few, fun v c H1 e1 => ⟨(by show 2 ≤ sizeLine; decide), fun t ht => ks v c t _ (e1.trans (Ex.new ht)) upd_same⟩, fun v c u H1 e1 C => ⟨(by show 2 ≤ sizeLine; decide), fun t ht => ku v c t u _ (e1.trans (Ex.new ht)) upd_same (C.ex (Ex.new ht))⟩, fun nv H1 e1 => ?_⟩
    refine ⟨true, T.e_InvalidKind.exm, fun _ a ha => ?_, fun q => nomatch q⟩
    exact ⟨_, rfl, rfl, rfl, rfl, (by show 2 ≤ sizeLine; decide), fun t ht => kf nv t _ (e1.trans (Ex.new ht)) upd_same⟩

end

section
variable {P : Program} {w : World} {K : PySem.W.Frag} {mg : Str → Option Value} {base : Heap} {A : Ad}
theorem ok_law_met_first (T : Txt K mg A)  (g_law_call : Okd P w K mg base (L2N.CX P w) 8 A.law_call P_law_call (spLc A)) (e_law_alone : Oke P w K mg base 1 A.law_alone P_law_alone (seAl A)) : Okd P w K mg base CX0 9 A.law_met_first P_law_met_first (spMf A) := by
  obtain ⟨fd, F⟩ := T.d_law_met_first
  obtain ⟨fd_law_call, G_law_call, b_law_call⟩ := g_law_call
  obtain ⟨fde_law_alone, E_law_alone, eb_law_alone⟩ := e_law_alone
  refine ⟨fd, F.ok sc_law_met_first (fun vs H Q E h => ?_) (fun cdv A' outer s H vs Q E hr h => ?_), F.binds fun _ _ _ _ _ _ us hl => match us, hl with | [_], _ => rfl⟩
  · obtain ⟨r, ps, ks, rfl, _⟩ := h
    rfl
  · obtain ⟨r, ps, ks, rfl, hrr, hk, hm, kt, kf⟩ := h
    refine ⟨_, (pss_one (L2N.ps_try_as (i := 1) rfl rfl sc_law_met_first.nd rfl rfl ⟨rfl, by decide, .inl T.e_InvalidKind.g⟩ L2N.takes0N (fun W pn xe tk _ => (pss_one (ps_ret (pe_tup (pa_cons pe_str (pa_cons (pe_callS G_law_call (hr.mono (by decide)) rfl T.g_law_call T.k_law_call b_law_call (fun σ => L2N.passAt tk σ) (pa_cons (pv 0) pa_nil)) pa_nil)))))) (fun a oe cls d pn hz hf => (pss_one (ps_ret (pe_tup (pa_cons pe_str (pa_cons (HotE.pe_callE E_law_alone (L2H.roomH_mark (hr.mono (by decide)) _) (HotE.hotP_suite hz hf) (by rfl) T.g_law_alone T.k_law_alone eb_law_alone (passH0 (fun _ => E0)) (pa_cons (pv 1) pa_nil)) pa_nil)))))))), ?_⟩
    refine ⟨_, rfl, r, ps, ks, rfl, hrr, hk, hm, fun v u H1 e1 a => ⟨(by show 2 ≤ sizeLine; decide), fun t ht => kt v t u _ (e1.trans (Ex.new ht)) upd_same (a.ex (Ex.new ht))⟩, fun nv H1 e1 => ?_⟩
    refine ⟨true, T.e_InvalidKind.exm, fun _ a ha => ?_, fun q => nomatch q⟩
    exact ⟨_, rfl, rfl, rfl, rfl, (by show 2 ≤ sizeLine; decide), fun t ht => kf nv t _ (e1.trans (Ex.new ht)) upd_same⟩

end

section
variable {P : Program} {w : World} {K : PySem.W.Frag} {mg : Str → Option Value} {base : Heap} {A : Ad}
def Okd_fc (P : Program) (w : World) (K : PySem.W.Frag) (mg : Str → Option Value) (base : Heap) (A : Ad) : Prop := FnR P w K mg base (L2N.CX P w) 7 A.first_clash (spFc A)
theorem ok_first_clash (T : Txt K mg A) (g_first_unsafe : Okd P w K mg base (L2N.CX P w) 3 A.first_unsafe P_first_unsafe (spFu A)) (g_kind_clash : Okd P w K mg base (L2N.CX P w) 5 A.kind_clash P_kind_clash (spKc A)) : Okd_fc P w K mg base A := by
  obtain ⟨fd, F⟩ := T.d_first_clash
  obtain ⟨fd_first_unsafe, G_first_unsafe, b_first_unsafe⟩ := g_first_unsafe
  obtain ⟨fd_kind_clash, G_kind_clash, b_kind_clash⟩ := g_kind_clash
  obtain ⟨oc, od, kV, doc, pm, an, cdv, ct, osl, rfl, lk, hcd⟩ := F.ex
  have run := StX.fn_star (CX := L2N.CX P w) (P := P) (w := w) (mg := mg) (base := base) (k := 6) (N := N_first_clash) (ps := []) (pv := "kinds") (sp := fun vs H Q E => ∃ (t : Addr) (ps : List Addr) (ks : List (List GE)), vs = [.ref t] ∧ H t = some (.tup (ps.map V.ref)) ∧ KsAt H ps ks ∧ ps.length ≤ 9 ∧
      ((∀ k ∈ ks, Valid k) → ∀ v H', Ex H H' → Ans A H' ks v → Q v H') ∧ ((¬ ∀ k ∈ ks, Valid k) → ∀ H', Ex H H' → E (.ref A.InvalidKind) none H')) lk hcd sc_first_clash StK.upN
    (fun us rest l1 => match us, l1, rest with | [], _, [] => rfl | [], _, _ :: _ => rfl) (fun A' outer s H vs Q E hr h => ?_)
  · rintro A' outer s H us vs Q E hr env rv ⟨ps, ks, rfl, hk, hl, kt, kf⟩
    refine run A' outer s H us _ Q E hr env rv ⟨[], ps.map V.ref, rfl, rfl, ?_, fun p hp => ?_⟩
    · rw [List.length_map]
      exact Nat.le_trans hl (by decide)
    · have e := Ex.new (o := .tup (ps.map V.ref)) hp
      exact ⟨p, ps, ks, rfl, upd_same, hk.ex e, hl, fun v u H' e' a => kt v u H' (e.trans e') a, fun v H' e' => kf v H' (e.trans e')⟩
  · obtain ⟨t, ps, ks, rfl, ht, hk, hl, kt, kf⟩ := h
    refine ⟨_, (pss_cons (ps_set (i := 1) sc_first_clash.nd rfl (Or.inl rfl) (pe_callS G_first_unsafe (hr.mono (by decide)) rfl T.g_first_unsafe T.k_first_unsafe b_first_unsafe (fun σ => L2N.passAt (L2N.takes_of rfl rfl rfl rfl) σ) (pa_cons (pv 0) pa_nil)))
      (pss_cons (ps_if (pt_cmpR op_isN (pv 1) pe_non (nomark _)) (pss_one (ps_ret pe_non)) pss_nil)
      (pss_one (ps_ret (pe_tup (pa_cons (pv 1) (pa_cons (pe_callS G_kind_clash (hr.mono (by decide)) rfl T.g_kind_clash T.k_kind_clash b_kind_clash (fun σ => L2N.passAt (L2N.takes_of rfl rfl rfl rfl) σ) (pa_cons (pe_ix ix_tup (pv 0) (pv 1) (fun _ _ => rfl)) pa_nil)) pa_nil))))))), ?_⟩
    refine ⟨_, rfl, t, ps, ks, rfl, ht, hk, hl, fun v u H1 e1 q => ?_, fun nv H' e => kf nv H' e⟩
    have kt := kt v
    rcases q with ⟨rfl, al⟩ | ⟨i, es, rfl, he, un, pre⟩
    · refine ⟨_, rfl, rfl, _, rfl, ?_⟩
      rw [decide_eq_true (rfl : V.non = V.non)]
      exact iteT (kt _ H1 e1 (.inl ⟨rfl, al⟩))
    · refine ⟨_, rfl, rfl, _, rfl, ?_⟩
      rw [decide_eq_false (show ¬ V.int (i : Int) = V.non from fun z => by cases z)]
      refine iteF ?_
      have il : i < ps.length := by have := (List.getElem?_eq_some_iff.mp he).1; have := hk.1; omega
      have hpi : ps[i]? = some ps[i] := List.getElem?_eq_getElem il
      obtain ⟨gp, few⟩ := hk.2 i _ es hpi he
      have vE := v es (List.mem_of_getElem? he)
      refine ⟨_, rfl, _, rfl, _, rfl, t, _, _, _, rfl, rfl, SqT.of (e1 _ _ ht), atR (i := i) hpi, _, es, rfl, gp.ex e1, few, (fun _ c => by rw [un] at c; cases c), fun _ _ u H2 e2 C => ⟨(by show 2 ≤ sizeLine; decide), fun t2 ht2 => ?_⟩, fun nv => absurd vE nv⟩
      have e3 := Ex.new (o := .tup [V.int (i : Int), V.ref u]) ht2
      exact kt _ _ ((e1.trans e2).trans e3) (.inr ⟨t2, u, i, es, rfl, upd_same, he, un, pre, C.ex e3⟩)
end

section
variable {P : Program} {w : World} {K : PySem.W.Frag} {mg : Str → Option Value} {base : Heap} {A : Ad}
theorem ok_law_call (T : Txt K mg A)   (G_first_clash : Okd_fc P w K mg base A) : Okd P w K mg base (L2N.CX P w) 8 A.law_call P_law_call (spLc A) := by
  obtain ⟨fd, F⟩ := T.d_law_call

  refine ⟨fd, F.okN sc_law_call (fun vs H Q E h => ?_) (fun cdv A' outer s H vs Q E hr h => ?_), F.binds fun _ _ _ _ _ _ us hl => match us, hl with | [_], _ => rfl⟩
  · obtain ⟨r, ps, ks, rfl, _⟩ := h
    rfl
  · obtain ⟨r, ps, ks, rfl, hrr, hk, hm, kt, kf⟩ := h
    refine ⟨_, (pss_cons (ps_if (pt_cmpR op_eq (pe_callB call_len_seq (by rfl) T.n_len PySem.boot_len (pa_cons (pv 0) pa_nil)) pe_int (nomark _)) (pss_one (ps_ret (StK.pe_callRS0 G_first_clash (hr.mono (by decide)) (by rfl) T.g_first_clash T.k_first_clash (fun σ => L2N.passAt (L2N.takes_of rfl rfl rfl rfl) σ)))) pss_nil)
      (pss_cons (ps_if (pt_cmpR op_eq (pe_callB call_len_seq (by rfl) T.n_len PySem.boot_len (pa_cons (pv 0) pa_nil)) pe_int (nomark _)) (pss_one (ps_ret (StK.pe_callRS G_first_clash (hr.mono (by decide)) (by rfl) T.g_first_clash T.k_first_clash (fun σ => L2N.passAt (L2N.takes_of rfl rfl rfl rfl) σ) (pa_cons (pe_ix ix_list (pv 0) pe_int (fun _ _ => rfl)) pa_nil)))) pss_nil)
      (pss_cons (ps_if (pt_cmpR op_eq (pe_callB call_len_seq (by rfl) T.n_len PySem.boot_len (pa_cons (pv 0) pa_nil)) pe_int (nomark _)) (pss_one (ps_ret (StK.pe_callRS G_first_clash (hr.mono (by decide)) (by rfl) T.g_first_clash T.k_first_clash (fun σ => L2N.passAt (L2N.takes_of rfl rfl rfl rfl) σ) (pa_cons (pe_ix ix_list (pv 0) pe_int (fun _ _ => rfl)) (pa_cons (pe_ix ix_list (pv 0) pe_int (fun _ _ => rfl)) pa_nil))))) pss_nil)
      (pss_cons (ps_if (pt_cmpR op_eq (pe_callB call_len_seq (by rfl) T.n_len PySem.boot_len (pa_cons (pv 0) pa_nil)) pe_int (nomark _)) (pss_one (ps_ret (StK.pe_callRS G_first_clash (hr.mono (by decide)) (by rfl) T.g_first_clash T.k_first_clash (fun σ => L2N.passAt (L2N.takes_of rfl rfl rfl rfl) σ) (pa_cons (pe_ix ix_list (pv 0) pe_int (fun _ _ => rfl)) (pa_cons (pe_ix ix_list (pv 0) pe_int (fun _ _ => rfl)) (pa_cons (pe_ix ix_list (pv 0) pe_int (fun _ _ => rfl)) pa_nil)))))) pss_nil)
      (pss_cons (ps_if (pt_cmpR op_eq (pe_callB call_len_seq (by rfl) T.n_len PySem.boot_len (pa_cons (pv 0) pa_nil)) pe_int (nomark _)) (pss_one (ps_ret (StK.pe_callRS G_first_clash (hr.mono (by decide)) (by rfl) T.g_first_clash T.k_first_clash (fun σ => L2N.passAt (L2N.takes_of rfl rfl rfl rfl) σ) (pa_cons (pe_ix ix_list (pv 0) pe_int (fun _ _ => rfl)) (pa_cons (pe_ix ix_list (pv 0) pe_int (fun _ _ => rfl)) (pa_cons (pe_ix ix_list (pv 0) pe_int (fun _ _ => rfl)) (pa_cons (pe_ix ix_list (pv 0) pe_int (fun _ _ => rfl)) pa_nil))))))) pss_nil)
      (pss_one (ps_ret (StK.pe_callRS G_first_clash (hr.mono (by decide)) (by rfl) T.g_first_clash T.k_first_clash (fun σ => L2N.passAt (L2N.takes_of rfl rfl rfl rfl) σ) (pa_cons (pe_ix ix_list (pv 0) pe_int (fun _ _ => rfl)) (pa_cons (pe_ix ix_list (pv 0) pe_int (fun _ _ => rfl)) (pa_cons (pe_ix ix_list (pv 0) pe_int (fun _ _ => rfl)) (pa_cons (pe_ix ix_list (pv 0) pe_int (fun _ _ => rfl)) (pa_cons (pe_ix ix_list (pv 0) pe_int (fun _ _ => rfl)) (pa_cons (pe_ix ix_list (pv 0) pe_int (fun _ _ => rfl)) pa_nil)))))))))))))), ?_⟩
    refine ⟨_, rfl, r, _, rfl, .inl (SqL.of hrr), rfl, _, rfl, ?_⟩
    by_cases c0 : ps.length = 0
    · rw [decide_eq_true (show V.int (((ps.map V.ref).length : Nat) : Int) = V.int 0 from by rw [List.length_map, c0]; rfl)]
      refine iteT ?_
      have eq : ps = [] := List.ext_getElem (by show ps.length = 0; omega) fun i h1 h2 => by
        match i, h1 with
        | i + 0, h1 => exact absurd h1 (by omega)
      exact ⟨ps, ks, (congrArg (List.map V.ref) eq).symm, hk, by omega, fun v u H' e a => kt v u H' e a, fun nv H' e => kf nv H' e⟩

    rw [decide_eq_false (show ¬ V.int (((ps.map V.ref).length : Nat) : Int) = V.int 0 from fun z => by rw [List.length_map] at z; injection z with z; omega)]
    refine iteF ?_
    refine ⟨_, rfl, r, _, rfl, .inl (SqL.of hrr), rfl, _, rfl, ?_⟩
    by_cases c1 : ps.length = 1
    · rw [decide_eq_true (show V.int (((ps.map V.ref).length : Nat) : Int) = V.int 1 from by rw [List.length_map, c1]; rfl)]
      refine iteT ?_
      have q0 : ps[0]? = some ps[0] := List.getElem?_eq_getElem (by omega)
      have eq : ps = [ps[0]] := List.ext_getElem (by show ps.length = 1; omega) fun i h1 h2 => by
        match i, h1 with
        | 0, _ => rfl
        | i + 1, h1 => exact absurd h1 (by omega)
      exact ⟨_, rfl, r, _, _, _, rfl, rfl, SqL.of hrr, atR (i := 0) q0, ps, ks, (congrArg (List.map V.ref) eq).symm, hk, by omega, fun v u H' e a => kt v u H' e a, fun nv H' e => kf nv H' e⟩

    rw [decide_eq_false (show ¬ V.int (((ps.map V.ref).length : Nat) : Int) = V.int 1 from fun z => by rw [List.length_map] at z; injection z with z; omega)]
    refine iteF ?_
    refine ⟨_, rfl, r, _, rfl, .inl (SqL.of hrr), rfl, _, rfl, ?_⟩
    by_cases c2 : ps.length = 2
    · rw [decide_eq_true (show V.int (((ps.map V.ref).length : Nat) : Int) = V.int 2 from by rw [List.length_map, c2]; rfl)]
      refine iteT ?_
      have q0 : ps[0]? = some ps[0] := List.getElem?_eq_getElem (by omega)
      have q1 : ps[1]? = some ps[1] := List.getElem?_eq_getElem (by omega)
      have eq : ps = [ps[0], ps[1]] := List.ext_getElem (by show ps.length = 2; omega) fun i h1 h2 => by
        match i, h1 with
        | 0, _ => rfl
        | 1, _ => rfl
        | i + 2, h1 => exact absurd h1 (by omega)
      exact ⟨_, rfl, r, _, _, _, rfl, rfl, SqL.of hrr, atR (i := 0) q0, _, rfl, r, _, _, _, rfl, rfl, SqL.of hrr, atR (i := 1) q1, ps, ks, (congrArg (List.map V.ref) eq).symm, hk, by omega, fun v u H' e a => kt v u H' e a, fun nv H' e => kf nv H' e⟩

    rw [decide_eq_false (show ¬ V.int (((ps.map V.ref).length : Nat) : Int) = V.int 2 from fun z => by rw [List.length_map] at z; injection z with z; omega)]
    refine iteF ?_
    refine ⟨_, rfl, r, _, rfl, .inl (SqL.of hrr), rfl, _, rfl, ?_⟩
    by_cases c3 : ps.length = 3
    · rw [decide_eq_true (show V.int (((ps.map V.ref).length : Nat) : Int) = V.int 3 from by rw [List.length_map, c3]; rfl)]
      refine iteT ?_
      have q0 : ps[0]? = some ps[0] := List.getElem?_eq_getElem (by omega)
      have q1 : ps[1]? = some ps[1] := List.getElem?_eq_getElem (by omega)
      have q2 : ps[2]? = some ps[2] := List.getElem?_eq_getElem (by omega)
      have eq : ps = [ps[0], ps[1], ps[2]] := List.ext_getElem (by show ps.length = 3; omega) fun i h1 h2 => by
        match i, h1 with
        | 0, _ => rfl
        | 1, _ => rfl
        | 2, _ => rfl
        | i + 3, h1 => exact absurd h1 (by omega)
      exact ⟨_, rfl, r, _, _, _, rfl, rfl, SqL.of hrr, atR (i := 0) q0, _, rfl, r, _, _, _, rfl, rfl, SqL.of hrr, atR (i := 1) q1, _, rfl, r, _, _, _, rfl, rfl, SqL.of hrr, atR (i := 2) q2, ps, ks, (congrArg (List.map V.ref) eq).symm, hk, by omega, fun v u H' e a => kt v u H' e a, fun nv H' e => kf nv H' e⟩

    rw [decide_eq_false (show ¬ V.int (((ps.map V.ref).length : Nat) : Int) = V.int 3 from fun z => by rw [List.length_map] at z; injection z with z; omega)]
    refine iteF ?_
    refine ⟨_, rfl, r, _, rfl, .inl (SqL.of hrr), rfl, _, rfl, ?_⟩
    by_cases c4 : ps.length = 4
    · rw [decide_eq_true (show V.int (((ps.map V.ref).length : Nat) : Int) = V.int 4 from by rw [List.length_map, c4]; rfl)]
      refine iteT ?_
      have q0 : ps[0]? = some ps[0] := List.getElem?_eq_getElem (by omega)
      have q1 : ps[1]? = some ps[1] := List.getElem?_eq_getElem (by omega)
      have q2 : ps[2]? = some ps[2] := List.getElem?_eq_getElem (by omega)
      have q3 : ps[3]? = some ps[3] := List.getElem?_eq_getElem (by omega)
      have eq : ps = [ps[0], ps[1], ps[2], ps[3]] := List.ext_getElem (by show ps.length = 4; omega) fun i h1 h2 => by
        match i, h1 with
        | 0, _ => rfl
        | 1, _ => rfl
        | 2, _ => rfl
        | 3, _ => rfl
        | i + 4, h1 => exact absurd h1 (by omega)
      exact ⟨_, rfl, r, _, _, _, rfl, rfl, SqL.of hrr, atR (i := 0) q0, _, rfl, r, _, _, _, rfl, rfl, SqL.of hrr, atR (i := 1) q1, _, rfl, r, _, _, _, rfl, rfl, SqL.of hrr, atR (i := 2) q2, _, rfl, r, _, _, _, rfl, rfl, SqL.of hrr, atR (i := 3) q3, ps, ks, (congrArg (List.map V.ref) eq).symm, hk, by omega, fun v u H' e a => kt v u H' e a, fun nv H' e => kf nv H' e⟩

    rw [decide_eq_false (show ¬ V.int (((ps.map V.ref).length : Nat) : Int) = V.int 4 from fun z => by rw [List.length_map] at z; injection z with z; omega)]
    refine iteF ?_
    have six : ps.length = 6 := by unfold Many at hm; omega
    have q0 : ps[0]? = some ps[0] := List.getElem?_eq_getElem (by omega)
    have q1 : ps[1]? = some ps[1] := List.getElem?_eq_getElem (by omega)
    have q2 : ps[2]? = some ps[2] := List.getElem?_eq_getElem (by omega)
    have q3 : ps[3]? = some ps[3] := List.getElem?_eq_getElem (by omega)
    have q4 : ps[4]? = some ps[4] := List.getElem?_eq_getElem (by omega)
    have q5 : ps[5]? = some ps[5] := List.getElem?_eq_getElem (by omega)
    have eq : ps = [ps[0], ps[1], ps[2], ps[3], ps[4], ps[5]] := List.ext_getElem (by show ps.length = 6; omega) fun i h1 h2 => by
      match i, h1 with
      | 0, _ => rfl
      | 1, _ => rfl
      | 2, _ => rfl
      | 3, _ => rfl
      | 4, _ => rfl
      | 5, _ => rfl
      | i + 6, h1 => exact absurd h1 (by omega)
    exact ⟨_, rfl, r, _, _, _, rfl, rfl, SqL.of hrr, atR (i := 0) q0, _, rfl, r, _, _, _, rfl, rfl, SqL.of hrr, atR (i := 1) q1, _, rfl, r, _, _, _, rfl, rfl, SqL.of hrr, atR (i := 2) q2, _, rfl, r, _, _, _, rfl, rfl, SqL.of hrr, atR (i := 3) q3, _, rfl, r, _, _, _, rfl, rfl, SqL.of hrr, atR (i := 4) q4, _, rfl, r, _, _, _, rfl, rfl, SqL.of hrr, atR (i := 5) q5, ps, ks, (congrArg (List.map V.ref) eq).symm, hk, by omega, fun v u H' e a => kt v u H' e a, fun nv H' e => kf nv H' e⟩

end

section
variable {P : Program} {w : World} {K : PySem.W.Frag} {mg : Str → Option Value} {base : Heap} {A : Ad}
theorem ok_kind_clash (T : Txt K mg A) (hS : ∀ H, Dp K H (.ref A.SAFE_KINDS) (.tuple (SAFE.map encK))) (g_check_kind : Okd P w K mg base (L2N.CX P w) 2 A.check_kind P_check_kind (spCk A)) (g_sample_rows : Okd P w K mg base (L2N.CX P w) 3 A.sample_rows P_sample_rows (spSr A)) (g_clash_between : Okd P w K mg base CX0 4 A.clash_between P_clash_between (spCb A)) (g_other_way : Okd P w K mg base CX0 2 A.other_way P_other_way spOt) (g_rest_after : Okd P w K mg base CX0 1 A.rest_after P_rest_after spRa) : Okd P w K mg base (L2N.CX P w) 5 A.kind_clash P_kind_clash (spKc A) := by
  obtain ⟨fd, F⟩ := T.d_kind_clash
  obtain ⟨fd_check_kind, G_check_kind, b_check_kind⟩ := g_check_kind
  obtain ⟨fd_sample_rows, G_sample_rows, b_sample_rows⟩ := g_sample_rows
  obtain ⟨fd_clash_between, G_clash_between, b_clash_between⟩ := g_clash_between
  obtain ⟨fd_other_way, G_other_way, b_other_way⟩ := g_other_way
  obtain ⟨fd_rest_after, G_rest_after, b_rest_after⟩ := g_rest_after
  refine ⟨fd, F.okN sc_kind_clash (fun vs H Q E h => ?_) (fun cdv A' outer s H vs Q E hr h => ?_), F.binds fun _ _ _ _ _ _ us hl => match us, hl with | [_], _ => rfl⟩
  · obtain ⟨p, es, rfl, _⟩ := h
    rfl
  · obtain ⟨p, es, rfl, hp, few, ks, ku, kf⟩ := h
    refine ⟨_, (pss_cons (ps_expr (pe_callS G_check_kind (hr.mono (by decide)) rfl T.g_check_kind T.k_check_kind b_check_kind (fun σ => L2N.passAt (L2N.takes_of rfl rfl rfl rfl) σ) (pa_cons (pv 0) pa_nil)))
      (pss_cons (ps_if (pt_cmpR (RvT.op_inT (units65R hr)) (pv 0) (pe_glob (v := .ref A.SAFE_KINDS) rfl T.g_SAFE_KINDS rfl) (by with_unfolding_all rfl)) (pss_one (ps_ret pe_non)) pss_nil)
      (pss_cons (ps_set (i := 1) sc_kind_clash.nd rfl (Or.inl rfl) (pe_callS G_sample_rows (hr.mono (by decide)) rfl T.g_sample_rows T.k_sample_rows b_sample_rows (fun σ => L2N.passAt (L2N.takes_of rfl rfl rfl rfl) σ) (pa_cons (pv 0) pa_nil)))
      (pss_cons (ps_if (pt_cmpR op_eq (pe_callB call_len_seq (by rfl) T.n_len PySem.boot_len (pa_cons (pv 0) pa_nil)) pe_int (nomark _)) (pss_one (ps_ret (pe_call G_clash_between (hr.mono (by decide)) (by rfl) T.g_clash_between T.k_clash_between b_clash_between .nil pass0 (pa_cons (pv 1) (pa_cons (pe_call G_other_way (hr.mono (by decide)) (by rfl) T.g_other_way T.k_other_way b_other_way .nil pass0 (pa_cons (pv 1) pa_nil)) pa_nil))))) pss_nil)
      (pss_one (ps_ret (pe_call G_clash_between (hr.mono (by decide)) (by rfl) T.g_clash_between T.k_clash_between b_clash_between .nil pass0 (pa_cons (pv 1) (pa_cons (pe_call G_rest_after (hr.mono (by decide)) (by rfl) T.g_rest_after T.k_rest_after b_rest_after .nil pass0 (pa_cons (pv 1) (pa_cons (pe_listRg (by rfl) (by rfl) T.n_list (prg_1 (by rfl) T.n_range (pe_ix ix_tup (pe_ix ix_tup (pv 0) pe_int (fun _ _ => rfl)) pe_int (fun _ _ => rfl)))) pa_nil))) pa_nil))))))))), ?_⟩
    refine ⟨_, rfl, p, es, rfl, hp, (by have := few.l; omega), fun v H1 e1 => ?_, fun nv H1 e1 => kf nv H1 e1⟩
    have ks := ks v
    have ku := ku v
    have hp1 := hp.ex e1
    refine ⟨_, rfl, encK es, _, dp_kind hp1, hS _, shaped_kind v.1, shaped_SAFE, _, rfl, ?_⟩
    rw [any_SAFE]
    cases c : safeB es with
    | true => exact iteT (ks c H1 e1)
    | false =>
      have ku := ku c
      refine iteF ?_
      have C := cla_K v c few.t
      refine ⟨_, rfl, p, es, rfl, hp1, (by have := few.l; omega), fun _ => few.t, fun _ t a b H2 ht ha hb e2 q0 qa qb => ?_, fun nv => absurd v nv⟩
      have hp2 := hp1.ex e2
      have e12 := e1.trans e2
      obtain ⟨ts, hts, tl, tat⟩ := id hp2
      have la : (rowG 0 0 (es.map frG)).length = totZ es := C.a.len
      have lb : (rowG 1 0 (es.map frG)).length = totZ es := C.b.len
      have t64 := few.t
      refine ⟨_, rfl, p, _, rfl, .inr (SqT.of hts), rfl, _, rfl, ?_⟩
      rw [List.length_map, tl]
      by_cases one : es.length = 1
      · rw [show decide (V.int ((es.length : Nat) : Int) = V.int 1) = true from by rw [one]; rfl]
        have n3 : 3 ≤ totZ es := by
          match es, one, v, c with
          | [e], _, v, c =>
            have := (unsafe_one v c).1
            show 3 ≤ nG (frG e) + 0
            omega
        refine iteT ⟨_, rfl, _, rfl, t, a, b, _, _, rfl, q0, qa, qb, by omega, by omega, by omega, (fun j hj => by have := C.a.hi j (by omega); show gt (rA es) j < _; omega), (fun j hj => by have := C.b.hi j (by omega); show gt (rB es) j < _; omega), fun u x y H3 hu e3 r0 rx ry => ?_⟩
        refine ⟨t, u, a, b, x, y, _, _, _, _, rfl, e3 _ _ q0, r0, e3 _ _ qa, e3 _ _ qb, rx, ry, by omega, (by show (mp _ _).length = _; rw [mp_len]), (by show (mp _ _).length = _; rw [mp_len]; omega), by omega, fun w u1 u2 p0 p1 p2 p3 p4 H4 e4 K => ku w H4 ((e12.trans e3).trans e4) ⟨u1, u2, p0, p1, p2, p3, p4, ?_⟩⟩
        unfold rsK rM rC rD
        rw [if_pos one, if_pos one]
        exact K
      · rw [show decide (V.int ((es.length : Nat) : Int) = V.int 1) = false from decide_eq_false fun z => by injection z with z; omega]
        refine iteF ?_
        obtain ⟨e, es', rfl⟩ : ∃ e es', es = e :: es' := by
          match es, c with
          | [], c => cases c
          | e :: es', _ => exact ⟨e, es', rfl⟩
        obtain ⟨t0, h0⟩ : ∃ t0, ts[0]? = some t0 := ⟨ts[0]'(by rw [tl, List.length_cons]; omega), List.getElem?_eq_getElem _⟩
        have g0 := tat 0 t0 e h0 rfl
        have e0 := v.1 e (List.mem_cons_self ..)
        have m2 := (gdE e0).n2
        have m2 : 2 ≤ e.2.1 := m2
        have mt : (e.2.1.toNat) ≤ totZ (e :: es') := by rw [totZ_cons]; omega
        refine ⟨_, rfl, _, rfl, _, rfl, p, _, _, _, rfl, rfl, SqT.of hts, atR (i := 0) h0, t0, _, _, _, rfl, rfl, SqT.of g0, atI_nat (j := 1) rfl, _, rfl, RgOk.of_le (by decide) (by omega) (by omega) (by omega), fun r hr => ?_⟩
        have er : rgV 0 e.2.1 = nI (List.range e.2.1.toNat) := by
          have q : e.2.1 = ((e.2.1.toNat : Nat) : Int) := by omega
          generalize e.2.1.toNat = k at q
          rw [q, rgV_map, List.map_map]
          rfl
        have e3 := Ex.new (o := .lst (rgV 0 e.2.1)) hr
        have lr : ListN (upd H2 r (.lst (rgV 0 e.2.1))) r (List.range e.2.1.toNat) := by
          show upd H2 r _ r = _
          rw [upd_same, er]
        generalize upd H2 r (.lst (rgV 0 e.2.1)) = H3 at e3 lr ⊢
        refine ⟨t, a, b, r, _, _, e.2.1.toNat, rfl, e3 _ _ q0, e3 _ _ qa, e3 _ _ qb, lr, by omega, by omega, by omega, fun u x H4 hu e4 r0 rx => ?_⟩
        have e34 := e3.trans e4
        refine ⟨t, u, a, b, x, x, _, _, _, _, rfl, e34 _ _ q0, r0, e34 _ _ qa, e34 _ _ qb, rx, rx, by omega, (by show (mp _ _).length = _; rw [mp_len]), (by show (mp _ _).length = _; rw [mp_len]), by omega, fun w u1 u2 p0 p1 p2 p3 p4 H5 e5 K => ku w H5 ((e12.trans e34).trans e5) ⟨u1, u2, p0, p1, p2, p3, p4, ?_⟩⟩
        unfold rsK rM rC rD
        rw [if_neg one, if_neg one]
        exact K

end

section
variable {P : Program} {w : World} {K : PySem.W.Frag} {mg : Str → Option Value} {base : Heap} {A : Ad}
theorem inV_ii (z x y : Int) : inV (V.int z) [V.int x, V.int y] = (decide (z = x) || decide (z = y)) := by
  show ((x == z) || ((y == z) || false)) = _
  rw [Bool.or_false, Bool.eq_iff_iff]
  simp only [Bool.or_eq_true, beq_iff_eq, decide_eq_true_eq]
  omega
theorem getD_at {xs : List Int} {i : Nat} {z : Int} (h : xs[i]? = some z) : xs.getD i 0 = z := by
  rw [List.getD_eq_getElem?_getD, h]
  rfl
theorem len_ne (a b : Nat) : (!decide (V.int (a : Int) = V.int (b : Int))) = !decide (a = b) := by
  rw [iq_]
  congr 1
  rw [Bool.eq_iff_iff, decide_eq_true_eq, decide_eq_true_eq]
  omega
theorem ok_is_torn (T : Txt K mg A)   : Okd P w K mg base CX0 1 A.is_torn P_is_torn spTo := by
  obtain ⟨fd, F⟩ := T.d_is_torn

  refine ⟨fd, F.ok sc_is_torn (fun vs H Q E h => ?_) (fun cdv A' outer s H vs Q E hr h => ?_), F.binds fun _ _ _ _ _ _ us hl => match us, hl with | [_, _], _ => rfl⟩
  · obtain ⟨t, a, b, m, xs, ys, ms, rfl, _⟩ := h
    rfl
  · obtain ⟨t, a, b, m, xs, ys, ms, rfl, ht, ha, hb, hm, lx, ly, lm, k⟩ := h
    refine ⟨_, (pss_cons (ps_asg (pv 0) (pg_tup (by rfl) (pgs_cons (pg_name (i := 2) sc_is_torn.nd rfl (Or.inl rfl)) (pgs_cons (pg_name (i := 3) sc_is_torn.nd rfl (Or.inl rfl)) pgs_nil))))
      (pss_cons (ps_if (PW.pt (pw_or (pt_cmpR op_ne (pe_callB call_len_seq (by rfl) T.n_len PySem.boot_len (pa_cons (pv 2) pa_nil)) (pe_callB call_len_seq (by rfl) T.n_len PySem.boot_len (pa_cons (pv 1) pa_nil)) (nomark _)) (pw_or1 (pt_cmpR op_ne (pe_callB call_len_seq (by rfl) T.n_len PySem.boot_len (pa_cons (pv 3) pa_nil)) (pe_callB call_len_seq (by rfl) T.n_len PySem.boot_len (pa_cons (pv 1) pa_nil)) (nomark _))))) (pss_one (ps_ret pe_bl)) pss_nil)
      (pss_one (ps_ret (pe_callB (cr_all (by rfl)) (by rfl) T.n_all (by decide +kernel) (pa_cons (pe_lc (own := [("name", 4), ("old", 6), ("new", 5)]) (g := gTup K 3 (gCons (gName 4) (gCons (gName 6) (gCons (gName 5) gNil)))) (tt := tYes) (by rfl) sc_is_torn.nd (RZ3.pi_zip3 (by rfl) T.n_zip (pa_cons (pv 1) (pa_cons (pv 2) (pa_cons (pv 3) pa_nil)))) (blkOk_by (own := [("name", 4), ("old", 6), ("new", 5)]) (N := N_is_torn) (sc := defScope s_is_torn) (by decide +kernel)) (fun _ _ _ _ _ => (pg_tup (by rfl) (pgs_cons (pg_name (i := 4) sc_is_torn.nd rfl (Or.inl rfl)) (pgs_cons (pg_name (i := 6) sc_is_torn.nd rfl (Or.inl rfl)) (pgs_cons (pg_name (i := 5) sc_is_torn.nd rfl (Or.inl rfl)) pgs_nil))))) (fun _ _ _ _ _ => pts_nil) (fun _ _ _ _ _ => (pe_cmpR (L2.op_inK (K := K) rfl) (pv 4) (pe_tup (pa_cons (pv 6) (pa_cons (pv 5) pa_nil))) (by with_unfolding_all rfl)))) pa_nil)))))), ?_⟩
    refine ⟨_, rfl, t, _, rfl, SqT.of ht, rfl, _, _, rfl, _, _, rfl, rfl, ?_⟩
    refine ⟨_, rfl, a, _, rfl, .inl (SqL.of ha), _, rfl, m, _, rfl, .inl (SqL.of hm), rfl, _, rfl, ?_⟩
    rw [List.length_map, List.length_map, len_ne]
    unfold tornF at k
    by_cases c1 : xs.length = ms.length
    rotate_left
    · rw [decide_eq_false c1] at k ⊢
      exact iteT (k H (Ex.refl H))
    rw [decide_eq_true c1] at k ⊢
    refine iteF ⟨_, rfl, b, _, rfl, .inl (SqL.of hb), _, rfl, m, _, rfl, .inl (SqL.of hm), rfl, _, rfl, ?_⟩
    rw [List.length_map, List.length_map, len_ne]
    by_cases c2 : ys.length = ms.length
    rotate_left
    · rw [decide_eq_false c2] at k ⊢
      exact iteT (k H (Ex.refl H))
    rw [decide_eq_true c2] at k ⊢
    refine iteF ?_
    refine ⟨_, rfl, _, rfl, _, rfl, m, a, b, _, _, _, rfl, SqL.of hm, SqL.of ha, SqL.of hb, fun D hD => ?_⟩
    refine lc_it (RZ3.walk_zip3 (by rw [List.length_map, List.length_map]; exact c1) (by rw [List.length_map, List.length_map]; exact c2)) (fun j G => Ex H G ∧ G D = some (.lst (((List.range j).map fun k => decide (ms.getD k 0 = xs.getD k 0) || decide (ms.getD k 0 = ys.getD k 0)).map V.bl))) ⟨Ex.new hD, upd_same⟩ (fun j G _ z => ⟨SqL.of (z.1 _ _ hm), SqL.of (z.1 _ _ ha), SqL.of (z.1 _ _ hb)⟩) ?_ ?_
    · rintro j x G G' hj ⟨e, hd⟩ ⟨T0, y1, y2, y3, rfl, hT, rfl, g1, g2, g3⟩
      obtain ⟨z1, w1, rfl⟩ := markV_int g1
      obtain ⟨z2, w2, rfl⟩ := markV_int g2
      obtain ⟨z3, w3, rfl⟩ := markV_int g3
      have nT : T0 ≠ D := fun z => by rw [z, hd] at hT; cases hT
      have eT := Ex.new (o := .tup [V.int z1, V.int z2, V.int z3]) hT
      refine ⟨T0, _, rfl, SqT.of upd_same, rfl, _, _, rfl, _, _, rfl, _, _, rfl, rfl, rfl, _, rfl, _, rfl, _, rfl, (by show 2 ≤ sizeLine; decide), fun q hq => ?_⟩
      have eQ := Ex.new (o := .tup [V.int z2, V.int z3]) hq
      have nq : q ≠ D := fun z => by rw [z, eT _ _ hd] at hq; cases hq
      refine ⟨q, _, rfl, .inr (SqT.of upd_same), rfl, rfl, ?_⟩
      rw [List.length_map] at hj
      refine ⟨_, eQ _ _ (eT _ _ hd), small1000 (by rw [List.length_map, List.length_map, List.length_range]; omega), fun x o ho => ?_, ?_⟩
      · rw [upd_ne (ne_of_none ho hD)]
        exact eQ _ _ (eT _ _ (e _ _ ho))
      · rw [upd_same, List.range_succ, List.map_append, List.map_append]
        show some (HO.lst (_ ++ [V.bl (inV (V.int z1) [V.int z2, V.int z3])])) = some (HO.lst (_ ++ [V.bl (decide (ms.getD j 0 = xs.getD j 0) || decide (ms.getD j 0 = ys.getD j 0))]))
        rw [inV_ii, getD_at w1, getD_at w2, getD_at w3]
    rintro G ⟨e, hd⟩
    rw [List.length_map] at hd
    refine ⟨D, _, rfl, SqL.of hd, ?_⟩
    have kk := k G e
    rw [List.all_map]
    exact kk

end

section
variable {P : Program} {w : World} {K : PySem.W.Frag} {mg : Str → Option Value} {base : Heap} {A : Ad}
theorem ok_clash_between (T : Txt K mg A)  (g_m_init : Okd P w K mg base CX0 2 A.m_init P_m_init (spIn A)) : Okd P w K mg base CX0 4 A.clash_between P_clash_between (spCb A) := by
  obtain ⟨fd, F⟩ := T.d_clash_between
  obtain ⟨fd_m_init, G_m_init, b_m_init⟩ := g_m_init
  refine ⟨fd, F.ok sc_clash_between (fun vs H Q E h => ?_) (fun cdv A' outer s H vs Q E hr h => ?_), F.binds fun _ _ _ _ _ _ us hl => match us, hl with | [_, _], _ => rfl⟩
  · obtain ⟨t1, t2, a, b, c, d, R, S, X, Y, rfl, _⟩ := h
    rfl
  · obtain ⟨t1, t2, a, b, c, d, R, S, X, Y, rfl, h1, h2, ha, hb, hc, hd, lS, lX, lY, h64, k⟩ := h
    refine ⟨_, (pss_cons (ps_set (i := 2) sc_clash_between.nd rfl (Or.inl rfl) (pe_lst pa_nil))
      (pss_cons (ps_for PassesOwn.never rfl (RZ4.pi_zip4 (by rfl) T.n_zip (pa_cons (pe_ix ix_tup (pv 0) pe_int (fun _ _ => rfl)) (pa_cons (pe_ix ix_tup (pv 0) pe_int (fun _ _ => rfl)) (pa_cons (pe_ix ix_tup (pv 1) pe_int (fun _ _ => rfl)) (pa_cons (pe_ix ix_tup (pv 1) pe_int (fun _ _ => rfl)) pa_nil))))) (pg_tup (by rfl) (pgs_cons (pg_name (i := 3) sc_clash_between.nd rfl (Or.inl rfl)) (pgs_cons (pg_name (i := 4) sc_clash_between.nd rfl (Or.inl rfl)) (pgs_cons (pg_name (i := 5) sc_clash_between.nd rfl (Or.inl rfl)) (pgs_cons (pg_name (i := 6) sc_clash_between.nd rfl (Or.inl rfl)) pgs_nil))))) (pss_one (ps_expr (pe_bm PySem.F.plainAttrs_list PySem.F.slot_list_append PySem.F.type_list_append mt_append (pv 2) (pa_cons (pe_ifExp (pt_cmpR op_in_seq (pv 3) (pe_tup (pa_cons (pv 5) (pa_cons (pv 6) pa_nil))) (by with_unfolding_all rfl)) (pv 3) (pv 4)) pa_nil)))))
      (pss_one (ps_ret (pe_make T.mkR G_m_init (hr.mono (by decide)) (by rfl) T.g_Clash b_m_init .nil pass0 (pa_cons (pv 0) (pa_cons (pv 1) (pa_cons (pv 2) pa_nil)))))))), ?_⟩
    refine ⟨(by show 0 ≤ sizeLine; decide), fun m hm => ?_⟩
    have e0 := Ex.new (o := .lst []) hm
    have hm1 : ListN (upd H m (.lst [])) m [] := upd_same
    generalize upd H m (.lst []) = H1 at e0 hm1 ⊢
    have XS : ∀ {G : Hp}, (∀ x o, x ≠ m → H1 x = some o → G x = some o) → ∀ x o, H x = some o → G x = some o := fun {G} kp x o h => kp x o (ne_of_none h hm) (e0 _ _ h)
    refine ⟨_, rfl, t1, _, _, _, rfl, rfl, SqT.of (e0 _ _ h1), atI_nat (j := 0) rfl, _, rfl, t1, _, _, _, rfl, rfl, SqT.of (e0 _ _ h1), atI_nat (j := 1) rfl, _, rfl, t2, _, _, _, rfl, rfl, SqT.of (e0 _ _ h2), atI_nat (j := 0) rfl, _, rfl, t2, _, _, _, rfl, rfl, SqT.of (e0 _ _ h2), atI_nat (j := 1) rfl, ?_⟩
    refine ⟨a, b, c, d, _, _, _, _, rfl, SqL.of (e0 _ _ ha), SqL.of (e0 _ _ hb), SqL.of (e0 _ _ hc), SqL.of (e0 _ _ hd), ?_⟩
    have na : a ≠ m := ne_of_none ha hm
    have nb : b ≠ m := ne_of_none hb hm
    have nc : c ≠ m := ne_of_none hc hm
    have nd : d ≠ m := ne_of_none hd hm
    refine for_it (RZ4.walk_zip4 (by rw [nIl, nIl]; exact lS) (by rw [nIl, nIl]; exact lX) (by rw [nIl, nIl]; exact lY)) (fun i σ G => ∃ v3 v4 v5 v6 : Option V, σ = [some (.ref t1), some (.ref t2), some (.ref m), v3, v4, v5, v6] ∧ (∀ x o, x ≠ m → H1 x = some o → G x = some o) ∧ ListN G m (mp (fun j => if gt R j = gt X j ∨ gt R j = gt Y j then gt R j else gt S j) i)) ⟨none, none, none, none, rfl, fun _ _ _ h => h, hm1⟩ (fun i σ G _ ⟨_, _, _, _, _, kp, _⟩ => ⟨SqL.of (kp _ _ na (e0 _ _ ha)), SqL.of (kp _ _ nb (e0 _ _ hb)), SqL.of (kp _ _ nc (e0 _ _ hc)), SqL.of (kp _ _ nd (e0 _ _ hd))⟩) ?_ ?_
    · rintro i x σ G G2 hi ⟨v3, v4, v5, v6, rfl, kp, lG⟩ ⟨T0, y1, y2, y3, y4, rfl, hT, rfl, g1, g2, g3, g4⟩
      obtain ⟨il, rfl⟩ := natv g1
      obtain ⟨_, rfl⟩ := natv g2
      obtain ⟨_, rfl⟩ := natv g3
      obtain ⟨_, rfl⟩ := natv g4
      have eT := Ex.new (o := .tup [V.int ((gt R i : Nat) : Int), V.int ((gt S i : Nat) : Int), V.int ((gt X i : Nat) : Int), V.int ((gt Y i : Nat) : Int)]) hT
      have lG2 : ListN (upd G T0 (.tup [V.int ((gt R i : Nat) : Int), V.int ((gt S i : Nat) : Int), V.int ((gt X i : Nat) : Int), V.int ((gt Y i : Nat) : Int)])) m (mp (fun j => if gt R j = gt X j ∨ gt R j = gt Y j then gt R j else gt S j) i) := eT _ _ lG
      refine ⟨T0, _, rfl, SqT.of upd_same, rfl, _, _, rfl, _, _, rfl, _, _, rfl, _, _, rfl, rfl, ?_⟩
      generalize upd G T0 (.tup [V.int ((gt R i : Nat) : Int), V.int ((gt S i : Nat) : Int), V.int ((gt X i : Nat) : Int), V.int ((gt Y i : Nat) : Int)]) = G3 at eT lG2 ⊢
      have nT : T0 ≠ m := fun z => by rw [z, lG] at hT; cases hT
      have kp3 : ∀ x o, x ≠ m → H1 x = some o → G3 x = some o := fun x o h1 h => eT _ _ (kp x o h1 h)
      refine ⟨_, rfl, .inl ⟨rfl, _, SqL.of lG2⟩, _, rfl, _, rfl, _, rfl, (by show 2 ≤ sizeLine; decide), fun q hq => ?_⟩
      have eQ := Ex.new (o := .tup [V.int ((gt X i : Nat) : Int), V.int ((gt Y i : Nat) : Int)]) hq
      have lQ : ListN (upd G3 q (.tup [V.int ((gt X i : Nat) : Int), V.int ((gt Y i : Nat) : Int)])) m (mp (fun j => if gt R j = gt X j ∨ gt R j = gt Y j then gt R j else gt S j) i) := eQ _ _ lG2
      refine ⟨q, _, rfl, .inr (SqT.of upd_same), rfl, rfl, _, rfl, ?_⟩
      generalize upd G3 q (.tup [V.int ((gt X i : Nat) : Int), V.int ((gt Y i : Nat) : Int)]) = G4 at eQ lQ ⊢
      rw [show (if false = true then !inV (V.int ((gt R i : Nat) : Int)) [V.int ((gt X i : Nat) : Int), V.int ((gt Y i : Nat) : Int)] else inV (V.int ((gt R i : Nat) : Int)) [V.int ((gt X i : Nat) : Int), V.int ((gt Y i : Nat) : Int)]) = (decide (((gt R i : Nat) : Int) = ((gt X i : Nat) : Int)) || decide (((gt R i : Nat) : Int) = ((gt Y i : Nat) : Int))) from (if_neg (by decide)).trans (inV_ii _ _ _)]
      have fin : ∀ v : Nat, v = (if gt R i = gt X i ∨ gt R i = gt Y i then gt R i else gt S i) → ∃ l xs y, V.ref m = .ref l ∧ [V.int (v : Int)] = [y] ∧ G4 l = some (.lst xs) ∧ xs.length < sizeLine ∧ ∃ u3 u4 u5 u6 : Option V, [some (V.ref t1), some (V.ref t2), some (V.ref m), some (V.int ((gt R i : Nat) : Int)), some (V.int ((gt S i : Nat) : Int)), some (V.int ((gt X i : Nat) : Int)), some (V.int ((gt Y i : Nat) : Int))] = [some (V.ref t1), some (V.ref t2), some (V.ref m), u3, u4, u5, u6] ∧ (∀ x o, x ≠ m → H1 x = some o → upd G4 l (.lst (xs ++ [y])) x = some o) ∧ ListN (upd G4 l (.lst (xs ++ [y]))) m (mp (fun j => if gt R j = gt X j ∨ gt R j = gt Y j then gt R j else gt S j) (i + 1)) := fun v hv => by
        refine ⟨m, _, _, rfl, rfl, lQ, small1000 (by rw [nIl, mp_len]; omega), _, _, _, _, rfl, fun x o n h => ?_, ?_⟩
        · rw [upd_ne n]
          exact eQ _ _ (kp3 x o n h)
        · show upd G4 m _ m = _
          rw [upd_same, hv]
          unfold mp nI
          rw [List.range_succ, List.map_append, List.map_append]
          rfl
      refine ite_b (fun c => ?_) (fun c => ?_)
      · refine ⟨_, rfl, fin _ (if_pos ?_).symm⟩
        rw [Bool.or_eq_true, decide_eq_true_eq, decide_eq_true_eq] at c
        omega
      · refine ⟨_, rfl, fin _ (if_neg ?_).symm⟩
        rw [Bool.or_eq_false_iff, decide_eq_false_iff_not, decide_eq_false_iff_not] at c
        omega
    · rintro σ G ⟨v3, v4, v5, v6, rfl, kp, lG⟩
      rw [nIl] at lG
      have XG := XS kp
      refine ⟨_, rfl, _, rfl, _, rfl, fun x dx hx hdx ndx => ?_⟩
      have eD := Ex.new (o := .own x) hdx
      have hx2 : upd G dx (.own x) x = none := by rw [upd_ne (Ne.symm ndx)]; exact hx
      have eX := eD.trans (Ex.new (o := .ins A.Clash dx []) hx2)
      have xat : upd (upd G dx (.own x)) x (.ins A.Clash dx []) x = some (.ins A.Clash dx []) := upd_same
      generalize upd (upd G dx (.own x)) x (.ins A.Clash dx []) = GX at eX xat ⊢
      have few : ∀ i, (g5 [zI R, zI S, zI X, zI Y, zI (imgR R S X Y)] i).length ≤ 70 := fun i => by
        match i with
        | 0 => show (zI R).length ≤ 70; rw [zI_len]; omega
        | 1 => show (zI S).length ≤ 70; rw [zI_len]; omega
        | 2 => show (zI X).length ≤ 70; rw [zI_len]; omega
        | 3 => show (zI Y).length ≤ 70; rw [zI_len]; omega
        | 4 => show (zI (mp _ R.length)).length ≤ 70; rw [zI_len, mp_len]; omega
        | i + 5 => show ([] : List Int).length ≤ 70; exact Nat.zero_le _
      refine ⟨x, dx, t1, t2, a, b, c, d, m, [zI R, zI S, zI X, zI Y, zI (imgR R S X Y)], rfl, xat, eX _ _ (XG _ _ h1), eX _ _ (XG _ _ h2), listNI.mp (eX _ _ (XG _ _ ha)), listNI.mp (eX _ _ (XG _ _ hb)), listNI.mp (eX _ _ (XG _ _ hc)), listNI.mp (eX _ _ (XG _ _ hd)), listNI.mp (eX _ _ lG), few, fun u1 u2 p0 p1 p2 p3 p4 HF new keep C => ⟨rfl, ?_⟩⟩
      refine k x u1 u2 p0 p1 p2 p3 p4 HF (fun y o h => keep _ _ (fun z => ?_) (eX _ _ (XG _ _ h))) C
      have := XG _ _ h
      rw [z, hx] at this
      cases this

end

section
variable {P : Program} {w : World} {K : PySem.W.Frag} {mg : Str → Option Value} {base : Heap} {A : Ad}
theorem ok_rest_after (T : Txt K mg A)   : Okd P w K mg base CX0 1 A.rest_after P_rest_after spRa := by
  obtain ⟨fd, F⟩ := T.d_rest_after

  refine ⟨fd, F.ok sc_rest_after (fun vs H Q E h => ?_) (fun cdv A' outer s H vs Q E hr h => ?_), F.binds fun _ _ _ _ _ _ us hl => match us, hl with | [_, _], _ => rfl⟩
  · obtain ⟨t, a, b, r, R, S, m, rfl, _⟩ := h
    rfl
  · obtain ⟨t, a, b, r, R, S, m, rfl, ht, ha, hb, hr0, l2, h64, m64, k⟩ := h
    refine ⟨_, (pss_cons (ps_asg (pv 0) (pg_tup (by rfl) (pgs_cons (pg_name (i := 2) sc_rest_after.nd rfl (Or.inl rfl)) (pgs_cons (pg_name (i := 3) sc_rest_after.nd rfl (Or.inr rfl)) pgs_nil))))
      (pss_cons (ps_setLc (i := 4) (own := [("record", 6), ("name", 5)]) (g := gTup K 2 (gCons (gName 6) (gCons (gName 5) gNil))) (tt := tYes) (by rfl) sc_rest_after.nd rfl rfl (sw_true rfl rfl rfl (by decide +kernel)) (pi_enum (by rfl) T.n_enumerate (pa_cons (pv 2) pa_nil)) (blkOk_by (own := [("record", 6), ("name", 5)]) (N := N_rest_after) (sc := defScope s_rest_after) (by decide +kernel)) (fun _ _ _ _ _ => (pg_tup (by rfl) (pgs_cons (pg_name (i := 6) sc_rest_after.nd rfl (Or.inl rfl)) (pgs_cons (pg_name (i := 5) sc_rest_after.nd rfl (Or.inl rfl)) pgs_nil)))) (fun _ _ _ _ _ => pts_nil) (fun _ _ _ _ _ => (pe_ifExp (pt_cmpR (L2.op_inK (K := K) rfl) (pv 6) (pv 1) (by with_unfolding_all rfl)) (pe_ix (ix_listK (K := K) rfl) (pv 3) (pv 6) (fun _ _ => rfl)) (pv 5))))
      (pss_one (ps_ret (pe_tup (pa_cons (pv 4) (pa_cons (pv 4) pa_nil))))))), ?_⟩
    refine ⟨_, rfl, t, _, rfl, SqT.of ht, rfl, _, _, rfl, _, _, rfl, rfl, ?_⟩
    refine ⟨_, rfl, a, _, rfl, SqL.of ha, fun D hD => ?_⟩
    refine lc_it walk_enum (fun i G => Ex H G ∧ ListN G D (mp (fun j => if j < m then gt S j else gt R j) i)) ⟨Ex.new hD, upd_same⟩ (fun i G _ z => SqL.of (z.1 _ _ ha)) ?_ ?_
    · rintro i x G G2 hi ⟨e, hd⟩ ⟨T0, y1, y2, rfl, hT, rfl, g1, g2⟩
      cases g1
      obtain ⟨il, rfl⟩ := natv g2
      have nDT : D ≠ T0 := ne_of_none hd hT
      have eT := Ex.new (o := .tup [V.int (i : Int), V.int ((gt R i : Nat) : Int)]) hT
      refine ⟨T0, _, rfl, SqT.of upd_same, rfl, _, _, rfl, _, _, rfl, rfl, rfl, _, rfl, _, rfl, r, _, rfl, .inl (SqL.of (eT _ _ (e _ _ hr0))), rfl, flat_nI _, ?_⟩
      have dT : ListN (upd G T0 (.tup [V.int (i : Int), V.int ((gt R i : Nat) : Int)])) D (mp (fun j => if j < m then gt S j else gt R j) i) := eT _ _ hd
      have bT := eT _ _ (e _ _ hb)
      have eT2 := e.trans eT
      generalize upd G T0 (.tup [V.int (i : Int), V.int ((gt R i : Nat) : Int)]) = G3 at eT dT bT eT2 ⊢
      have fin : ∀ v : Nat, v = (if i < m then gt S i else gt R i) → ∃ acc, G3 D = some (.lst acc) ∧ acc.length < sizeLine ∧ Ex H (upd G3 D (.lst (acc ++ [V.int (v : Int)]))) ∧ ListN (upd G3 D (.lst (acc ++ [V.int (v : Int)]))) D (mp (fun j => if j < m then gt S j else gt R j) (i + 1)) := fun v hv => by
        refine ⟨_, dT, small1000 (by rw [nIl, mp_len]; omega), fun x o ho => ?_, ?_⟩
        · rw [upd_ne (ne_of_none ho hD)]
          exact eT2 _ _ ho
        · show upd G3 D _ D = _
          rw [upd_same, hv]
          unfold mp nI
          rw [List.range_succ, List.map_append, List.map_append]
          rfl
      rw [show (if false = true then !inV (V.int (i : Int)) (nI (List.range m)) else inV (V.int (i : Int)) (nI (List.range m))) = decide (i < m) from by
        rw [if_neg (by decide), inV_nI, Bool.eq_iff_iff, List.contains_iff_mem, List.mem_range, decide_eq_true_eq]]
      refine ⟨_, rfl, ite_b (fun c => ?_) (fun c => ?_)⟩
      · have c := of_decide_eq_true c
        exact ⟨_, rfl, _, rfl, b, _, _, _, rfl, rfl, SqL.of bT, atI_nat (atv (by omega)), fin _ (if_pos c).symm⟩
      · have c := of_decide_eq_false c
        exact ⟨_, rfl, fin _ (if_neg c).symm⟩
    rintro G ⟨e, hd⟩
    rw [nIl] at hd
    refine ⟨_, rfl, _, rfl, (by show 2 ≤ sizeLine; decide), fun u hu => ?_⟩
    have eU := Ex.new (o := .tup [V.ref D, V.ref D]) hu
    exact k u D _ (back_none e hu) (e.trans eU) upd_same (eU _ _ hd)

end

section
variable {P : Program} {w : World} {K : PySem.W.Frag} {mg : Str → Option Value} {base : Heap} {A : Ad}
theorem rg_mp (st n : Nat) : rgV (st : Int) ((st : Int) + (n : Int)) = nI (mp (fun j => st + j) n) := by
  unfold rgV nI mp
  rw [show ((st : Int) + (n : Int) - (st : Int)).toNat = n by omega, List.map_map]
  rfl
theorem set_nI {R : List Nat} {i v : Nat} : (nI R).set i (V.int (v : Int)) = nI (R.set i v) := (List.map_set ..).symm
theorem set_at {R : List Nat} {i w : Nat} {v : V} (h : v = V.int (w : Int)) : (nI R).set i v = nI (R.set i w) := by
  rw [h]
  exact set_nI
/-- the pairs made so far -/
def pst (n sk m j : Nat) : Nat := if j < sk + 2 * m then stp sk 0 (n - 1) j else j
theorem pst_zero {n sk j : Nat} (h : sk < 2) : pst n sk 0 j = j := by
  unfold pst stp
  split
  · split
    · split <;> omega
    · split <;> omega
  · rfl
theorem pst_step {n sk m j st : Nat} (h : sk < 2) (hm : sk + 2 * m + 1 < n) (hj : j < n) : (if j = sk + 2 * m + 1 then st + (sk + 2 * m) else if j = sk + 2 * m then st + (sk + 2 * m) + 1 else st + pst n sk m j) = st + pst n sk (m + 1) j := by
  unfold pst stp
  by_cases c1 : j = sk + 2 * m + 1
  · rw [if_pos c1, if_pos (by omega), if_neg (by omega), if_pos (by omega)]
    omega
  · rw [if_neg c1]
    by_cases c2 : j = sk + 2 * m
    · rw [if_pos c2, if_pos (by omega), if_pos (by omega), if_pos (by omega)]
      omega
    · rw [if_neg c2]
      by_cases c3 : j < sk + 2 * m
      · rw [if_pos c3, if_pos (show j < sk + 2 * (m + 1) by omega)]
      · rw [if_neg c3, if_neg (show ¬ j < sk + 2 * (m + 1) by omega)]
theorem pst_end {n sk j : Nat} (h : sk < 2) (hj : j < n) : pst n sk ((n - sk) / 2) j = stp sk 0 (n - 1) j := by
  unfold pst
  split
  · rfl
  · unfold stp
    rw [if_pos (by omega), if_neg (by omega)]
theorem rg_two : ∀ sk, sk < 2 → ∀ n, n < 65 → 2 ≤ n → Builtin.Range.small ((sk : Nat) : Int) (((n : Nat) : Int) - 1) 2 = true ∧ Builtin.Range.rangeSize ((sk : Nat) : Int) (((n : Nat) : Int) - 1) 2 = (((n - sk) / 2 : Nat) : Int) := by decide +kernel
theorem ok_paired (T : Txt K mg A)   : Okd P w K mg base CX0 1 A.paired P_paired spPd := by
  obtain ⟨fd, F⟩ := T.d_paired

  refine ⟨fd, F.ok sc_paired (fun vs H Q E h => ?_) (fun cdv A' outer s H vs Q E hr h => ?_), F.binds fun _ _ _ _ _ _ us hl => match us, hl with | [_, _, _], _ => rfl⟩
  · obtain ⟨st, n, sk, rfl, _⟩ := h
    rfl
  · obtain ⟨st, n, sk, rfl, hsk, h2, h64, hst, k⟩ := h
    refine ⟨_, (pss_cons (ps_set (i := 3) sc_paired.nd rfl (Or.inl rfl) (pe_listRg (by rfl) (by rfl) T.n_list (prg_2 (by rfl) T.n_range (pv 0) (pe_op op_add (pv 0) (pv 1)))))
      (pss_cons (ps_for PassesOwn.never rfl (pi_range3 (by rfl) T.n_range (pa_cons (pv 2) (pa_cons (pe_op op_sub (pv 1) pe_int) (pa_cons pe_int pa_nil)))) (pg_name (i := 4) sc_paired.nd rfl (Or.inl rfl)) (pss_cons (ps_asg (pe_op op_add (pe_op op_add (pv 0) (pv 4)) pe_int) (pg_sub (pv 3) (pv 4) set_list))
      (pss_one (ps_asg (pe_op op_add (pv 0) (pv 4)) (pg_sub (pv 3) (pe_op op_add (pv 4) pe_int) set_list)))))
      (pss_one (ps_ret (pv 3))))), ?_⟩
    refine ⟨_, rfl, _, rfl, _, rfl, _, _, rfl, rfl, _, _, rfl, rfl, RgOk.of_le (by omega) (by omega) (by omega) (by omega), fun p hp => ?_⟩
    rw [rg_mp]
    have l0 : ListN (upd H p (.lst (nI (mp (fun j => st + j) n)))) p (mp (fun j => st + j) n) := upd_same
    have e0 := Ex.new (o := .lst (nI (mp (fun j => st + j) n))) hp
    generalize upd H p (.lst (nI (mp (fun j => st + j) n))) = H1 at l0 e0 ⊢
    obtain ⟨r1, r2⟩ := rg_two sk hsk n (by omega) h2
    refine ⟨_, rfl, _, rfl, _, _, rfl, rfl, (sk : Int), (n : Int) - 1, 2, (n - sk) / 2, rfl, ⟨by decide, by decide, r1, r2⟩, for_rangeC (fun m σ G => ∃ v4 : Option V, σ = [some (.int (st : Int)), some (.int (n : Int)), some (.int (sk : Int)), some (.ref p), v4] ∧ (∀ x o, x ≠ p → H1 x = some o → G x = some o) ∧ ListN G p (mp (fun j => st + pst n sk m j) n)) ⟨none, rfl, fun _ _ _ h => h, ?_⟩ ?_ ?_⟩
    · rw [show mp (fun j => st + pst n sk 0 j) n = mp (fun j => st + j) n from mp_congr fun j _ => by rw [pst_zero hsk]]
      exact l0
    · rintro m σ G hm ⟨v4, rfl, K1, lG⟩
      have m1 : sk + 2 * m + 1 < n := by omega
      rw [show (sk : Int) + (m : Int) * 2 = ((sk + 2 * m : Nat) : Int) by omega]
      refine ⟨_, rfl, _, rfl, _, _, rfl, rfl, _, _, rfl, rfl, _, rfl, _, rfl, p, _, _, sk + 2 * m, rfl, rfl, lG, Evl.ixN_nat (by rw [nI_len, mp_len]; omega), ?_⟩
      rw [set_at (w := st + (sk + 2 * m) + 1), mp_set]
      rotate_left
      · rfl
      have l1 : ListN (upd G p (.lst (nI (mp (fun j => if j = sk + 2 * m then st + (sk + 2 * m) + 1 else st + pst n sk m j) n)))) p (mp (fun j => if j = sk + 2 * m then st + (sk + 2 * m) + 1 else st + pst n sk m j) n) := upd_same
      have K2 : ∀ x o, x ≠ p → G x = some o → upd G p (.lst (nI (mp (fun j => if j = sk + 2 * m then st + (sk + 2 * m) + 1 else st + pst n sk m j) n))) x = some o := fun x o h1 h => by rw [upd_ne h1]; exact h
      generalize upd G p (.lst (nI (mp (fun j => if j = sk + 2 * m then st + (sk + 2 * m) + 1 else st + pst n sk m j) n))) = G2 at l1 K2 ⊢
      refine ⟨_, rfl, _, rfl, _, _, rfl, rfl, _, rfl, _, rfl, _, _, rfl, rfl, p, _, _, sk + 2 * m + 1, rfl, rfl, l1, Evl.ixN_nat (by rw [nI_len, mp_len]; omega), ?_⟩
      rw [set_at (w := st + (sk + 2 * m)), mp_set]
      rotate_left
      · rfl
      refine ⟨_, rfl, fun x o h1 h => by rw [upd_ne h1]; exact K2 x o h1 (K1 x o h1 h), ?_⟩
      show upd G2 p _ p = _
      rw [upd_same]
      exact congrArg (fun l => some (HO.lst (nI l))) (mp_congr fun j hj => pst_step hsk m1 hj)
    · rintro σ G ⟨v4, rfl, K1, lG⟩
      rw [show mp (fun j => st + pst n sk ((n - sk) / 2) j) n = mp (fun j => st + stp sk 0 (n - 1) j) n from mp_congr fun j hj => by rw [pst_end hsk hj]] at lG
      exact ⟨_, rfl, k p G hp (fun x o h => K1 x o (ne_of_none h hp) (e0 _ _ h)) lG⟩

end

section
variable {P : Program} {w : World} {K : PySem.W.Frag} {mg : Str → Option Value} {base : Heap} {A : Ad}
theorem ok_other_way (T : Txt K mg A)  (g_renamed : Okd P w K mg base CX0 1 A.renamed P_renamed spRn) : Okd P w K mg base CX0 2 A.other_way P_other_way spOt := by
  obtain ⟨fd, F⟩ := T.d_other_way
  obtain ⟨fd_renamed, G_renamed, b_renamed⟩ := g_renamed
  refine ⟨fd, F.ok sc_other_way (fun vs H Q E h => ?_) (fun cdv A' outer s H vs Q E hr h => ?_), F.binds fun _ _ _ _ _ _ us hl => match us, hl with | [_], _ => rfl⟩
  · obtain ⟨t, a, b, R, S, rfl, _⟩ := h
    rfl
  · obtain ⟨t, a, b, R, S, rfl, ht, ha, hb, l2, h3, h64, ltR, ltS, k⟩ := h
    refine ⟨_, (pss_cons (ps_asg (pv 0) (pg_tup (by rfl) (pgs_cons (pg_name (i := 1) sc_other_way.nd rfl (Or.inl rfl)) (pgs_cons (pg_name (i := 2) sc_other_way.nd rfl (Or.inl rfl)) pgs_nil))))
      (pss_cons (ps_set (i := 3) sc_other_way.nd rfl (Or.inl rfl) (pe_op op_cat (pe_lst (pa_cons pe_int (pa_cons pe_int (pa_cons pe_int pa_nil)))) (pe_listRg (by rfl) (by rfl) T.n_list (prg_2 (by rfl) T.n_range pe_int (pe_callB call_len_seq (by rfl) T.n_len PySem.boot_len (pa_cons (pv 1) pa_nil))))))
      (pss_one (ps_ret (pe_tup (pa_cons (pe_call G_renamed (hr.mono (by decide)) (by rfl) T.g_renamed T.k_renamed b_renamed .nil pass0 (pa_cons (pv 1) (pa_cons (pv 3) pa_nil))) (pa_cons (pe_call G_renamed (hr.mono (by decide)) (by rfl) T.g_renamed T.k_renamed b_renamed .nil pass0 (pa_cons (pv 2) (pa_cons (pv 3) pa_nil))) pa_nil))))))), ?_⟩
    refine ⟨_, rfl, t, _, rfl, SqT.of ht, rfl, _, _, rfl, _, _, rfl, rfl, ?_⟩
    refine ⟨(by show 3 ≤ sizeLine; decide), fun q hq => ?_⟩
    have e0 := Ex.new (o := .lst [V.int 2, V.int 1, V.int 0]) hq
    have hq1 : upd H q (.lst [V.int 2, V.int 1, V.int 0]) q = some (.lst [V.int 2, V.int 1, V.int 0]) := upd_same
    generalize upd H q (.lst [V.int 2, V.int 1, V.int 0]) = H1 at e0 hq1 ⊢
    refine ⟨_, rfl, a, _, rfl, .inl (SqL.of (e0 _ _ ha)), _, _, rfl, rfl, RgOk.of_le (by decide) (by rw [nIl]; omega) (by decide) (by rw [nIl]; omega), fun p hp => ?_⟩
    have lq : ListN (upd H1 p (.lst (rgV 3 (((nI R).length : Nat) : Int)))) p (mp (fun j => 3 + j) (R.length - 3)) := by
      show upd H1 p _ p = _
      rw [upd_same, nIl, show (((R.length : Nat) : Int)) = ((3 : Nat) : Int) + ((R.length - 3 : Nat) : Int) by omega]
      exact congrArg (fun l => some (HO.lst l)) (rg_mp 3 (R.length - 3))
    have e1 := Ex.new (o := .lst (rgV 3 (((nI R).length : Nat) : Int))) hp
    generalize upd H1 p (.lst (rgV 3 (((nI R).length : Nat) : Int))) = H2 at lq e1 ⊢
    refine ⟨q, p, _, _, rfl, rfl, e1 _ _ hq1, lq, (by show 3 + (nI _).length ≤ sizeLine; rw [nIl, mp_len]; exact Nat.le_trans (show 3 + (R.length - 3) ≤ 64 by omega) (by decide)), fun r hr => ?_⟩
    have eqN : [V.int 2, V.int 1, V.int 0] ++ nI (mp (fun j => 3 + j) (R.length - 3)) = nI (mp sw R.length) := by
      have e1 : nI [2, 1, 0] = [V.int 2, V.int 1, V.int 0] := rfl
      rw [← e1, cat_nI]
      refine congrArg nI (ext_gt (by rw [List.length_append, mp_len, mp_len]; show 3 + _ = _; omega) fun j hj => ?_)
      rw [List.length_append, mp_len] at hj
      have hj : j < 3 + (R.length - 3) := hj
      rw [gt_app, gt_mp (show j < R.length by omega)]
      show (if j < 3 then _ else gt _ (j - 3)) = _
      by_cases c : j < 3
      · rw [if_pos c]
        match j, c with
        | 0, _ => rfl
        | 1, _ => rfl
        | 2, _ => rfl
      · rw [if_neg c, gt_mp (by omega)]
        unfold sw
        rw [if_neg (by omega), if_neg (by omega)]
        omega
    have e3 := (e0.trans e1).trans (Ex.new (o := .lst ([V.int 2, V.int 1, V.int 0] ++ nI (mp (fun j => 3 + j) (R.length - 3)))) hr)
    have hr3 : ListN (upd H2 r (.lst ([V.int 2, V.int 1, V.int 0] ++ nI (mp (fun j => 3 + j) (R.length - 3))))) r (mp sw R.length) := by
      show upd H2 r _ r = _
      rw [upd_same, eqN]
    generalize upd H2 r (.lst ([V.int 2, V.int 1, V.int 0] ++ nI (mp (fun j => 3 + j) (R.length - 3)))) = H3 at e3 hr3 ⊢
    refine ⟨_, rfl, _, rfl, a, r, R, rfl, e3 _ _ ha, hr3, h3, h64, ltR, fun p1 H4 hp1 e4 l1 => ?_⟩
    refine ⟨_, rfl, _, rfl, b, r, S, rfl, e4 _ _ (e3 _ _ hb), by rw [l2]; exact e4 _ _ hr3, by omega, by omega, ltS, fun p2 H5 hp2 e5 l2' => ⟨(by show 2 ≤ sizeLine; decide), fun u hu => ?_⟩⟩
    have e6 := Ex.new (o := .tup [V.ref p1, V.ref p2]) hu
    have e35 := (e3.trans e4).trans e5
    exact k u p1 p2 _ (back_none e35 hu) (e35.trans e6) upd_same (e6 _ _ (e5 _ _ l1)) (e6 _ _ l2')

end

section
variable {P : Program} {w : World} {K : PySem.W.Frag} {mg : Str → Option Value} {base : Heap} {A : Ad}
theorem ok_renamed (T : Txt K mg A)   : Okd P w K mg base CX0 1 A.renamed P_renamed spRn := by
  obtain ⟨fd, F⟩ := T.d_renamed

  refine ⟨fd, F.ok sc_renamed (fun vs H Q E h => ?_) (fun cdv A' outer s H vs Q E hr h => ?_), F.binds fun _ _ _ _ _ _ us hl => match us, hl with | [_, _], _ => rfl⟩
  · obtain ⟨a, m, R, rfl, _⟩ := h
    rfl
  · obtain ⟨a, m, R, rfl, ha, hm, h3, h64, lt, k⟩ := h
    refine ⟨_, (pss_cons (ps_set (i := 2) sc_renamed.nd rfl (Or.inl rfl) (pe_callTy call_list_of (by rfl) T.n_list (by decide +kernel) (pa_cons (pv 0) pa_nil)))
      (pss_cons (ps_for PassesOwn.never rfl (pi_enum (by rfl) T.n_enumerate (pa_cons (pv 0) pa_nil)) (pg_tup (by rfl) (pgs_cons (pg_name (i := 3) sc_renamed.nd rfl (Or.inl rfl)) (pgs_cons (pg_name (i := 4) sc_renamed.nd rfl (Or.inl rfl)) pgs_nil))) (pss_one (ps_asg (pe_ix ix_list (pv 1) (pv 4) (fun _ _ => rfl)) (pg_sub (pv 2) (pe_ix ix_list (pv 1) (pv 3) (fun _ _ => rfl)) set_list))))
      (pss_one (ps_ret (pv 2))))), ?_⟩
    refine ⟨_, rfl, a, _, rfl, .inl (SqL.of ha), fun p hp => ?_⟩
    have e0 := Ex.new (o := .lst (nI R)) hp
    have l0 : ListN (upd H p (.lst (nI R))) p R := upd_same
    have nap : a ≠ p := ne_of_none ha hp
    have nmp : m ≠ p := ne_of_none hm hp
    generalize upd H p (.lst (nI R)) = H1 at e0 l0 ⊢
    refine ⟨_, rfl, a, _, rfl, SqL.of (e0 _ _ ha), for_it walk_enum (fun i σ G => ∃ v3 v4 : Option V, σ = [some (.ref a), some (.ref m), some (.ref p), v3, v4] ∧ (∀ x o, x ≠ p → H1 x = some o → G x = some o) ∧ ListN G p (mp (fun j => if sw j < i then sw (gt R (sw j)) else gt R j) R.length)) ⟨none, none, rfl, fun _ _ _ h => h, ?_⟩ (fun i σ G _ ⟨_, _, _, kp, _⟩ => SqL.of (kp _ _ nap (e0 _ _ ha))) ?_ ?_⟩
    · have : mp (fun j => if sw j < 0 then sw (gt R (sw j)) else gt R j) R.length = R := (mp_congr fun j _ => if_neg (Nat.not_lt_zero _)).trans (mp_eq rfl).symm
      rw [this]
      exact l0
    · rintro i x σ G G2 hi ⟨v3, v4, rfl, kp, lG⟩ ⟨T0, y1, y2, rfl, hT, rfl, g1, g2⟩
      cases g1
      obtain ⟨il, rfl⟩ := natv g2
      have vl := lt i il
      have eT := Ex.new (o := .tup [V.int (i : Int), V.int ((gt R i : Nat) : Int)]) hT
      have hm2 : ListN (upd G T0 (.tup [V.int (i : Int), V.int ((gt R i : Nat) : Int)])) m (mp sw R.length) := eT _ _ (kp _ _ nmp (e0 _ _ hm))
      have lG2 : ListN (upd G T0 (.tup [V.int (i : Int), V.int ((gt R i : Nat) : Int)])) p (mp (fun j => if sw j < i then sw (gt R (sw j)) else gt R j) R.length) := eT _ _ lG
      refine ⟨T0, _, rfl, SqT.of upd_same, rfl, _, _, rfl, _, _, rfl, rfl, ?_⟩
      generalize upd G T0 (.tup [V.int (i : Int), V.int ((gt R i : Nat) : Int)]) = G3 at eT hm2 lG2 ⊢
      have a1 : (nI (mp sw R.length))[gt R i]? = some (V.int ((sw (gt R i) : Nat) : Int)) := by rw [atv (by rw [mp_len]; exact vl), gt_mp vl]
      have a2 : (nI (mp sw R.length))[i]? = some (V.int ((sw i : Nat) : Int)) := by rw [atv (by rw [mp_len]; exact il), gt_mp il]
      refine ⟨_, rfl, _, rfl, m, _, _, _, rfl, rfl, SqL.of hm2, atI_nat a1, _, rfl, _, rfl, _, rfl, m, _, _, _, rfl, rfl, SqL.of hm2, atI_nat a2, p, _, _, sw i, rfl, rfl, lG2, Evl.ixN_nat (by rw [nIl, mp_len]; exact sw_lt h3 il), ?_⟩
      rw [set_at (w := sw (gt R i)), mp_set]
      rotate_left
      · rfl
      refine ⟨_, _, rfl, fun x o h1 h => by rw [upd_ne h1]; exact eT _ _ (kp x o h1 h), ?_⟩
      show upd G3 p _ p = _
      rw [upd_same]
      refine congrArg (fun l => some (HO.lst (nI l))) (mp_congr fun j hj => ?_)
      by_cases c : j = sw i
      · rw [if_pos c, c, sw_sw, if_pos (Nat.lt_succ_self i)]
      · rw [if_neg c]
        have ne : sw j ≠ i := fun z => c (by rw [← z, sw_sw])
        by_cases d : sw j < i
        · rw [if_pos d, if_pos (by omega)]
        · rw [if_neg d, if_neg (by omega)]
    · rintro σ G ⟨v3, v4, rfl, kp, lG⟩
      rw [nIl] at lG
      have e : mp (fun j => if sw j < R.length then sw (gt R (sw j)) else gt R j) R.length = swR R := mp_congr fun j hj => if_pos (sw_lt h3 hj)
      rw [e] at lG
      exact ⟨_, rfl, k p G hp (fun x o h => kp x o (ne_of_none h hp) (e0 _ _ h)) lG⟩

end

section
variable {P : Program} {w : World} {K : PySem.W.Frag} {mg : Str → Option Value} {base : Heap} {A : Ad}
def fstG (st : Nat) (e : Ent) : List Nat := mp (fun j => st + stp 0 0 (nG e - 1) j) (nG e)
def secG (st : Nat) (e : Ent) : List Nat := if e.1 = 1 then mp (fun j => if j = nG e - 1 then st else if j = 0 then st + nG e - 1 else st + stp 1 0 (nG e - 1) j) (nG e) else mp (fun j => st + stp 1 0 (nG e - 1) j) (nG e)
theorem blk_eq {st : Nat} {e : Ent} (g : GdE e) : blkG 0 st e = (if e.2.2 = 1 then secG st e else fstG st e) ∧ blkG 1 st e = (if e.2.2 = 1 then fstG st e else secG st e) := by
  have g2 := g.n2
  have gw := g.w
  have hn : 2 ≤ nG e := by unfold nG; omega
  by_cases r : e.1 = 1
  · obtain ⟨r1, r2, r3⟩ := g.ring r
    have n2 : nG e % 2 = 0 := by unfold nG; omega
    have s0 : sG e = 0 := if_neg (by omega)
    have w3 : wG e = 3 := if_neg (by omega)
    rw [if_neg (by omega), if_neg (by omega)]
    unfold blkG fstG secG
    rw [if_pos r, s0, w3]
    refine ⟨mp_congr fun j hj => ?_, mp_congr fun j hj => ?_⟩
    · show st + nb 0 3 (nG e) 0 j = st + stp 0 0 (nG e - 1) j
      rw [nb_cr (by decide)]
      unfold stp
      split
      · split <;> split <;> omega
      · split <;> split <;> omega
    · show st + nb 1 3 (nG e) 0 j = _
      rw [nb_cr (by decide)]
      unfold stp
      by_cases c1 : j = nG e - 1
      · rw [if_pos c1, if_pos (by omega), if_neg (by omega), if_pos rfl]
        rfl
      · rw [if_neg c1]
        by_cases c2 : j = 0
        · rw [if_pos c2, if_neg (by omega), if_neg (by omega), if_pos rfl]
          omega
        · rw [if_neg c2]
          split
          · split <;> split <;> omega
          · split <;> split <;> omega
  · have w2 : wG e = 2 := if_pos (by omega)
    unfold blkG fstG secG
    rw [if_neg r, w2]
    by_cases c : e.2.2 = 1
    · have s1 : sG e = 1 := if_pos c
      rw [if_pos c, if_pos c, s1]
      refine ⟨mp_congr fun j hj => ?_, mp_congr fun j hj => ?_⟩
      · show st + nb 0 2 (nG e) 1 j = st + stp 1 0 (nG e - 1) j
        rw [nb_cr (by decide), if_neg (show ¬ (2 : Nat) = 3 by decide), if_neg (show ¬ (2 : Nat) = 3 by decide)]
        unfold stp
        by_cases q : (0 + j) % 2 = 1
        · rw [if_pos q, if_pos (by omega)]
          split <;> split <;> omega
        · rw [if_neg q, if_neg (by omega)]
          split <;> split <;> omega
      · show st + nb 1 2 (nG e) 1 j = st + stp 0 0 (nG e - 1) j
        rw [nb_cr (by decide), if_neg (show ¬ (2 : Nat) = 3 by decide), if_neg (show ¬ (2 : Nat) = 3 by decide)]
        unfold stp
        by_cases q : (0 + j) % 2 = 0
        · rw [if_pos q, if_pos (by omega)]
          split <;> split <;> omega
        · rw [if_neg q, if_neg (by omega)]
          split <;> split <;> omega
    · have s1 : sG e = 0 := if_neg c
      rw [if_neg c, if_neg c, s1]
      refine ⟨mp_congr fun j hj => ?_, mp_congr fun j hj => ?_⟩
      · show st + nb 0 2 (nG e) 0 j = st + stp 0 0 (nG e - 1) j
        rw [nb_cr (by decide), if_neg (show ¬ (2 : Nat) = 3 by decide), if_neg (show ¬ (2 : Nat) = 3 by decide)]
        unfold stp
        split
        · split <;> split <;> omega
        · split <;> split <;> omega
      · show st + nb 1 2 (nG e) 0 j = st + stp 1 0 (nG e - 1) j
        rw [nb_cr (by decide), if_neg (show ¬ (2 : Nat) = 3 by decide), if_neg (show ¬ (2 : Nat) = 3 by decide)]
        unfold stp
        split
        · split <;> split <;> omega
        · split <;> split <;> omega
theorem rowG_snoc {r : Nat} {e : Ent} : ∀ {st : Nat} {es : List Ent}, rowG r st (es ++ [e]) = rowG r st es ++ blkG r (st + totG es) e
  | st, [] => by
    show blkG r st e ++ [] = [] ++ _
    rw [List.append_nil]
    rfl
  | st, d :: es => by
    show blkG r st d ++ rowG r (st + nG d) (es ++ [e]) = (blkG r st d ++ rowG r (st + nG d) es) ++ _
    rw [rowG_snoc, List.append_assoc]
    show _ = blkG r st d ++ (rowG r (st + nG d) es ++ blkG r (st + (nG d + totG es)) e)
    rw [Nat.add_assoc]
theorem totG_app : ∀ {es fs : List Ent}, totG (es ++ fs) = totG es + totG fs
  | [], fs => (Nat.zero_add _).symm
  | e :: es, fs => by
    show nG e + totG (es ++ fs) = nG e + totG es + totG fs
    rw [totG_app]
    omega
end

section
variable {P : Program} {w : World} {K : PySem.W.Frag} {mg : Str → Option Value} {base : Heap} {A : Ad}
theorem ok_sample_rows (T : Txt K mg A)  (g_check_kind : Okd P w K mg base (L2N.CX P w) 2 A.check_kind P_check_kind (spCk A)) (g_paired : Okd P w K mg base CX0 1 A.paired P_paired spPd) : Okd P w K mg base (L2N.CX P w) 3 A.sample_rows P_sample_rows (spSr A) := by
  obtain ⟨fd, F⟩ := T.d_sample_rows
  obtain ⟨fd_check_kind, G_check_kind, b_check_kind⟩ := g_check_kind
  obtain ⟨fd_paired, G_paired, b_paired⟩ := g_paired
  refine ⟨fd, F.okN sc_sample_rows (fun vs H Q E h => ?_) (fun cdv A' outer s H vs Q E hr h => ?_), F.binds fun _ _ _ _ _ _ us hl => match us, hl with | [_], _ => rfl⟩
  · obtain ⟨p, es, rfl, _⟩ := h
    rfl
  · obtain ⟨p, es, rfl, hp, hl, tot, kq, kr⟩ := h
    refine ⟨_, (pss_cons (ps_expr (pe_callS G_check_kind (hr.mono (by decide)) rfl T.g_check_kind T.k_check_kind b_check_kind (fun σ => L2N.passAt (L2N.takes_of rfl rfl rfl rfl) σ) (pa_cons (pv 0) pa_nil)))
      (pss_cons (ps_set (i := 1) sc_sample_rows.nd rfl (Or.inl rfl) (pe_lst pa_nil))
      (pss_cons (ps_set (i := 2) sc_sample_rows.nd rfl (Or.inl rfl) (pe_lst pa_nil))
      (pss_cons (ps_for (passes_of rfl) rfl (pi_tup (pv 0)) (pg_tup (by rfl) (pgs_cons (pg_name (i := 3) sc_sample_rows.nd rfl (Or.inl rfl)) (pgs_cons (pg_name (i := 4) sc_sample_rows.nd rfl (Or.inl rfl)) (pgs_cons (pg_name (i := 5) sc_sample_rows.nd rfl (Or.inl rfl)) pgs_nil)))) (pss_cons (ps_set (i := 6) sc_sample_rows.nd rfl (Or.inl rfl) (pe_callB call_len_seq (by rfl) T.n_len PySem.boot_len (pa_cons (pv 1) pa_nil)))
      (pss_cons (ps_set (i := 7) sc_sample_rows.nd rfl (Or.inl rfl) (pe_call G_paired (hr.mono (by decide)) (by rfl) T.g_paired T.k_paired b_paired .nil pass0 (pa_cons (pv 6) (pa_cons (pv 4) (pa_cons pe_int pa_nil)))))
      (pss_cons (ps_set (i := 8) sc_sample_rows.nd rfl (Or.inl rfl) (pe_call G_paired (hr.mono (by decide)) (by rfl) T.g_paired T.k_paired b_paired .nil pass0 (pa_cons (pv 6) (pa_cons (pv 4) (pa_cons pe_int pa_nil)))))
      (pss_cut (ps_if (pt_cmpR op_eq (pv 3) pe_str (nomark _)) (pss_cons (ps_asg (pe_op op_sub (pe_op op_add (pv 6) (pv 4)) pe_int) (pg_sub (pv 8) pe_int set_list))
      (pss_one (ps_asg (pv 6) (pg_sub (pv 8) (pe_un un_neg pe_int) set_list)))) pss_nil)
      (pss_cons (ps_expr (pe_bm PySem.F.plainAttrs_list PySem.F.slot_list_extend PySem.F.type_list_extend mt_extend (pv 1) (pa_cons (pe_ifExp (pt_cmpR op_eq (pv 5) pe_int (nomark _)) (pv 8) (pv 7)) pa_nil)))
      (pss_one (ps_expr (pe_bm PySem.F.plainAttrs_list PySem.F.slot_list_extend PySem.F.type_list_extend mt_extend (pv 2) (pa_cons (pe_ifExp (pt_cmpR op_eq (pv 5) pe_int (nomark _)) (pv 7) (pv 8)) pa_nil))))))))))
      (pss_one (ps_ret (pe_tup (pa_cons (pv 1) (pa_cons (pv 2) pa_nil))))))))), ?_⟩
    refine ⟨_, rfl, p, es, rfl, hp, hl, fun v H1 e1 => ?_, fun nv H' e => kr nv H' e⟩
    have kq := kq v
    have tot := tot v
    obtain ⟨ts, hts, tl, tat⟩ := hp
    have good := v.1
    have fl : (es.map frG).length = es.length := List.length_map ..
    have fat : ∀ (i : Nat) (t : Addr) (f : Ent), ts[i]? = some t → (es.map frG)[i]? = some f → EntAt H t f := fun i t f a b => by
      rw [List.getElem?_map] at b
      cases z : es[i]? with
      | none => rw [z] at b; cases b
      | some e =>
        rw [z] at b
        rw [← Option.some.inj b]
        exact gen_ent (good e (List.mem_of_getElem? z)) (tat i t e a z)
    have gd : ∀ f ∈ es.map frG, GdE f := fun f hf => by
      obtain ⟨e, he, rfl⟩ := List.mem_map.mp hf
      exact gdE (good e he)
    generalize es.map frG = fs at fl fat gd kq tot
    have ul : ts.length = fs.length := by omega
    have htsG := e1 _ _ hts
    refine ⟨(by show 0 ≤ sizeLine; decide), fun b hb => ?_⟩
    have lb0 : ListN (upd H1 b (.lst [])) b [] := upd_same
    have E1 := e1.trans (Ex.new (o := .lst []) hb)
    generalize upd H1 b (.lst []) = H2 at lb0 E1 ⊢
    refine ⟨(by show 0 ≤ sizeLine; decide), fun a ha => ?_⟩
    have la0 : ListN (upd H2 a (.lst [])) a [] := upd_same
    have nba : b ≠ a := ne_of_none (show H2 b = some _ from lb0) ha
    have lb1 := lb0.ex (Ex.new (o := .lst []) ha)
    have E2 := E1.trans (Ex.new (o := .lst []) ha)
    have fb : H b = none := back_none e1 hb
    have fa : H a = none := back_none E1 ha
    generalize upd H2 a (.lst []) = H3 at la0 lb1 E2 ⊢
    have npb : p ≠ b := ne_of_none hts fb
    have npa : p ≠ a := ne_of_none hts fa
    have hts3 := E2 _ _ hts
    refine ⟨_, rfl, p, rfl, ⟨_, SqT.of hts3⟩, for_tup (K := K) (a := p) (xs := ts.map V.ref) (fun j σ G => ∃ (v3 v4 v5 v6 v7 v8 : Option V), σ = [some (.ref p), some (.ref b), some (.ref a), v3, v4, v5, v6, v7, v8] ∧ (∀ x o, x ≠ b → x ≠ a → H3 x = some o → G x = some o) ∧ ListN G b (rowG 0 0 (fs.take j)) ∧ ListN G a (rowG 1 0 (fs.take j))) ⟨none, none, none, none, none, none, rfl, fun _ _ _ _ h => h, lb1, la0⟩ (fun j σ G _ ⟨_, _, _, _, _, _, _, K1, _⟩ => SqT.of (K1 _ _ npb npa hts3)) ?_ ?_⟩
    · rintro j x σ G hx ⟨v3, v4, v5, v6, v7, v8, rfl, K1, lbG, laG⟩
      obtain ⟨t1, ht1, rfl⟩ := ref_at hx
      have jl : j < fs.length := by have := (List.getElem?_eq_some_iff.mp ht1).1; omega
      have hf1 : fs[j]? = some fs[j] := List.getElem?_eq_getElem jl
      have E1' := (fat j _ _ ht1 hf1)
      have gf := gd _ (List.getElem_mem jl)
      have tk : fs.take (j + 1) = fs.take j ++ [fs[j]] := by rw [List.take_add_one, hf1]; rfl
      have sm : totG (fs.take j) + nG fs[j] ≤ totG fs := by
        have e : totG fs = totG (fs.take (j + 1)) + totG (fs.drop (j + 1)) := by rw [← totG_app, List.take_append_drop]
        rw [e, tk, totG_app]
        show _ ≤ totG (fs.take j) + (nG fs[j] + 0) + _
        omega
      have l0 : (rowG 0 0 (fs.take j)).length = totG (fs.take j) := rowG_len
      have l1 : (rowG 1 0 (fs.take j)).length = totG (fs.take j) := rowG_len
      rw [tk, rowG_snoc, rowG_snoc, Nat.zero_add]
      obtain ⟨q0, q1⟩ := blk_eq (st := totG (fs.take j)) gf
      rw [q0, q1]
      generalize rowG 0 0 (fs.take j) = R0 at lbG l0 ⊢
      generalize rowG 1 0 (fs.take j) = R1 at laG l1 ⊢
      generalize totG (fs.take j) = st at l0 l1 sm ⊢
      generalize fs[j] = f at E1' gf sm ⊢
      have fn := gf.n2
      have hn : f.2.1 = ((nG f : Nat) : Int) := by unfold nG; omega
      have fl1 : (fstG st f).length = nG f := mp_len
      have fl2 : (secG st f).length = nG f := by unfold secG; split <;> exact mp_len
      have nt1 : t1 ≠ b := ne_of_none E1' fb
      have nt2 : t1 ≠ a := ne_of_none E1' fa
      have EG := K1 _ _ nt1 nt2 (E2 _ _ E1')
      rw [hn] at EG
      refine ⟨t1, _, rfl, SqT.of EG, rfl, _, _, rfl, _, _, rfl, _, _, rfl, rfl, ?_⟩
      refine ⟨_, rfl, b, _, rfl, .inl lbG.sz, ?_⟩
      rw [nI_len, l0]
      refine ⟨_, rfl, _, rfl, st, nG f, 0, rfl, by decide, by omega, by omega, by omega, fun p1 G1 hp1 e1' l1' => ?_⟩
      refine ⟨_, rfl, _, rfl, st, nG f, 1, rfl, by decide, by omega, by omega, by omega, fun p2 G2 hp2 e2' l2' => ?_⟩
      have l1' : ListN G1 p1 (fstG st f) := l1'
      have n12 : p1 ≠ p2 := ne_of_none (show G1 p1 = some _ from l1') hp2
      have e02 := e1'.trans e2'
      have lb2 := lbG.ex e02
      have la2 := laG.ex e02
      have n1b : p1 ≠ b := fun z => by have h : G b = some _ := lbG; rw [← z, hp1] at h; cases h
      have n1a : p1 ≠ a := fun z => by have h : G a = some _ := laG; rw [← z, hp1] at h; cases h
      have n2b : p2 ≠ b := fun z => by have h : G1 b = some _ := lbG.ex e1'; rw [← z, hp2] at h; cases h
      have n2a : p2 ≠ a := fun z => by have h : G1 a = some _ := laG.ex e1'; rw [← z, hp2] at h; cases h
      have f2 : H3 p2 = none := by
        cases z : H3 p2 with
        | none => rfl
        | some o =>
          have := e1' _ _ (K1 _ _ n2b n2a z)
          rw [hp2] at this
          cases this
      have K2 : ∀ x o, x ≠ b → x ≠ a → H3 x = some o → G2 x = some o := fun x o h1 h2 h => e02 _ _ (K1 x o h1 h2 h)
      have f12 := l1'.ex e2'
      refine ⟨fun σ G' => σ = [some (.ref p), some (.ref b), some (.ref a), some (.str (wE f.1)), some (.int ((nG f : Nat) : Int)), some (.int f.2.2), some (.int (st : Int)), some (.ref p1), some (.ref p2)] ∧ (∀ x o, x ≠ b → x ≠ a → H3 x = some o → G' x = some o) ∧ ListN G' b R0 ∧ ListN G' a R1 ∧ ListN G' p1 (fstG st f) ∧ ListN G' p2 (secG st f), ?_, ?_⟩
      · refine ⟨_, rfl, rfl, _, rfl, ?_⟩
        rw [sq_]
        refine ite_b (fun c => ?_) (fun c => ?_)
        rotate_left
        · have nr : ¬ f.1 = 1 := fun z => by rw [z] at c; exact absurd rfl (of_decide_eq_false c)
          refine ⟨rfl, K2, lb2, la2, f12, ?_⟩
          unfold secG
          rw [if_neg nr]
          exact l2'
        have isr : f.1 = 1 := by
          have gw := gf.w
          by_cases z : f.1 = 0
          · rw [z] at c
            exact absurd (of_decide_eq_true c) (by decide +kernel)
          · omega
        refine ⟨_, rfl, _, rfl, _, _, rfl, rfl, _, _, rfl, rfl, _, rfl, p2, _, _, 0, rfl, rfl, l2', (by rw [nI_len, mp_len]; exact Evl.ixN_nat (j := 0) (by omega)), ?_⟩
        rw [set_at (w := st + nG f - 1), mp_set]
        rotate_left
        · show V.int ((st : Int) + ((nG f : Nat) : Int) - 1) = V.int ((st + nG f - 1 : Nat) : Int)
          exact congrArg V.int (by omega)
        have l3 : ListN (upd G2 p2 (.lst (nI (mp (fun j => if j = 0 then st + nG f - 1 else st + stp 1 0 (nG f - 1) j) (nG f))))) p2 (mp (fun j => if j = 0 then st + nG f - 1 else st + stp 1 0 (nG f - 1) j) (nG f)) := upd_same
        have K3 : ∀ x o, x ≠ p2 → G2 x = some o → upd G2 p2 (.lst (nI (mp (fun j => if j = 0 then st + nG f - 1 else st + stp 1 0 (nG f - 1) j) (nG f)))) x = some o := fun x o h1 h => by rw [upd_ne h1]; exact h
        generalize upd G2 p2 (.lst (nI (mp (fun j => if j = 0 then st + nG f - 1 else st + stp 1 0 (nG f - 1) j) (nG f)))) = G3 at l3 K3 ⊢
        refine ⟨_, rfl, _, rfl, _, rfl, p2, _, _, nG f - 1, rfl, rfl, l3, ?_, ?_⟩
        · rw [nI_len, mp_len]
          show ixN (nG f) (-1) = _
          unfold ixN
          rw [if_neg (by decide), if_pos (by omega)]
          exact congrArg some (by omega)
        rw [set_at (w := st), mp_set]
        rotate_left
        · rfl
        have K4 : ∀ x o, x ≠ p2 → G2 x = some o → upd G3 p2 (.lst (nI (mp (fun j => if j = nG f - 1 then st else if j = 0 then st + nG f - 1 else st + stp 1 0 (nG f - 1) j) (nG f)))) x = some o := fun x o h1 h => by rw [upd_ne h1]; exact K3 x o h1 h
        refine ⟨rfl, fun x o h1 h2 h => K4 _ _ (ne_of_none h f2) (K2 x o h1 h2 h), K4 _ _ (Ne.symm n2b) lb2, K4 _ _ (Ne.symm n2a) la2, K4 _ _ n12 f12, ?_⟩
        unfold secG
        rw [if_pos isr]
        exact upd_same
      rintro σ G' ⟨rfl, K3, lb3, la3, l13, l23⟩
      refine ⟨_, rfl, Or.inl ⟨rfl, _, lb3.sz⟩, _, rfl, rfl, _, rfl, ?_⟩
      rw [iq_]
      by_cases c : f.2.2 = 1
      · rw [decide_eq_true c, if_pos c, if_pos c]
        refine iteT ⟨_, rfl, b, p2, _, _, rfl, rfl, lb3, l23, (by rw [nI_len, nI_len, fl2, l0]; exact Nat.le_trans (by omega) (show 130 ≤ sizeLine by decide)), ?_⟩
        rw [cat_nI]
        have B4 : ListN (upd G' b (.lst (nI (R0 ++ secG st f)))) b (R0 ++ secG st f) := upd_same
        have K4 : ∀ x o, x ≠ b → G' x = some o → upd G' b (.lst (nI (R0 ++ secG st f))) x = some o := fun x o h1 h => by rw [upd_ne h1]; exact h
        generalize upd G' b (.lst (nI (R0 ++ secG st f))) = G4 at B4 K4 ⊢
        refine ⟨_, rfl, Or.inl ⟨rfl, _, (show ListN G4 a R1 from K4 _ _ (Ne.symm nba) la3).sz⟩, _, rfl, rfl, _, rfl, ?_⟩
        rw [iq_, decide_eq_true c]
        refine iteT ⟨_, rfl, a, p1, _, _, rfl, rfl, K4 _ _ (Ne.symm nba) la3, K4 _ _ n1b l13, (by rw [nI_len, nI_len, fl1, l1]; exact Nat.le_trans (by omega) (show 130 ≤ sizeLine by decide)), ?_⟩
        rw [cat_nI]
        refine ⟨_, _, _, _, _, _, rfl, fun x o h1 h2 h => by rw [upd_ne h2]; exact K4 _ _ h1 (K3 x o h1 h2 h), ?_, upd_same⟩
        show upd G4 a _ b = _
        rw [upd_ne nba]
        exact B4
      · rw [decide_eq_false c, if_neg c, if_neg c]
        refine iteF ⟨_, rfl, b, p1, _, _, rfl, rfl, lb3, l13, (by rw [nI_len, nI_len, fl1, l0]; exact Nat.le_trans (by omega) (show 130 ≤ sizeLine by decide)), ?_⟩
        rw [cat_nI]
        have B4 : ListN (upd G' b (.lst (nI (R0 ++ fstG st f)))) b (R0 ++ fstG st f) := upd_same
        have K4 : ∀ x o, x ≠ b → G' x = some o → upd G' b (.lst (nI (R0 ++ fstG st f))) x = some o := fun x o h1 h => by rw [upd_ne h1]; exact h
        generalize upd G' b (.lst (nI (R0 ++ fstG st f))) = G4 at B4 K4 ⊢
        refine ⟨_, rfl, Or.inl ⟨rfl, _, (show ListN G4 a R1 from K4 _ _ (Ne.symm nba) la3).sz⟩, _, rfl, rfl, _, rfl, ?_⟩
        rw [iq_, decide_eq_false c]
        refine iteF ⟨_, rfl, a, p2, _, _, rfl, rfl, K4 _ _ (Ne.symm nba) la3, K4 _ _ n2b l23, (by rw [nI_len, nI_len, fl2, l1]; exact Nat.le_trans (by omega) (show 130 ≤ sizeLine by decide)), ?_⟩
        rw [cat_nI]
        refine ⟨_, _, _, _, _, _, rfl, fun x o h1 h2 h => by rw [upd_ne h2]; exact K4 _ _ h1 (K3 x o h1 h2 h), ?_, upd_same⟩
        show upd G4 a _ b = _
        rw [upd_ne nba]
        exact B4
    rintro σ G ⟨v3, v4, v5, v6, v7, v8, rfl, K1, lbG, laG⟩
    have ltr : (ts.map V.ref).length = fs.length := by rw [List.length_map]; omega
    rw [ltr, List.take_length] at lbG laG
    refine ⟨_, rfl, _, rfl, (by show 2 ≤ sizeLine; decide), fun t ht => ?_⟩
    have eT := Ex.new (o := .tup [V.ref b, V.ref a]) ht
    have e0 : Ex H G := fun x o h => K1 x o (ne_of_none h fb) (ne_of_none h fa) (E2 x o h)
    exact kq t b a _ (back_none e0 ht) fb fa (e0.trans eT) upd_same (lbG.ex eT) (laG.ex eT)

end

section
variable {P : Program} {w : World} {K : PySem.W.Frag} {mg : Str → Option Value} {base : Heap} {A : Ad}
theorem rw_at {H : Hp} {p : Addr} {as : List Addr} {rs : List (List Int)} (R : RwA H p as rs) {i : Nat} (hi : i < 5) : ∃ a, as[i]? = some a ∧ ListI H a (g5 rs i) ∧ (g5 rs i).length ≤ 70 := by
  have L5 : as.length = 5 := R.2.1
  have R5 : rs.length = 5 := R.2.2.1
  have h1 : as[i]? = some as[i] := List.getElem?_eq_getElem (by omega)
  have h2 : rs[i]? = some rs[i] := List.getElem?_eq_getElem (by omega)
  have e : g5 rs i = rs[i] := by
    unfold g5
    rw [List.getD_eq_getElem?_getD, h2]
    rfl
  obtain ⟨q1, q2⟩ := R.2.2.2 i _ _ h1 h2
  exact ⟨_, h1, by rw [e]; exact q1, by rw [e]; exact q2⟩
theorem g5_eq {rs : List (List Int)} {i : Nat} {xs : List Int} (h : rs[i]? = some xs) : g5 rs i = xs := by
  unfold g5
  rw [List.getD_eq_getElem?_getD, h]
  rfl
theorem getI {xs : List Int} {i : Nat} (h : i < xs.length) : (xs.map V.int)[i]? = some (V.int (xs.getD i 0)) := by
  rw [List.getElem?_map, List.getElem?_eq_getElem h, List.getD_eq_getElem?_getD, List.getElem?_eq_getElem h]
  rfl
theorem int_ne (x y : Int) : (!decide (V.int x = V.int y)) = !decide (x = y) := by rw [iq_]
/-- the test at one place -/
def okAt (rs : List (List Int)) (k : Nat) : Bool := (decide ((g5 rs 4).getD k 0 = (g5 rs 0).getD k 0) || decide ((g5 rs 4).getD k 0 = (g5 rs 1).getD k 0)) && (decide ((g5 rs 4).getD k 0 = (g5 rs 2).getD k 0) || decide ((g5 rs 4).getD k 0 = (g5 rs 3).getD k 0))
theorem holds_parts (rs : List (List Int)) : holdsR rs = ((decide ((g5 rs 0).length = (g5 rs 4).length) && decide ((g5 rs 1).length = (g5 rs 4).length) && decide ((g5 rs 2).length = (g5 rs 4).length) && decide ((g5 rs 3).length = (g5 rs 4).length)) && (((List.range (g5 rs 4).length).all (okAt rs)) && (!decide (g5 rs 0 = g5 rs 2) && (!decide (g5 rs 0 = g5 rs 3) && (!decide (g5 rs 1 = g5 rs 2) && !decide (g5 rs 1 = g5 rs 3)))))) := by
  unfold holdsR holdsF tornF okAt
  have sp : ∀ (f g : Nat → Bool) (l : List Nat), l.all (fun k => f k && g k) = (l.all f && l.all g) := by
    intro f g l
    induction l with
    | nil => rfl
    | cons x xs ih =>
      simp only [List.all_cons, ih]
      cases f x <;> cases g x <;> cases xs.all f <;> cases xs.all g <;> rfl
  rw [sp]
  generalize (List.range (g5 rs 4).length).all _ = A1
  generalize (List.range (g5 rs 4).length).all _ = A2
  generalize (!decide (g5 rs 0 = g5 rs 2) && (!decide (g5 rs 0 = g5 rs 3) && (!decide (g5 rs 1 = g5 rs 2) && !decide (g5 rs 1 = g5 rs 3)))) = C
  generalize decide ((g5 rs 0).length = (g5 rs 4).length) = b0
  generalize decide ((g5 rs 1).length = (g5 rs 4).length) = b1
  generalize decide ((g5 rs 2).length = (g5 rs 4).length) = b2
  generalize decide ((g5 rs 3).length = (g5 rs 4).length) = b3
  cases b0 <;> cases b1 <;> cases b2 <;> cases b3 <;> cases A1 <;> cases A2 <;> cases C <;> rfl
theorem ok_law_holds (T : Txt K mg A)   : Okd P w K mg base CX0 1 A.law_holds P_law_holds spHo := by
  obtain ⟨fd, F⟩ := T.d_law_holds

  refine ⟨fd, F.ok sc_law_holds (fun vs H Q E h => ?_) (fun cdv A' outer s H vs Q E hr h => ?_), F.binds fun _ _ _ _ _ _ us hl => match us, hl with | [_], _ => rfl⟩
  · obtain ⟨p, as, rs, rfl, _⟩ := h
    rfl
  · obtain ⟨p, as, rs, rfl, R, k⟩ := h
    refine ⟨_, (pss_cons (ps_set (i := 1) sc_law_holds.nd rfl (Or.inl rfl) (pe_callB call_len_seq (by rfl) T.n_len PySem.boot_len (pa_cons (pe_ix ix_list (pv 0) pe_int (fun _ _ => rfl)) pa_nil)))
      (pss_cons (ps_for PassesOwn.never rfl (pi_list (pv 0)) (pg_name (i := 2) sc_law_holds.nd rfl (Or.inl rfl)) (pss_one (ps_if (pt_cmpR op_ne (pe_callB call_len_seq (by rfl) T.n_len PySem.boot_len (pa_cons (pv 2) pa_nil)) (pv 1) (nomark _)) (pss_one (ps_ret pe_bl)) pss_nil)))
      (pss_cons (ps_for PassesOwn.never rfl (pi_range1 (by rfl) T.n_range (pa_cons (pv 1) pa_nil)) (pg_name (i := 3) sc_law_holds.nd rfl (Or.inl rfl)) (pss_cut (ps_if (PW.pt (pw_and (pt_cmpR op_ne (pe_ix ix_list (pe_ix ix_list (pv 0) pe_int (fun _ _ => rfl)) (pv 3) (fun _ _ => rfl)) (pe_ix ix_list (pe_ix ix_list (pv 0) pe_int (fun _ _ => rfl)) (pv 3) (fun _ _ => rfl)) (nomark _)) (pw_and1 (pt_cmpR op_ne (pe_ix ix_list (pe_ix ix_list (pv 0) pe_int (fun _ _ => rfl)) (pv 3) (fun _ _ => rfl)) (pe_ix ix_list (pe_ix ix_list (pv 0) pe_int (fun _ _ => rfl)) (pv 3) (fun _ _ => rfl)) (nomark _))))) (pss_one (ps_ret pe_bl)) pss_nil)
      (pss_one (ps_if (PW.pt (pw_and (pt_cmpR op_ne (pe_ix ix_list (pe_ix ix_list (pv 0) pe_int (fun _ _ => rfl)) (pv 3) (fun _ _ => rfl)) (pe_ix ix_list (pe_ix ix_list (pv 0) pe_int (fun _ _ => rfl)) (pv 3) (fun _ _ => rfl)) (nomark _)) (pw_and1 (pt_cmpR op_ne (pe_ix ix_list (pe_ix ix_list (pv 0) pe_int (fun _ _ => rfl)) (pv 3) (fun _ _ => rfl)) (pe_ix ix_list (pe_ix ix_list (pv 0) pe_int (fun _ _ => rfl)) (pv 3) (fun _ _ => rfl)) (nomark _))))) (pss_one (ps_ret pe_bl)) pss_nil))))
      (pss_one (ps_ret (pe_and (pe_cmpR (op_neD hr.units) (pe_ix ix_list (pv 0) pe_int (fun _ _ => rfl)) (pe_ix ix_list (pv 0) pe_int (fun _ _ => rfl)) (nomark _)) (pe_and (pe_cmpR (op_neD hr.units) (pe_ix ix_list (pv 0) pe_int (fun _ _ => rfl)) (pe_ix ix_list (pv 0) pe_int (fun _ _ => rfl)) (nomark _)) (pe_and (pe_cmpR (op_neD hr.units) (pe_ix ix_list (pv 0) pe_int (fun _ _ => rfl)) (pe_ix ix_list (pv 0) pe_int (fun _ _ => rfl)) (nomark _)) (pe_one (pe_cmpR (op_neD hr.units) (pe_ix ix_list (pv 0) pe_int (fun _ _ => rfl)) (pe_ix ix_list (pv 0) pe_int (fun _ _ => rfl)) (nomark _))))))))))), ?_⟩
    obtain ⟨r0, a0, l0, f0⟩ := rw_at R (show 0 < 5 by decide)
    obtain ⟨r1, a1, l1, f1⟩ := rw_at R (show 1 < 5 by decide)
    obtain ⟨r2, a2, l2, f2⟩ := rw_at R (show 2 < 5 by decide)
    obtain ⟨r3, a3, l3, f3⟩ := rw_at R (show 3 < 5 by decide)
    obtain ⟨r4, a4, l4, f4⟩ := rw_at R (show 4 < 5 by decide)
    rw [holds_parts] at k
    refine ⟨_, rfl, p, _, _, _, rfl, rfl, SqL.of R.1, atR (i := 4) a4, r4, _, rfl, .inl (SqL.of l4), ?_⟩
    rw [List.length_map]
    have L5 : as.length = 5 := R.2.1
    have R5 : rs.length = 5 := R.2.2.1
    refine ⟨_, rfl, p, rfl, ⟨_, SqL.of R.1⟩, for_list (K := K) (a := p) (xs := as.map V.ref) (fun i σ G => ∃ v2 : Option V, σ = [some (.ref p), some (.int ((g5 rs 4).length : Nat)), v2, none] ∧ G = H ∧ ∀ j, j < i → (g5 rs j).length = (g5 rs 4).length) ⟨none, rfl, rfl, fun j h => absurd h (Nat.not_lt_zero j)⟩ (fun i σ G _ ⟨_, _, q, _⟩ => by rw [q]; exact SqL.of R.1) ?_ ?_⟩
    · rintro i x σ G hx ⟨v2, rfl, rfl, al⟩
      obtain ⟨a, ha, rfl⟩ := ref_at hx
      have il : i < 5 := by have := (List.getElem?_eq_some_iff.mp ha).1; omega
      obtain ⟨a', ha', la, fa⟩ := rw_at R il
      rw [ha] at ha'
      cases ha'
      refine ⟨_, rfl, a, _, rfl, .inl (SqL.of la), _, rfl, rfl, _, rfl, ?_⟩
      rw [List.length_map, len_ne]
      by_cases c : (g5 rs i).length = (g5 rs 4).length
      · rw [decide_eq_true c]
        refine iteF ⟨_, rfl, rfl, fun j hj => ?_⟩
        by_cases z : j = i
        · rw [z]; exact c
        · exact al j (by omega)
      · rw [decide_eq_false c]
        refine iteT ?_
        have z : (decide ((g5 rs 0).length = (g5 rs 4).length) && decide ((g5 rs 1).length = (g5 rs 4).length) && decide ((g5 rs 2).length = (g5 rs 4).length) && decide ((g5 rs 3).length = (g5 rs 4).length)) = false := by
          match i, il, c with
          | 0, _, c => rw [decide_eq_false c]; rfl
          | 1, _, c => rw [decide_eq_false c, Bool.and_false]; rfl
          | 2, _, c => rw [decide_eq_false c, Bool.and_false]; rfl
          | 3, _, c => rw [decide_eq_false c, Bool.and_false]
          | 4, _, c => exact absurd rfl c
        rw [z, Bool.false_and] at k
        exact k
    rintro σ G ⟨v2, rfl, rfl, al⟩
    rw [List.length_map, L5] at al
    have e0 := al 0 (by decide)
    have e1 := al 1 (by decide)
    have e2 := al 2 (by decide)
    have e3 := al 3 (by decide)
    rw [decide_eq_true e0, decide_eq_true e1, decide_eq_true e2, decide_eq_true e3, Bool.true_and, Bool.true_and, Bool.true_and, Bool.true_and] at k
    refine ⟨_, rfl, _, rfl, by omega, by omega, ?_⟩
    rw [Int.toNat_natCast]
    refine for_range (lo := 0) (n := (g5 rs 4).length) (fun i σ G' => ∃ v2 v3 : Option V, σ = [some (.ref p), some (.int ((g5 rs 4).length : Nat)), v2, v3] ∧ G' = G ∧ ∀ j, j < i → okAt rs j = true) ⟨v2, none, rfl, rfl, fun j h => absurd h (Nat.not_lt_zero j)⟩ ?_ ?_
    · rintro i σ G' hi ⟨w2, w3, rfl, rfl, al2⟩
      rw [Int.zero_add]
      have bad : okAt rs i = false → Q (.bl false) G' := fun h => by
        have z : (List.range (g5 rs 4).length).all (okAt rs) = false := by
          cases q : (List.range (g5 rs 4).length).all (okAt rs) with
          | false => rfl
          | true =>
            have := List.all_eq_true.mp q i (List.mem_range.mpr hi)
            rw [h] at this
            cases this
        rw [z, Bool.false_and] at k
        exact k
      have good : okAt rs i = true → ∃ v2 v3 : Option V, [some (V.ref p), some (.int ((g5 rs 4).length : Nat)), w2, some (V.int (i : Int))] = [some (.ref p), some (.int ((g5 rs 4).length : Nat)), v2, v3] ∧ G' = G' ∧ ∀ j, j < i + 1 → okAt rs j = true := fun h => ⟨_, _, rfl, rfl, fun j hj => by
        by_cases z : j = i
        · rw [z]; exact h
        · exact al2 j (by omega)⟩
      unfold okAt at bad good
      refine ⟨fun σ G2 => σ = [some (.ref p), some (.int ((g5 rs 4).length : Nat)), w2, some (.int (i : Int))] ∧ G2 = G' ∧ (decide ((g5 rs 4).getD i 0 = (g5 rs 0).getD i 0) || decide ((g5 rs 4).getD i 0 = (g5 rs 1).getD i 0)) = true, ?_, ?_⟩
      · refine ⟨_, rfl, p, _, _, _, rfl, rfl, SqL.of R.1, atR (i := 4) a4, _, rfl, r4, _, _, _, rfl, rfl, SqL.of l4, atI_nat (getI (by omega)), _, rfl, p, _, _, _, rfl, rfl, SqL.of R.1, atR (i := 0) a0, _, rfl, r0, _, _, _, rfl, rfl, SqL.of l0, atI_nat (getI (by omega)), rfl, _, rfl, ?_⟩
        rw [int_ne]
        by_cases c2 : (g5 rs 4).getD i 0 = (g5 rs 0).getD i 0
        · rw [decide_eq_true c2]
          exact iteF ⟨rfl, rfl, rfl⟩
        rw [decide_eq_false c2] at bad ⊢
        refine iteT ⟨_, rfl, p, _, _, _, rfl, rfl, SqL.of R.1, atR (i := 4) a4, _, rfl, r4, _, _, _, rfl, rfl, SqL.of l4, atI_nat (getI (by omega)), _, rfl, p, _, _, _, rfl, rfl, SqL.of R.1, atR (i := 1) a1, _, rfl, r1, _, _, _, rfl, rfl, SqL.of l1, atI_nat (getI (by omega)), rfl, _, rfl, ?_⟩
        rw [int_ne]
        by_cases c3 : (g5 rs 4).getD i 0 = (g5 rs 1).getD i 0
        · rw [decide_eq_true c3]
          exact iteF ⟨rfl, rfl, rfl⟩
        rw [decide_eq_false c3] at bad ⊢
        exact iteT (bad rfl)
      rintro σ G2 ⟨rfl, rfl, h01⟩
      rw [h01, Bool.true_and] at bad good
      refine ⟨_, rfl, p, _, _, _, rfl, rfl, SqL.of R.1, atR (i := 4) a4, _, rfl, r4, _, _, _, rfl, rfl, SqL.of l4, atI_nat (getI (by omega)), _, rfl, p, _, _, _, rfl, rfl, SqL.of R.1, atR (i := 2) a2, _, rfl, r2, _, _, _, rfl, rfl, SqL.of l2, atI_nat (getI (by omega)), rfl, _, rfl, ?_⟩
      rw [int_ne]
      by_cases c2 : (g5 rs 4).getD i 0 = (g5 rs 2).getD i 0
      · rw [decide_eq_true c2] at good ⊢
        exact iteF (good rfl)
      rw [decide_eq_false c2] at bad good ⊢
      refine iteT ⟨_, rfl, p, _, _, _, rfl, rfl, SqL.of R.1, atR (i := 4) a4, _, rfl, r4, _, _, _, rfl, rfl, SqL.of l4, atI_nat (getI (by omega)), _, rfl, p, _, _, _, rfl, rfl, SqL.of R.1, atR (i := 3) a3, _, rfl, r3, _, _, _, rfl, rfl, SqL.of l3, atI_nat (getI (by omega)), rfl, _, rfl, ?_⟩
      rw [int_ne]
      by_cases c3 : (g5 rs 4).getD i 0 = (g5 rs 3).getD i 0
      · rw [decide_eq_true c3] at good ⊢
        exact iteF (good rfl)
      rw [decide_eq_false c3] at bad ⊢
      exact iteT (bad rfl)
    · rintro σ G' ⟨w2, w3, rfl, rfl, al2⟩
      have z : (List.range (g5 rs 4).length).all (okAt rs) = true := List.all_eq_true.mpr fun j hj => al2 j (List.mem_range.mp hj)
      rw [z, Bool.true_and] at k
      refine ⟨_, rfl, p, _, _, _, rfl, rfl, SqL.of R.1, atR (i := 0) a0, _, rfl, p, _, _, _, rfl, rfl, SqL.of R.1, atR (i := 2) a2, _, _, dp_I l0, dp_I l2, shaped_I _, shaped_I _, ?_⟩
      rw [eqv_dI]
      refine ⟨_, rfl, ?_⟩
      cases c : decide (g5 rs 0 = g5 rs 2) with
      | true => rw [c] at k; exact iteF k
      | false =>
        rw [c, Bool.not_false, Bool.true_and] at k
        refine iteT ⟨_, rfl, p, _, _, _, rfl, rfl, SqL.of R.1, atR (i := 0) a0, _, rfl, p, _, _, _, rfl, rfl, SqL.of R.1, atR (i := 3) a3, _, _, dp_I l0, dp_I l3, shaped_I _, shaped_I _, ?_⟩
        rw [eqv_dI]
        refine ⟨_, rfl, ?_⟩
        cases c : decide (g5 rs 0 = g5 rs 3) with
        | true => rw [c] at k; exact iteF k
        | false =>
          rw [c, Bool.not_false, Bool.true_and] at k
          refine iteT ⟨_, rfl, p, _, _, _, rfl, rfl, SqL.of R.1, atR (i := 1) a1, _, rfl, p, _, _, _, rfl, rfl, SqL.of R.1, atR (i := 2) a2, _, _, dp_I l1, dp_I l2, shaped_I _, shaped_I _, ?_⟩
          rw [eqv_dI]
          refine ⟨_, rfl, ?_⟩
          cases c : decide (g5 rs 1 = g5 rs 2) with
          | true => rw [c] at k; exact iteF k
          | false =>
            rw [c, Bool.not_false, Bool.true_and] at k
            refine iteT ⟨_, rfl, p, _, _, _, rfl, rfl, SqL.of R.1, atR (i := 1) a1, _, rfl, p, _, _, _, rfl, rfl, SqL.of R.1, atR (i := 3) a3, _, _, dp_I l1, dp_I l3, shaped_I _, shaped_I _, ?_⟩
            rw [eqv_dI]
            exact k

end

section
variable {P : Program} {w : World} {K : PySem.W.Frag} {mg : Str → Option Value} {base : Heap} {A : Ad}
theorem ok_m_holds (T : Txt K mg A)  (g_is_torn : Okd P w K mg base CX0 1 A.is_torn P_is_torn spTo) : Okd P w K mg base CX0 2 A.m_holds P_m_holds (spHd A) := by
  obtain ⟨fd, F⟩ := T.d_m_holds
  obtain ⟨fd_is_torn, G_is_torn, b_is_torn⟩ := g_is_torn
  refine ⟨fd, F.ok sc_m_holds (fun vs H Q E h => ?_) (fun cdv A' outer s H vs Q E hr h => ?_), F.binds fun _ _ _ _ _ _ us hl => match us, hl with | [_], _ => rfl⟩
  · obtain ⟨u, t1, t2, a, b, c, d, m, rs, rfl, _⟩ := h
    rfl
  · obtain ⟨u, t1, t2, a, b, c, d, m, rs, rfl, C, k⟩ := h
    refine ⟨_, (pss_cons (ps_if (pt_not (PW.pt (pw_and (pt_val (pe_call G_is_torn (hr.mono (by decide)) (by rfl) T.g_is_torn T.k_is_torn b_is_torn .nil pass0 (pa_cons (pe_fld (pv 0) rfl) (pa_cons (pe_fld (pv 0) rfl) pa_nil)))) (pw_and1 (pt_val (pe_call G_is_torn (hr.mono (by decide)) (by rfl) T.g_is_torn T.k_is_torn b_is_torn .nil pass0 (pa_cons (pe_fld (pv 0) rfl) (pa_cons (pe_fld (pv 0) rfl) pa_nil)))))))) (pss_one (ps_ret pe_bl)) pss_nil)
      (pss_one (ps_ret (pe_callB (cr_all (by rfl)) (by rfl) T.n_all (by decide +kernel) (pa_cons (pe_lc (own := [("row", 1)]) (tt := tYes) (by rfl) sc_m_holds.nd (pi_tup (pe_fld (pv 0) rfl)) (blkOk_by (own := [("row", 1)]) (N := N_m_holds) (sc := defScope s_m_holds) (by decide +kernel)) (fun _ _ _ _ _ => (pg_name (i := 1) sc_m_holds.nd rfl (Or.inl rfl))) (fun _ _ _ _ _ => pts_nil) (fun _ _ _ _ _ => (pe_cmpR (RvT.op_notInTK (K := K) rfl (units65R hr)) (pv 1) (pe_fldK (K := K) rfl (pv 0) (by rfl)) (by with_unfolding_all rfl)))) pa_nil))))), ?_⟩
    obtain ⟨⟨dx, hu⟩, h1, h2, l0, l1, l2, l3, l4, few⟩ := C
    unfold holdsR holdsF at k
    refine ⟨_, rfl, u, _, dx, _, _, rfl, hu, T.cR, T.nc_first, rfl, _, rfl, u, _, dx, _, _, rfl, hu, T.cR, T.nc_image, rfl, t1, a, b, m, _, _, _, rfl, h1, l0, l1, l4, few 0, few 1, few 4, fun H1 e1 => ⟨_, rfl, ?_⟩⟩
    cases c1 : tornF (g5 rs 0) (g5 rs 1) (g5 rs 4) with
    | false =>
      rw [c1] at k
      exact iteF (iteT (k H1 e1))
    | true =>
      rw [c1, Bool.true_and] at k
      refine iteT ⟨_, rfl, u, _, dx, _, _, rfl, e1 _ _ hu, T.cR, T.nc_second, rfl, _, rfl, u, _, dx, _, _, rfl, e1 _ _ hu, T.cR, T.nc_image, rfl, t2, c, d, m, _, _, _, rfl, e1 _ _ h2, l2.ex e1, l3.ex e1, l4.ex e1, few 2, few 3, few 4, fun H2 e2 => ⟨_, rfl, ?_⟩⟩
      have e12 := e1.trans e2
      cases c2 : tornF (g5 rs 2) (g5 rs 3) (g5 rs 4) with
      | false =>
        rw [c2] at k
        exact iteT (k H2 e12)
      | true =>
        rw [c2, Bool.true_and] at k
        refine iteF ?_
        refine ⟨_, rfl, u, _, dx, _, _, rfl, e12 _ _ hu, T.cR, T.nc_first, rfl, t1, rfl, ⟨_, SqT.of (e12 _ _ h1)⟩, fun D hD => ?_⟩
        refine lc_tup (K := K) (a := t1) (xs := [V.ref a, V.ref b]) (fun j G => Ex H2 G ∧ G D = some (.lst (([!(decide (g5 rs 0 = g5 rs 2) || decide (g5 rs 0 = g5 rs 3)), !(decide (g5 rs 1 = g5 rs 2) || decide (g5 rs 1 = g5 rs 3))].take j).map V.bl))) ⟨Ex.new hD, upd_same⟩ (fun j G _ q => SqT.of (q.1 _ _ (e12 _ _ h1))) ?_ ?_
        · rintro j x G hx ⟨e, hd⟩
          have eG := e12.trans e
          have two : Dp K G (.ref t2) (.tuple [dI (g5 rs 2), dI (g5 rs 3)]) := .tup (SqT.of (eG _ _ h2)) (.cons (dp_I (l2.ex eG)) (.cons (dp_I (l3.ex eG)) .nil))
          have step : ∀ (q : Addr) (zs : List Int), x = .ref q → ListI G q zs → (∀ G2, Ex H2 G2 → G2 D = some (.lst (([!(decide (g5 rs 0 = g5 rs 2) || decide (g5 rs 0 = g5 rs 3)), !(decide (g5 rs 1 = g5 rs 2) || decide (g5 rs 1 = g5 rs 3))].take j).map V.bl ++ [V.bl (!(decide (zs = g5 rs 2) || decide (zs = g5 rs 3)))])) → Ex H2 G2 ∧ G2 D = some (.lst (([!(decide (g5 rs 0 = g5 rs 2) || decide (g5 rs 0 = g5 rs 3)), !(decide (g5 rs 1 = g5 rs 2) || decide (g5 rs 1 = g5 rs 3))].take (j + 1)).map V.bl))) → gName 1 x (wipe [some (V.ref u), none] [1]) G (fun σ2 G2 => wipe σ2 [1] = wipe [some (V.ref u), none] [1] ∧ tYes σ2 G2 fun b1 G3 =>
              if b1 = true then tOp (RvT.rNotInT K) (tVar 1) (tFld K (tVar 0) "second") σ2 G3 fun y G4 => ∃ acc, G4 D = some (.lst acc) ∧ acc.length < sizeLine ∧ (Ex H2 (upd G4 D (.lst (acc ++ [y]))) ∧ upd G4 D (.lst (acc ++ [y])) D = some (.lst (([!(decide (g5 rs 0 = g5 rs 2) || decide (g5 rs 0 = g5 rs 3)), !(decide (g5 rs 1 = g5 rs 2) || decide (g5 rs 1 = g5 rs 3))].take (j + 1)).map V.bl))) else (Ex H2 G3 ∧ G3 D = some (.lst (([!(decide (g5 rs 0 = g5 rs 2) || decide (g5 rs 0 = g5 rs 3)), !(decide (g5 rs 1 = g5 rs 2) || decide (g5 rs 1 = g5 rs 3))].take (j + 1)).map V.bl)))) := fun q zs ex hz fin => by
            subst ex
            refine ⟨rfl, _, rfl, _, rfl, u, _, dx, _, _, rfl, eG _ _ hu, T.cR, T.nc_second, rfl, _, _, dp_I hz, two, shaped_I _, shaped_II [g5 rs 2, g5 rs 3], ?_⟩
            rw [any2]
            refine ⟨_, hd, small1000 (by rw [List.length_map, List.length_take]; show min j 2 ≤ 1000; omega), fin _ (fun x o ho => ?_) upd_same⟩
            rw [upd_ne (ne_of_none ho hD)]
            exact e _ _ ho
          match j, hx with
          | 0, hx => exact step a (g5 rs 0) (Option.some.inj hx).symm (l0.ex eG) fun G2 x1 x2 => ⟨x1, x2⟩
          | 1, hx => exact step b (g5 rs 1) (Option.some.inj hx).symm (l1.ex eG) fun G2 x1 x2 => ⟨x1, x2⟩
        rintro G ⟨e, hd⟩
        refine ⟨D, _, rfl, SqL.of hd, ?_⟩
        have kk := k G (e12.trans e)
        show Q (V.bl (!(decide (g5 rs 0 = g5 rs 2) || decide (g5 rs 0 = g5 rs 3)) && (!(decide (g5 rs 1 = g5 rs 2) || decide (g5 rs 1 = g5 rs 3)) && true))) G
        rw [Bool.and_true, Bool.not_or, Bool.not_or, Bool.and_assoc]
        exact kk

end

section
variable {P : Program} {w : World} {K : PySem.W.Frag} {mg : Str → Option Value} {base : Heap} {A : Ad}
theorem ok_m_init (T : Txt K mg A)  (g_own_rows : Okd P w K mg base CX0 1 A.own_rows P_own_rows spOw) : Okd P w K mg base CX0 2 A.m_init P_m_init (spIn A) := by
  obtain ⟨fd, F⟩ := T.d_m_init
  obtain ⟨fd_own_rows, G_own_rows, b_own_rows⟩ := g_own_rows
  refine ⟨fd, F.ok sc_m_init (fun vs H Q E h => ?_) (fun cdv A' outer s H vs Q E hr h => ?_), F.binds fun _ _ _ _ _ _ us hl => match us, hl with | [_, _, _, _], _ => rfl⟩
  · obtain ⟨u, dx, s1, s2, p0, p1, p2, p3, p4, rs, rfl, _⟩ := h
    rfl
  · obtain ⟨u, dx, s1, s2, p0, p1, p2, p3, p4, rs, rfl, hu, h1, h2, l0, l1, l2, l3, l4, few, k⟩ := h
    refine ⟨_, (pss_cons (ps_fld (pv 0) (pe_call G_own_rows (hr.mono (by decide)) (by rfl) T.g_own_rows T.k_own_rows b_own_rows .nil pass0 (pa_cons (pv 1) pa_nil)) rfl)
      (pss_cons (ps_fld (pv 0) (pe_call G_own_rows (hr.mono (by decide)) (by rfl) T.g_own_rows T.k_own_rows b_own_rows .nil pass0 (pa_cons (pv 2) pa_nil)) rfl)
      (pss_one (ps_fld (pv 0) (pe_callTy call_list_of (by rfl) T.n_list (by decide +kernel) (pa_cons (pv 3) pa_nil)) rfl)))), ?_⟩
    have nu : ∀ {x : Addr} {xs : List V}, H x = some (.tup xs) → x ≠ u := fun {x xs} h z => by rw [z, hu] at h; cases h
    have nl : ∀ {x : Addr} {xs : List Int}, ListI H x xs → x ≠ u := fun {x xs} h z => by have h : H x = some _ := h; rw [z, hu] at h; cases h
    refine ⟨_, rfl, s1, p0, p1, _, _, rfl, h1, l0, l1, few 0, few 1, fun t1 a b H1 ht1 ha hb e1 q1 qa qb => ?_⟩
    refine ⟨_, rfl, u, _, dx, _, rfl, e1 _ _ hu, T.cR, T.nc_first, (by decide), ?_⟩
    have n1 : t1 ≠ u := Ne.symm (ne_of_none hu ht1)
    have na : a ≠ u := Ne.symm (ne_of_none hu ha)
    have nb : b ≠ u := Ne.symm (ne_of_none hu hb)
    have K1 : ∀ x o, x ≠ u → H1 x = some o → upd H1 u (.ins A.Clash dx (putF "first" (.ref t1) [])) x = some o := fun x o h h2 => by rw [upd_ne h]; exact h2
    have U1 : upd H1 u (.ins A.Clash dx (putF "first" (.ref t1) [])) u = some (.ins A.Clash dx [("first", .ref t1)]) := upd_same
    have F1 : ∀ x, upd H1 u (.ins A.Clash dx (putF "first" (.ref t1) [])) x = none → x ≠ u ∧ H x = none := fun x h => by
      have n : x ≠ u := fun z => by rw [z, U1] at h; cases h
      rw [upd_ne n] at h
      exact ⟨n, back_none e1 h⟩
    generalize upd H1 u (.ins A.Clash dx (putF "first" (.ref t1) [])) = H2 at K1 U1 F1 ⊢
    refine ⟨_, rfl, s2, p2, p3, _, _, rfl, K1 _ _ (nu h2) (e1 _ _ h2), K1 _ _ (nl l2) (l2.ex e1), K1 _ _ (nl l3) (l3.ex e1), few 2, few 3, fun t2 c d H3 ht2 hc hd e3 q2 qc qd => ?_⟩
    refine ⟨_, rfl, u, _, dx, _, rfl, e3 _ _ U1, T.cR, T.nc_second, (by show 1 < 1000; decide), ?_⟩
    have K3 : ∀ x o, x ≠ u → H3 x = some o → upd H3 u (.ins A.Clash dx (putF "second" (.ref t2) [("first", .ref t1)])) x = some o := fun x o h h2 => by rw [upd_ne h]; exact h2
    have U3 : upd H3 u (.ins A.Clash dx (putF "second" (.ref t2) [("first", .ref t1)])) u = some (.ins A.Clash dx [("first", .ref t1), ("second", .ref t2)]) := upd_same
    have F3 : ∀ x, upd H3 u (.ins A.Clash dx (putF "second" (.ref t2) [("first", .ref t1)])) x = none → x ≠ u ∧ H x = none := fun x h => by
      have n : x ≠ u := fun z => by rw [z, U3] at h; cases h
      rw [upd_ne n] at h
      exact ⟨n, (F1 x (back_none e3 h)).2⟩
    generalize upd H3 u (.ins A.Clash dx (putF "second" (.ref t2) [("first", .ref t1)])) = H4 at K3 U3 F3 ⊢
    have KK : ∀ x o, x ≠ u → H x = some o → H4 x = some o := fun x o n h => K3 _ _ n (e3 _ _ (K1 _ _ n (e1 _ _ h)))
    refine ⟨_, rfl, p4, _, rfl, .inl (SqL.of (KK _ _ (nl l4) l4)), fun m hm => ?_⟩
    have eM := Ex.new (o := .lst ((g5 rs 4).map V.int)) hm
    obtain ⟨nm, fm⟩ := F3 m hm
    refine ⟨_, rfl, u, _, dx, _, rfl, eM _ _ U3, T.cR, T.nc_image, (by show 2 < 1000; decide), ?_⟩
    have K5 : ∀ x o, x ≠ u → H4 x = some o → upd (upd H4 m (.lst ((g5 rs 4).map V.int))) u (.ins A.Clash dx (putF "image" (.ref m) [("first", .ref t1), ("second", .ref t2)])) x = some o := fun x o n h => by
      rw [upd_ne n]
      exact eM _ _ h
    have n2 := (F1 t2 ht2).1
    have nc := (F1 c hc).1
    have nd := (F1 d hd).1
    refine k t1 t2 a b c d m _ (fun x hx => ?_) (fun x o n h => K5 _ _ n (KK _ _ n h)) ⟨⟨dx, upd_same⟩, K5 _ _ n1 (K3 _ _ n1 (e3 _ _ (K1 _ _ n1 q1))), K5 _ _ n2 (K3 _ _ n2 q2), K5 _ _ na (K3 _ _ na (e3 _ _ (K1 _ _ na qa))), K5 _ _ nb (K3 _ _ nb (e3 _ _ (K1 _ _ nb qb))), K5 _ _ nc (K3 _ _ nc qc), K5 _ _ nd (K3 _ _ nd qd), ?_, few⟩
    · simp only [List.mem_cons, List.not_mem_nil, or_false] at hx
      rcases hx with rfl | rfl | rfl | rfl | rfl | rfl | rfl
      · exact ht1
      · exact (F1 _ ht2).2
      · exact ha
      · exact hb
      · exact (F1 _ hc).2
      · exact (F1 _ hd).2
      · exact fm
    · show upd _ u _ m = _
      rw [upd_ne nm]
      exact upd_same

end

section
variable {P : Program} {w : World} {K : PySem.W.Frag} {mg : Str → Option Value} {base : Heap} {A : Ad}
theorem ok_own_rows (T : Txt K mg A)   : Okd P w K mg base CX0 1 A.own_rows P_own_rows spOw := by
  obtain ⟨fd, F⟩ := T.d_own_rows

  refine ⟨fd, F.ok sc_own_rows (fun vs H Q E h => ?_) (fun cdv A' outer s H vs Q E hr h => ?_), F.binds fun _ _ _ _ _ _ us hl => match us, hl with | [_], _ => rfl⟩
  · obtain ⟨t, a, b, xs, ys, rfl, _⟩ := h
    rfl
  · obtain ⟨t, a, b, xs, ys, rfl, ht, ha, hb, lx, ly, k⟩ := h
    refine ⟨_, (pss_cons (ps_asg (pv 0) (pg_tup (by rfl) (pgs_cons (pg_name (i := 1) sc_own_rows.nd rfl (Or.inl rfl)) (pgs_cons (pg_name (i := 2) sc_own_rows.nd rfl (Or.inl rfl)) pgs_nil))))
      (pss_one (ps_ret (pe_tup (pa_cons (pe_callTy call_list_of (by rfl) T.n_list (by decide +kernel) (pa_cons (pv 1) pa_nil)) (pa_cons (pe_callTy call_list_of (by rfl) T.n_list (by decide +kernel) (pa_cons (pv 2) pa_nil)) pa_nil)))))), ?_⟩
    refine ⟨_, rfl, t, _, rfl, SqT.of ht, rfl, _, _, rfl, _, _, rfl, rfl, ?_⟩
    refine ⟨_, rfl, a, _, rfl, .inl (SqL.of ha), fun p hp => ?_⟩
    have e1 := Ex.new (o := .lst (xs.map V.int)) hp
    have q1 : ListI (upd H p (.lst (xs.map V.int))) p xs := upd_same
    have hb1 := hb.ex e1
    generalize upd H p (.lst (xs.map V.int)) = H1 at e1 q1 hb1 ⊢
    refine ⟨_, rfl, b, _, rfl, .inl (SqL.of hb1), fun q hq => ⟨(by show 2 ≤ sizeLine; decide), fun u hu => ?_⟩⟩
    have e2 := Ex.new (o := .lst (ys.map V.int)) hq
    have e3 := Ex.new (o := .tup [V.ref p, V.ref q]) hu
    have e12 := e1.trans e2
    exact k u p q _ (back_none e12 hu) hp (back_none e1 hq) (e12.trans e3) upd_same (e3 _ _ (e2 _ _ q1)) (e3 _ _ upd_same)

end

section
variable {P : Program} {w : World} {K : PySem.W.Frag} {mg : Str → Option Value} {base : Heap} {A : Ad}
theorem ne_ix {as : List Addr} (h : as.Nodup) {a b : Addr} (i j : Nat) (hi : as[i]? = some a) (hj : as[j]? = some b) (n : i ≠ j) : a ≠ b := by
  intro e
  subst e
  have := (List.getElem?_inj (List.getElem?_eq_some_iff.mp hi).1 h).mp (hi.trans hj.symm)
  exact n this
theorem oke_law_alone (T : Txt K mg A)   : Oke P w K mg base 1 A.law_alone P_law_alone (seAl A) := by
  obtain ⟨fd, F⟩ := T.d_law_alone

  refine ⟨fd, HotE.okE F sc_law_alone (fun a c d vs H Q E h => ?_) (fun cdv A' outer s H vs Q E p c d hot zc hr h => ?_), F.binds fun _ _ _ _ _ _ us hl => match us, hl with | [_], _ => rfl⟩
  · obtain ⟨rfl, _⟩ := h
    rfl
  · obtain ⟨rfl, rfl, rfl, k⟩ := h
    refine ⟨_, (pss_cons (ps_set (i := 1) sc_law_alone.nd rfl (Or.inl rfl) (pe_or (pe_callB (HotE.call_isP (K := K) rfl ⟨p.2, ⟨hot.1, hot.2⟩, List.mem_cons_self, zc⟩) (by rfl) T.n_isinstance (by decide +kernel) (pa_cons (pv 0) (pa_cons (pe_glob (v := .ref A.InvalidChange) rfl T.e_InvalidChange.g rfl) pa_nil))) (pe_one (pe_callB (HotE.call_isP (K := K) rfl ⟨p.2, ⟨hot.1, hot.2⟩, List.mem_cons_self, zc⟩) (by rfl) T.n_isinstance (by decide +kernel) (pa_cons (pv 0) (pa_cons (pe_glob (v := .ref A.InvalidUpdate) rfl T.e_InvalidUpdate.g rfl) pa_nil))))))
      (pss_cons (ps_set (i := 1) sc_law_alone.nd rfl (Or.inl rfl) (pe_or (pv 1) (pe_one (pe_callB (HotE.call_isP (K := K) rfl ⟨p.2, ⟨hot.1, hot.2⟩, List.mem_cons_self, zc⟩) (by rfl) T.n_isinstance (by decide +kernel) (pa_cons (pv 0) (pa_cons (pe_glob (v := .ref A.InvalidOrder) rfl T.e_InvalidOrder.g rfl) pa_nil))))))
      (pss_one (ps_ret (pe_and (pe_callB (HotE.call_isP (K := K) rfl ⟨p.2, ⟨hot.1, hot.2⟩, List.mem_cons_self, zc⟩) (by rfl) T.n_isinstance (by decide +kernel) (pa_cons (pv 0) (pa_cons (pe_glob (v := .ref A.MendError) rfl T.e_MendError.g rfl) pa_nil))) (pe_and (pe_callB (HotE.call_isP (K := K) rfl ⟨p.2, ⟨hot.1, hot.2⟩, List.mem_cons_self, zc⟩) (by rfl) T.n_isinstance (by decide +kernel) (pa_cons (pv 0) (pa_cons (pe_bltn (v := .ty "ValueError") (u := .type "ValueError") (by rfl) T.n_ValueError (by decide +kernel) rfl) pa_nil))) (pe_one (pe_not (pv 1))))))))), ?_⟩
    have xC := T.e_InvalidKind.exc T.cn T.ct
    refine ⟨_, rfl, A.InvalidKind, _, _, false, rfl, rfl, Or.inl rfl, xC, ClsV.own _, T.e_InvalidKind.kit_ne T.e_InvalidChange (ne_ix T.nd 2 3 rfl rfl (by decide)) (ne_ix T.nd 0 3 rfl rfl (by decide)), _, rfl, iteF ?_⟩
    refine ⟨_, rfl, A.InvalidKind, _, _, false, rfl, rfl, Or.inl rfl, xC, ClsV.own _, T.e_InvalidKind.kit_ne T.e_InvalidUpdate (ne_ix T.nd 2 1 rfl rfl (by decide)) (ne_ix T.nd 0 1 rfl rfl (by decide)), ?_⟩
    refine ⟨_, rfl, _, rfl, iteF ?_⟩
    refine ⟨_, rfl, A.InvalidKind, _, _, false, rfl, rfl, Or.inl rfl, xC, ClsV.own _, T.e_InvalidKind.kit_ne T.e_InvalidOrder (ne_ix T.nd 2 4 rfl rfl (by decide)) (ne_ix T.nd 0 4 rfl rfl (by decide)), ?_⟩
    refine ⟨_, rfl, A.InvalidKind, _, _, true, rfl, rfl, Or.inl rfl, xC, ClsV.own _, T.e_InvalidKind.kit_base T.e_MendError (ne_ix T.nd 2 0 rfl rfl (by decide)), _, rfl, iteT ?_⟩
    refine ⟨_, rfl, A.InvalidKind, _, _, true, rfl, rfl, Or.inl rfl, xC, ClsV.ty "ValueError", T.e_InvalidKind.kit_ve, _, rfl, iteT ?_⟩
    exact ⟨_, rfl, _, rfl, k⟩

end

section
variable {P : Program} {w : World} {K : PySem.W.Frag} {mg : Str → Option Value} {base : Heap} {A : Ad}
theorem ks_snoc {H : Hp} {ps : List Addr} {ks : List (List GE)} {p : Addr} {es : List GE} (h : KsAt H ps ks) (g : GensT H p es) (l : FewK es) : KsAt H (ps ++ [p]) (ks ++ [es]) :=
  ⟨by rw [List.length_append, List.length_append, h.1]; rfl, app_at (R := fun p es => GensT H p es ∧ FewK es) h.1 h.2 ⟨g, l⟩⟩
theorem set_at2 {α β : Type} {R : α → β → Prop} {us : List α} {fs : List β} {t : α} {e : β} {i : Nat} (h : ∀ (k : Nat) (a : α) (b : β), us[k]? = some a → fs[k]? = some b → R a b) (h1 : R t e) : ∀ (k : Nat) (a : α) (b : β), (us.set i t)[k]? = some a → (fs.set i e)[k]? = some b → R a b := by
  intro k a b ha hb
  rw [List.getElem?_set] at ha hb
  by_cases c : i = k
  · rw [if_pos c] at ha hb
    split at ha
    · split at hb
      · rw [← Option.some.inj ha, ← Option.some.inj hb]
        exact h1
      · cases hb
    · cases ha
  · rw [if_neg c] at ha hb
    exact h k a b ha hb
theorem ks_set {H : Hp} {ps : List Addr} {ks : List (List GE)} {p : Addr} {es : List GE} {i : Nat} (h : KsAt H ps ks) (g : GensT H p es) (l : FewK es) : KsAt H (ps.set i p) (ks.set i es) :=
  ⟨by rw [List.length_set, List.length_set]; exact h.1, set_at2 (R := fun p es => GensT H p es ∧ FewK es) h.2 ⟨g, l⟩⟩
/-- kinds stand where only the bag or a list is altered -/
theorem gens_keep {H H' : Hp} {p : Addr} {es : List GE} (h : GensT H p es) (k : ∀ x xs, H x = some (.tup xs) → H' x = some (.tup xs)) : GensT H' p es := by
  obtain ⟨ts, h1, h2, h3⟩ := h
  exact ⟨ts, k _ _ h1, h2, fun i t e a b => k _ _ (h3 i t e a b)⟩
theorem ks_keep {H H' : Hp} {ps : List Addr} {ks : List (List GE)} (h : KsAt H ps ks) (k : ∀ x xs, H x = some (.tup xs) → H' x = some (.tup xs)) : KsAt H' ps ks :=
  ⟨h.1, fun i p es a b => ⟨gens_keep (h.2 i p es a b).1 k, (h.2 i p es a b).2⟩⟩
theorem mut_tup {b c : Addr} {H H' : Hp} (B : Bx H b c) (M : Mut b H H') : ∀ x xs, H x = some (.tup xs) → H' x = some (.tup xs) := fun x xs h => M _ _ (fun z => by
  obtain ⟨_, _, _, _, _, w1, _⟩ := B
  rw [z, w1] at h
  cases h) h
theorem lst_tup {r : Addr} {H : Hp} {us vs : List V} (h0 : H r = some (.lst us)) : ∀ x xs, H x = some (.tup xs) → upd H r (.lst vs) x = some (.tup xs) := fun x xs h => by
  rw [upd_ne (fun z => by rw [z, h0] at h; cases h)]
  exact h
theorem ok_law_kinds (T : Txt K mg A)  (g_law_draw : Okd P w K mg base CX0 1 A.law_draw P_law_draw spDw) (g_law_tame : Okd P w K mg base CX0 2 A.law_tame P_law_tame spTa) (g_law_kind : Okd P w K mg base CX0 3 A.law_kind P_law_kind spKi) (g_law_bent_kind : Okd P w K mg base CX0 2 A.law_bent_kind P_law_bent_kind spBk) : Okd P w K mg base CX0 4 A.law_kinds P_law_kinds spKs := by
  obtain ⟨fd, F⟩ := T.d_law_kinds
  obtain ⟨fd_law_draw, G_law_draw, b_law_draw⟩ := g_law_draw
  obtain ⟨fd_law_tame, G_law_tame, b_law_tame⟩ := g_law_tame
  obtain ⟨fd_law_kind, G_law_kind, b_law_kind⟩ := g_law_kind
  obtain ⟨fd_law_bent_kind, G_law_bent_kind, b_law_bent_kind⟩ := g_law_bent_kind
  refine ⟨fd, F.ok sc_law_kinds (fun vs H Q E h => ?_) (fun cdv A' outer s H vs Q E hr h => ?_), F.binds fun _ _ _ _ _ _ us hl => match us, hl with | [_, _, _], _ => rfl⟩
  · obtain ⟨b, c, n, most, rfl, _⟩ := h
    rfl
  · obtain ⟨b, c, n, most, rfl, hn, m0, m1, B, k⟩ := h
    refine ⟨_, (pss_cons (ps_set (i := 3) sc_law_kinds.nd rfl (Or.inl rfl) (pe_call G_law_draw (hr.mono (by decide)) (by rfl) T.g_law_draw T.k_law_draw b_law_draw .nil pass0 (pa_cons (pv 0) (pa_cons pe_int pa_nil))))
      (pss_cons (ps_set (i := 4) sc_law_kinds.nd rfl (Or.inl rfl) (pe_call G_law_draw (hr.mono (by decide)) (by rfl) T.g_law_draw T.k_law_draw b_law_draw .nil pass0 (pa_cons (pv 0) (pa_cons pe_int pa_nil))))
      (pss_cons (ps_set (i := 5) sc_law_kinds.nd rfl (Or.inl rfl) (pe_lst pa_nil))
      (pss_cons (ps_for PassesOwn.never rfl (pi_range1 (by rfl) T.n_range (pa_cons (pv 1) pa_nil)) (pg_name (i := 6) sc_law_kinds.nd rfl (Or.inl rfl)) (pss_one (ps_if (pt_cmpR op_eq (pv 3) pe_int (nomark _)) (pss_one (ps_expr (pe_bm PySem.F.plainAttrs_list PySem.F.slot_list_append PySem.F.type_list_append mt_append (pv 5) (pa_cons (pe_call G_law_tame (hr.mono (by decide)) (by rfl) T.g_law_tame T.k_law_tame b_law_tame .nil pass0 (pa_cons (pv 0) pa_nil)) pa_nil)))) (pss_one (ps_expr (pe_bm PySem.F.plainAttrs_list PySem.F.slot_list_append PySem.F.type_list_append mt_append (pv 5) (pa_cons (pe_call G_law_kind (hr.mono (by decide)) (by rfl) T.g_law_kind T.k_law_kind b_law_kind .nil pass0 (pa_cons (pv 0) (pa_cons (pv 2) pa_nil))) pa_nil)))))))
      (pss_cut (ps_if (PW.pt (pw_and (pt_cmpR op_gt (pv 1) pe_int (nomark _)) (pw_and1 (PW.pt (pw_or (pt_cmpR op_eq (pv 4) pe_int (nomark _)) (pw_or1 (pt_cmpR op_eq (pv 4) pe_int (nomark _)))))))) (pss_cons (ps_set (i := 7) sc_law_kinds.nd rfl (Or.inl rfl) (pe_call G_law_draw (hr.mono (by decide)) (by rfl) T.g_law_draw T.k_law_draw b_law_draw .nil pass0 (pa_cons (pv 0) (pa_cons (pv 1) pa_nil))))
      (pss_one (ps_asg (pe_call G_law_kind (hr.mono (by decide)) (by rfl) T.g_law_kind T.k_law_kind b_law_kind .nil pass0 (pa_cons (pv 0) (pa_cons (pv 2) pa_nil))) (pg_sub (pv 5) (pv 7) set_list)))) pss_nil)
      (pss_cut (ps_if (PW.pt (pw_and (pt_cmpR op_gt (pv 1) pe_int (nomark _)) (pw_and1 (pt_cmpR op_ge (pv 4) pe_int (nomark _))))) (pss_cons (ps_set (i := 7) sc_law_kinds.nd rfl (Or.inl rfl) (pe_call G_law_draw (hr.mono (by decide)) (by rfl) T.g_law_draw T.k_law_draw b_law_draw .nil pass0 (pa_cons (pv 0) (pa_cons (pv 1) pa_nil))))
      (pss_one (ps_asg (pe_call G_law_bent_kind (hr.mono (by decide)) (by rfl) T.g_law_bent_kind T.k_law_bent_kind b_law_bent_kind .nil pass0 (pa_cons (pv 0) (pa_cons (pe_call G_law_kind (hr.mono (by decide)) (by rfl) T.g_law_kind T.k_law_kind b_law_kind .nil pass0 (pa_cons (pv 0) (pa_cons (pe_callB (call_min2 (by rfl)) (by rfl) T.n_min (by decide +kernel) (pa_cons (pv 2) (pa_cons pe_int pa_nil))) pa_nil))) pa_nil))) (pg_sub (pv 5) (pv 7) set_list)))) pss_nil)
      (pss_one (ps_ret (pv 5))))))))), ?_⟩
    refine ⟨_, rfl, b, c, 2, rfl, by decide, by decide, B, fun d1 H1 hd1 B1 M1 => ?_⟩
    refine ⟨_, rfl, b, c, 4, rfl, by decide, by decide, B1, fun d2 H2 hd2 B2 M2 => ?_⟩
    have M12 := M1.trans M2
    refine ⟨(by show 0 ≤ sizeLine; decide), fun r hr => ?_⟩
    obtain ⟨nrb, nrc⟩ := B2.ne hr
    have fr : H r = none := M12.free nrb hr
    have eR := Ex.new (o := .lst []) hr
    have B3 := B2.ex eR
    have M3 := M12.ext eR
    have hr3 : upd H2 r (.lst []) r = some (.lst ([].map V.ref)) := upd_same
    generalize upd H2 r (.lst []) = H3 at B3 M3 hr3 ⊢
    have put : ∀ (G G' : Hp) (ps : List Addr) (ks : List (List GE)) (q : Addr) (es : List GE), Bx G b c → Mut b H G → G r = some (.lst (ps.map V.ref)) → KsAt G ps ks → Bx G' b c → Mut b G G' → GensT G' q es → FewK es → ∀ us : List V,
        Bx (upd G' r (.lst us)) b c ∧ Mut b H (upd G' r (.lst us)) ∧ KsAt (upd G' r (.lst us)) ps ks ∧ GensT (upd G' r (.lst us)) q es ∧ G' r = some (.lst (ps.map V.ref)) := fun G G' ps ks q es BG MG hG KG BG' MG' gq lq us => by
      have hr' := MG' _ _ nrb hG
      have K1 : ∀ x o, x ≠ r → G' x = some o → upd G' r (.lst us) x = some o := fun x o h1 h => by rw [upd_ne h1]; exact h
      exact ⟨BG'.keep (fun o h => K1 _ _ (Ne.symm nrb) h) (fun o h => K1 _ _ (Ne.symm nrc) h), fun x o h1 h => K1 _ _ (ne_of_none h fr) (MG' _ _ h1 (MG _ _ h1 h)), ks_keep (ks_keep KG (mut_tup BG MG')) (lst_tup hr'), gens_keep gq (lst_tup hr'), hr'⟩
    refine ⟨_, rfl, _, rfl, by omega, by omega, ?_⟩
    rw [Int.toNat_natCast]
    refine for_range (lo := 0) (n := n) (fun i σ G => ∃ (v6 v7 : Option V) (ps : List Addr) (ks : List (List GE)), σ = [some (.ref b), some (.int (n : Int)), some (.int most), some (.int (d1 : Int)), some (.int (d2 : Int)), some (.ref r), v6, v7] ∧ Bx G b c ∧ Mut b H G ∧ G r = some (.lst (ps.map V.ref)) ∧ KsAt G ps ks ∧ ps.length = i) ⟨none, none, [], [], rfl, B3, M3, hr3, ⟨rfl, fun i p es x => by cases x⟩, rfl⟩ ?_ ?_
    · rintro i σ G hi ⟨v6, v7, ps, ks, rfl, BG, MG, hG, KG, il⟩
      have step : ∀ q (es : List GE) G', Bx G' b c → Mut b G G' → GensT G' q es → FewK es → ∃ l xs y, V.ref r = .ref l ∧ [V.ref q] = [y] ∧ G' l = some (.lst xs) ∧ xs.length < sizeLine ∧ ∃ (u6 u7 : Option V) (ps : List Addr) (ks : List (List GE)), [some (V.ref b), some (.int (n : Int)), some (.int most), some (.int (d1 : Int)), some (.int (d2 : Int)), some (.ref r), some (.int (0 + (i : Int))), v7] = [some (V.ref b), some (.int (n : Int)), some (.int most), some (.int (d1 : Int)), some (.int (d2 : Int)), some (.ref r), u6, u7] ∧ Bx (upd G' l (.lst (xs ++ [y]))) b c ∧ Mut b H (upd G' l (.lst (xs ++ [y]))) ∧ upd G' l (.lst (xs ++ [y])) r = some (.lst (ps.map V.ref)) ∧ KsAt (upd G' l (.lst (xs ++ [y]))) ps ks ∧ ps.length = i + 1 := fun q es G' BG' MG' gq lq => by
        obtain ⟨p1, p2, p3, p4, p5⟩ := put G G' ps ks q es BG MG hG KG BG' MG' gq lq (ps.map V.ref ++ [V.ref q])
        exact ⟨r, _, _, rfl, rfl, p5, small1000 (by rw [List.length_map]; omega), _, _, ps ++ [q], ks ++ [es], rfl, p1, p2, by rw [upd_same, List.map_append]; rfl, ks_snoc p3 p4 lq, by rw [List.length_append, il]; rfl⟩
      refine ⟨_, rfl, rfl, _, rfl, ite_b (fun _ => ?_) (fun _ => ?_)⟩
      · exact ⟨_, rfl, .inl ⟨rfl, _, SqL.of hG⟩, _, rfl, b, c, rfl, BG, fun q es G' hq BG' MG' gq lq => step q es G' BG' MG' gq lq⟩
      · exact ⟨_, rfl, .inl ⟨rfl, _, SqL.of hG⟩, _, rfl, _, rfl, b, c, most, rfl, m0, m1, BG, fun q es G' hq BG' MG' gq lq lt => step q es G' BG' MG' gq ⟨by omega, by omega⟩⟩
    rintro σ G ⟨v6, v7, ps, ks, rfl, BG, MG, hG, KG, il⟩
    refine ⟨fun σ G => ∃ (v6 v7 : Option V) (ps : List Addr) (ks : List (List GE)), σ = [some (.ref b), some (.int (n : Int)), some (.int most), some (.int (d1 : Int)), some (.int (d2 : Int)), some (.ref r), v6, v7] ∧ Bx G b c ∧ Mut b H G ∧ G r = some (.lst (ps.map V.ref)) ∧ KsAt G ps ks ∧ ps.length = n, ?_, ?_⟩
    · have same : ∀ v6 v7 : Option V, (fun σ G => ∃ (v6 v7 : Option V) (ps : List Addr) (ks : List (List GE)), σ = [some (.ref b), some (.int (n : Int)), some (.int most), some (.int (d1 : Int)), some (.int (d2 : Int)), some (.ref r), v6, v7] ∧ Bx G b c ∧ Mut b H G ∧ G r = some (.lst (ps.map V.ref)) ∧ KsAt G ps ks ∧ ps.length = n) [some (.ref b), some (.int (n : Int)), some (.int most), some (.int (d1 : Int)), some (.int (d2 : Int)), some (.ref r), v6, v7] G := fun v6 v7 => ⟨v6, v7, ps, ks, rfl, BG, MG, hG, KG, il⟩
      refine ⟨_, rfl, _, _, rfl, rfl, _, rfl, ite_b (fun c0 => ?_) (fun _ => same _ _)⟩
      have c0 := of_decide_eq_true c0
      have act : tSeq (tAsg (tCall spDw [] E0 (tCons (tVar 0) (tCons (tVar 1) tNil))) (gName 7)) (tAsg (tCall spKi [] E0 (tCons (tVar 0) (tCons (tVar 2) tNil))) (gSub (tVar 5) (tVar 7) rSetL)) { nx := fun σ G => ∃ (v6 v7 : Option V) (ps : List Addr) (ks : List (List GE)), σ = [some (.ref b), some (.int (n : Int)), some (.int most), some (.int (d1 : Int)), some (.int (d2 : Int)), some (.ref r), v6, v7] ∧ Bx G b c ∧ Mut b H G ∧ G r = some (.lst (ps.map V.ref)) ∧ KsAt G ps ks ∧ ps.length = n, rt := Q } [some (.ref b), some (.int (n : Int)), some (.int most), some (.int (d1 : Int)), some (.int (d2 : Int)), some (.ref r), v6, v7] G := by
        refine ⟨_, rfl, _, rfl, b, c, (n : Int), rfl, by omega, by omega, BG, fun d3 G3 hd3 B4 M4 => ?_⟩
        refine ⟨_, rfl, _, rfl, b, c, most, rfl, m0, m1, B4, fun q es G' hq BG' MG' gq lq lt => ?_⟩
        obtain ⟨p1, p2, p3, p4, p5⟩ := put G G' ps ks q es BG MG hG KG BG' (M4.trans MG') gq ⟨by omega, by omega⟩ ((ps.map V.ref).set d3 (V.ref q))
        refine ⟨_, rfl, _, rfl, r, _, _, d3, rfl, rfl, p5, Evl.ixN_nat (by rw [List.length_map]; omega), ?_⟩
        exact ⟨_, _, ps.set d3 q, ks.set d3 es, rfl, p1, p2, by rw [upd_same, List.map_set], ks_set p3 p4 ⟨by omega, by omega⟩, by rw [List.length_set]; exact il⟩
      refine ⟨_, rfl, rfl, _, rfl, ite_b (fun _ => act) (fun _ => ?_)⟩
      exact ⟨_, rfl, rfl, _, rfl, ite_b (fun _ => act) (fun _ => same _ _)⟩
    rintro σ G ⟨v6, v7, ps, ks, rfl, BG, MG, hG, KG, il⟩
    refine ⟨fun σ G => ∃ (v6 v7 : Option V) (ps : List Addr) (ks : List (List GE)), σ = [some (.ref b), some (.int (n : Int)), some (.int most), some (.int (d1 : Int)), some (.int (d2 : Int)), some (.ref r), v6, v7] ∧ Bx G b c ∧ Mut b H G ∧ G r = some (.lst (ps.map V.ref)) ∧ KsAt G ps ks ∧ ps.length = n, ?_, ?_⟩
    · have same : ∀ v6 v7 : Option V, (fun σ G => ∃ (v6 v7 : Option V) (ps : List Addr) (ks : List (List GE)), σ = [some (.ref b), some (.int (n : Int)), some (.int most), some (.int (d1 : Int)), some (.int (d2 : Int)), some (.ref r), v6, v7] ∧ Bx G b c ∧ Mut b H G ∧ G r = some (.lst (ps.map V.ref)) ∧ KsAt G ps ks ∧ ps.length = n) [some (.ref b), some (.int (n : Int)), some (.int most), some (.int (d1 : Int)), some (.int (d2 : Int)), some (.ref r), v6, v7] G := fun v6 v7 => ⟨v6, v7, ps, ks, rfl, BG, MG, hG, KG, il⟩
      refine ⟨_, rfl, _, _, rfl, rfl, _, rfl, ite_b (fun c0 => ?_) (fun _ => same _ _)⟩
      have c0 := of_decide_eq_true c0
      refine ⟨_, rfl, _, _, rfl, rfl, _, rfl, ite_b (fun _ => ?_) (fun _ => same _ _)⟩
      refine ⟨_, rfl, _, rfl, b, c, (n : Int), rfl, by omega, by omega, BG, fun d3 G3 hd3 B4 M4 => ?_⟩
      refine ⟨_, rfl, _, rfl, _, rfl, _, _, rfl, b, c, _, rfl, ?_, ?_, B4, fun q0 es0 G0 hq0 BG0 MG0 gq0 lq0 lt0 => ?_⟩
      · split <;> omega
      · split <;> omega
      refine ⟨b, c, q0, es0, rfl, BG0, gq0, lq0, (by split at lt0 <;> omega), fun q es G' hq BG' MG' gq lq => ?_⟩
      obtain ⟨p1, p2, p3, p4, p5⟩ := put G G' ps ks q es BG MG hG KG BG' ((M4.trans MG0).trans MG') gq lq ((ps.map V.ref).set d3 (V.ref q))
      refine ⟨_, rfl, _, rfl, r, _, _, d3, rfl, rfl, p5, Evl.ixN_nat (by rw [List.length_map]; omega), ?_⟩
      exact ⟨_, _, ps.set d3 q, ks.set d3 es, rfl, p1, p2, by rw [upd_same, List.map_set], ks_set p3 p4 lq, by rw [List.length_set]; exact il⟩
    rintro σ G ⟨v6, v7, ps, ks, rfl, BG, MG, hG, KG, il⟩
    exact ⟨_, rfl, k r ps ks G fr BG MG hG KG il⟩

end

section
variable {P : Program} {w : World} {K : PySem.W.Frag} {mg : Str → Option Value} {base : Heap} {A : Ad}
theorem safe_nil : safeB [] = true := by decide
theorem safe_one (e : GE) : [encG gA, encG gB, encG gC, encG gD].any (fun z => PyData.eqv z (encG e)) = safeB [e] := by
  have : [encG gA, encG gB, encG gC, encG gD] = [gA, gB, gC, gD].map encG := rfl
  rw [this, List.any_map]
  unfold safeB SAFE
  rw [Bool.eq_iff_iff, List.any_eq_true, decide_eq_true_eq]
  constructor
  · rintro ⟨x, hx, q⟩
    have q : PyData.eqv (encG x) (encG e) = true := q
    rw [eqv_gen, decide_eq_true_eq] at q
    subst q
    simp only [List.mem_cons, List.not_mem_nil, or_false] at hx
    rcases hx with rfl | rfl | rfl | rfl <;> simp
  · intro h
    refine ⟨e, ?_, ?_⟩
    · simp only [List.mem_cons, List.not_mem_nil, or_false] at h
      rcases h with h | h | h | h | h
      · cases h
      all_goals (injection h with h; rw [h]; simp)
    · show PyData.eqv (encG e) (encG e) = true
      rw [eqv_gen]
      exact decide_eq_true rfl
theorem safe_many {es : List GE} (h : 2 ≤ es.length) : safeB es = false := by
  unfold safeB
  rw [decide_eq_false]
  intro m
  unfold SAFE at m
  simp only [List.mem_cons, List.not_mem_nil, or_false] at m
  rcases m with rfl | rfl | rfl | rfl | rfl <;> exact absurd h (by decide)
theorem dp4 {K : PySem.W.Frag} {H : Hp} {t4 t0 t1 t2 t3 : Addr} (h4 : H t4 = some (.tup [V.ref t0, V.ref t1, V.ref t2, V.ref t3])) (a0 : GenAt H t0 gA) (a1 : GenAt H t1 gB) (a2 : GenAt H t2 gC) (a3 : GenAt H t3 gD) : Dp K H (.ref t4) (.tuple [encG gA, encG gB, encG gC, encG gD]) :=
  .tup (SqT.of h4) (.cons (dp_gen a0) (.cons (dp_gen a1) (.cons (dp_gen a2) (.cons (dp_gen a3) .nil))))
theorem shaped4 : SeqAt.shaped (.list [encG gA, encG gB, encG gC, encG gD]) = true := by decide +kernel
theorem ok_law_safe (T : Txt K mg A)   : Okd P w K mg base CX0 1 A.law_safe P_law_safe spSf := by
  obtain ⟨fd, F⟩ := T.d_law_safe

  refine ⟨fd, F.ok sc_law_safe (fun vs H Q E h => ?_) (fun cdv A' outer s H vs Q E hr h => ?_), F.binds fun _ _ _ _ _ _ us hl => match us, hl with | [_], _ => rfl⟩
  · obtain ⟨p, es, rfl, _⟩ := h
    rfl
  · obtain ⟨p, es, rfl, hp, hl, gd, k⟩ := h
    refine ⟨_, (pss_cons (ps_set (i := 1) sc_law_safe.nd rfl (Or.inl rfl) (pe_tup (pa_cons (pe_tup (pa_cons pe_str (pa_cons pe_int (pa_cons (pe_un un_neg pe_int) pa_nil)))) (pa_cons (pe_tup (pa_cons pe_str (pa_cons pe_int (pa_cons pe_int pa_nil)))) (pa_cons (pe_tup (pa_cons pe_str (pa_cons pe_int (pa_cons pe_int pa_nil)))) (pa_cons (pe_tup (pa_cons pe_str (pa_cons pe_int (pa_cons pe_int pa_nil)))) pa_nil))))))
      (pss_one (ps_ret (pe_or (pe_cmpR op_eq (pe_callB call_len_seq (by rfl) T.n_len PySem.boot_len (pa_cons (pv 0) pa_nil)) pe_int (nomark _)) (pe_one (pe_and (pe_cmpR op_eq (pe_callB call_len_seq (by rfl) T.n_len PySem.boot_len (pa_cons (pv 0) pa_nil)) pe_int (nomark _)) (pe_one (pe_cmpR (RvT.op_inT (units65R hr)) (pe_ix ix_tup (pv 0) pe_int (fun _ _ => rfl)) (pv 1) (by with_unfolding_all rfl))))))))), ?_⟩
    obtain ⟨ts, hts, tl, tat⟩ := hp
    refine ⟨_, rfl, (by show 3 ≤ sizeLine; decide), fun t0 h0 => ?_⟩
    refine ⟨(by show 3 ≤ sizeLine; decide), fun t1 h1 => ?_⟩
    refine ⟨(by show 3 ≤ sizeLine; decide), fun t2 h2 => ?_⟩
    refine ⟨(by show 3 ≤ sizeLine; decide), fun t3 h3 => ?_⟩
    refine ⟨(by show 4 ≤ sizeLine; decide), fun t4 h4 => ?_⟩
    have e0 := Ex.new (o := .tup [V.str "chain", V.int 2, V.int (-1)]) h0
    have e1 := Ex.new (o := .tup [V.str "chain", V.int 2, V.int 1]) h1
    have e2 := Ex.new (o := .tup [V.str "chain", V.int 3, V.int 0]) h2
    have e3 := Ex.new (o := .tup [V.str "ring", V.int 4, V.int 0]) h3
    have e4 := Ex.new (o := .tup [V.ref t0, V.ref t1, V.ref t2, V.ref t3]) h4
    have a0 := e4 _ _ (e3 _ _ (e2 _ _ (e1 t0 (.tup [V.str "chain", V.int 2, V.int (-1)]) upd_same)))
    have a1 := e4 _ _ (e3 _ _ (e2 t1 (.tup [V.str "chain", V.int 2, V.int 1]) upd_same))
    have a2 := e4 _ _ (e3 t2 (.tup [V.str "chain", V.int 3, V.int 0]) upd_same)
    have a3 := e4 t3 (.tup [V.str "ring", V.int 4, V.int 0]) upd_same
    have a4 : upd (upd (upd (upd (upd H t0 (.tup [V.str "chain", V.int 2, V.int (-1)])) t1 (.tup [V.str "chain", V.int 2, V.int 1])) t2 (.tup [V.str "chain", V.int 3, V.int 0])) t3 (.tup [V.str "ring", V.int 4, V.int 0])) t4 (.tup [V.ref t0, V.ref t1, V.ref t2, V.ref t3]) t4 = some (.tup [V.ref t0, V.ref t1, V.ref t2, V.ref t3]) := upd_same
    have ee := (((e0.trans e1).trans e2).trans e3).trans e4
    clear e0 e1 e2 e3 e4
    have dp := dp4 (K := K) a4 a0 a1 a2 a3
    have hG := ee _ _ hts
    have gat : ∀ (i : Nat) (t : Addr) (e : GE), ts[i]? = some t → es[i]? = some e → GenAt _ t e := fun i t e x y => ee _ _ (tat i t e x y)
    have kk := k _ ee
    refine ⟨_, rfl, p, _, rfl, .inr (SqT.of hG), rfl, _, rfl, ?_⟩
    rw [List.length_map]
    match es, tl, gat, gd, kk with
    | [], tl, _, _, kk =>
      have tl : ts.length = 0 := tl
      rw [tl]
      exact iteT kk
    | [e], tl, gat, gd, kk =>
      have tl : ts.length = 1 := tl
      rw [tl]
      refine iteF ⟨_, rfl, p, _, rfl, .inr (SqT.of hG), rfl, _, rfl, ?_⟩
      rw [List.length_map, tl]
      refine iteT ?_
      have q0 : ts[0]? = some ts[0] := List.getElem?_eq_getElem (by omega)
      refine ⟨_, rfl, p, _, _, _, rfl, rfl, SqT.of hG, atI_nat (j := 0) (by rw [List.getElem?_map, q0]; rfl), _, rfl, encG e, _, dp_gen (gat 0 _ e q0 rfl), dp, shaped_gen (gd e (List.mem_cons_self ..)), shaped4, ?_⟩
      rw [safe_one]
      exact kk
    | e :: f :: rest, tl, _, _, kk =>
      have tl : ts.length = rest.length + 2 := tl
      rw [tl]
      rw [decide_eq_false (show ¬ V.int ((rest.length + 2 : Nat) : Int) = V.int 0 from fun z => by injection z with z; omega)]
      refine iteF ⟨_, rfl, p, _, rfl, .inr (SqT.of hG), rfl, _, rfl, ?_⟩
      rw [List.length_map, tl]
      rw [decide_eq_false (show ¬ V.int ((rest.length + 2 : Nat) : Int) = V.int 1 from fun z => by injection z with z; omega)]
      refine iteF ?_
      rw [safe_many (show 2 ≤ (e :: f :: rest).length by show 2 ≤ rest.length + 1 + 1; omega)] at kk
      exact kk

end

section
variable {P : Program} {w : World} {K : PySem.W.Frag} {mg : Str → Option Value} {base : Heap} {A : Ad}
theorem adj_all {fs : List Ent} (h : ∀ m (h1 : m + 1 < fs.length), leE fs[m] fs[m + 1] = true) : fs.Pairwise fun e f => leE e f = true := by
  have go : ∀ d i (hi : i + d + 1 < fs.length), leE fs[i] fs[i + d + 1] = true := fun d => by
    induction d with
    | zero => exact fun i hi => h i hi
    | succ d ih => exact fun i hi => le_trans' (ih i (by omega)) (h (i + d + 1) (by omega))
  rw [List.pairwise_iff_getElem]
  intro i j hi hj hij
  have e := go (j - i - 1) i (by omega)
  have ej : i + (j - i - 1) + 1 = j := by omega
  simp only [ej] at e
  exact e
theorem ok_law_kind_right (T : Txt K mg A)  (g_law_entry_right : Okd P w K mg base CX0 1 A.law_entry_right P_law_entry_right spEr) : Okd P w K mg base CX0 2 A.law_kind_right P_law_kind_right spKr := by
  obtain ⟨fd, F⟩ := T.d_law_kind_right
  obtain ⟨fd_law_entry_right, G_law_entry_right, b_law_entry_right⟩ := g_law_entry_right
  refine ⟨fd, F.ok sc_law_kind_right (fun vs H Q E h => ?_) (fun cdv A' outer s H vs Q E hr h => ?_), F.binds fun _ _ _ _ _ _ us hl => match us, hl with | [_], _ => rfl⟩
  · obtain ⟨p, es, rfl, _⟩ := h
    rfl
  · obtain ⟨p, es, rfl, hp, hl, kt, kf⟩ := h
    refine ⟨_, (pss_cons (ps_for PassesOwn.never rfl (pi_range1 (by rfl) T.n_range (pa_cons (pe_callB call_len_seq (by rfl) T.n_len PySem.boot_len (pa_cons (pv 0) pa_nil)) pa_nil)) (pg_name (i := 1) sc_law_kind_right.nd rfl (Or.inl rfl)) (pss_one (ps_if (PW.pt (pw_or (pt_not (pt_val (pe_call G_law_entry_right (hr.mono (by decide)) (by rfl) T.g_law_entry_right T.k_law_entry_right b_law_entry_right .nil pass0 (pa_cons (pe_ix ix_tup (pv 0) (pv 1) (fun _ _ => rfl)) pa_nil)))) (pw_or1 (PW.pt (pw_and (pt_cmpR op_gt (pv 1) pe_int (nomark _)) (pw_and1 (pt_cmpR (DaS.op_ltD hr.units) (pe_ix ix_tup (pv 0) (pv 1) (fun _ _ => rfl)) (pe_ix ix_tup (pv 0) (pe_op op_sub (pv 1) pe_int) (fun _ _ => rfl)) (nomark _)))))))) (pss_one (ps_ret pe_bl)) pss_nil)))
      (pss_one (ps_ret pe_bl))), ?_⟩
    obtain ⟨ts, hts, tl, tat⟩ := hp
    have ln : (ts.map V.ref).length = es.length := by rw [List.length_map, tl]
    refine ⟨_, rfl, p, _, rfl, .inr (SqT.of hts), _, rfl, by rw [ln]; omega, by rw [ln]; omega, ?_⟩
    rw [ln, Int.toNat_natCast]
    refine for_range (lo := 0) (n := es.length) (fun i σ G => ∃ v1 : Option V, σ = [some (.ref p), v1] ∧ G = H ∧ (∀ e ∈ es.take i, goodE e = true) ∧ ∀ m, m + 1 < i → ∀ (h1 : m + 1 < es.length), leE (frG es[m]) (frG es[m + 1]) = true) ⟨none, rfl, rfl, (fun e he => by cases he), (fun m hm => by omega)⟩ ?_ ?_
    · rintro i σ G hi ⟨v1, rfl, rfl, gd, ad⟩
      rw [Int.zero_add]
      have a1 : ts[i]? = some ts[i] := List.getElem?_eq_getElem (by omega)
      have e1 : es[i]? = some es[i] := List.getElem?_eq_getElem hi
      have E1 := tat _ _ _ a1 e1
      refine ⟨_, rfl, _, rfl, p, _, _, _, rfl, rfl, SqT.of hts, atR a1, ts[i], es[i], rfl, E1, ?_⟩
      cases c : goodE es[i] with
      | false => exact ⟨_, rfl, iteT (kf fun v => by have := v.1 _ (List.getElem_mem hi); rw [c] at this; cases this)⟩
      | true =>
        have gd2 : ∀ e ∈ es.take (i + 1), goodE e = true := fun f hf => by
          rw [List.take_add_one, e1] at hf
          rcases List.mem_append.mp hf with h | h
          · exact gd f h
          · rw [List.mem_singleton.mp h]
            exact c
        refine ⟨_, rfl, iteF ⟨_, rfl, _, _, rfl, rfl, _, rfl, ite_b (fun c1 => ?_) (fun c1 => ?_)⟩⟩
        rotate_left
        · have c1 := of_decide_eq_false c1
          exact ⟨_, rfl, rfl, gd2, fun m hm => by omega⟩
        have c1 := of_decide_eq_true c1
        obtain ⟨j, rfl⟩ : ∃ j, i = j + 1 := ⟨i - 1, by omega⟩
        have a0 : ts[j]? = some ts[j] := List.getElem?_eq_getElem (by omega)
        have e0 : es[j]? = some es[j] := List.getElem?_eq_getElem (by omega)
        have c0 : goodE es[j] = true := gd _ (by rw [List.mem_iff_getElem?]; exact ⟨j, by rw [List.getElem?_take, if_pos (by omega)]; exact e0⟩)
        have E0 := gen_ent c0 (tat _ _ _ a0 e0)
        have E1 := gen_ent c E1
        refine ⟨_, rfl, _, rfl, p, _, _, _, rfl, rfl, SqT.of hts, atR a1, _, rfl, _, rfl, _, _, rfl, rfl, p, _, _, _, rfl, rfl, SqT.of hts, (show atI (ts.map V.ref) (((j + 1 : Nat) : Int) - 1) = some (V.ref ts[j]) from by rw [show ((j + 1 : Nat) : Int) - 1 = (j : Int) by omega]; exact atR a0), encE (frG es[j + 1]), encE (frG es[j]), ⟨dp_ent E1, dp_ent E0, alike_ent _ _, (fun h => by cases h), Nat.le_trans (depth_ent _) (by decide)⟩, _, rfl, ?_⟩
        rw [data_lt (frG_lt _) (frG_lt _)]
        have ll : leE (frG es[j]) (frG es[j + 1]) = !ltE (frG es[j + 1]) (frG es[j]) := le_lt
        refine ite_b (fun c => ?_) (fun c => ?_)
        · rw [c] at ll
          refine kf fun v => ?_
          have := List.pairwise_iff_getElem.mp v.2 j (j + 1) (by rw [List.length_map]; omega) (by rw [List.length_map]; omega) (by omega)
          rw [List.getElem_map, List.getElem_map, ll] at this
          cases this
        · rw [c] at ll
          refine ⟨_, rfl, rfl, gd2, fun m hm h1 => ?_⟩
          by_cases z : m = j
          · subst z
            exact ll
          · exact ad m (by omega) h1
    · rintro σ G ⟨v1, rfl, rfl, gd, ad⟩
      rw [List.take_length] at gd
      refine kt ⟨gd, adj_all fun m h1 => ?_⟩
      rw [List.length_map] at h1
      rw [List.getElem_map, List.getElem_map]
      exact ad m h1 h1

end

section
variable {P : Program} {w : World} {K : PySem.W.Frag} {mg : Str → Option Value} {base : Heap} {A : Ad}
theorem ok_law_entry_right (T : Txt K mg A)   : Okd P w K mg base CX0 1 A.law_entry_right P_law_entry_right spEr := by
  obtain ⟨fd, F⟩ := T.d_law_entry_right

  refine ⟨fd, F.ok sc_law_entry_right (fun vs H Q E h => ?_) (fun cdv A' outer s H vs Q E hr h => ?_), F.binds fun _ _ _ _ _ _ us hl => match us, hl with | [_], _ => rfl⟩
  · obtain ⟨t, e, rfl, _⟩ := h
    rfl
  · obtain ⟨t, e, rfl, ht, k⟩ := h
    refine ⟨_, (pss_cons (ps_if (pt_cmpR op_eq (pe_ix ix_tup (pv 0) pe_int (fun _ _ => rfl)) pe_str (nomark _)) (pss_one (ps_ret (pe_and (pe_cmpR op_ge (pe_ix ix_tup (pv 0) pe_int (fun _ _ => rfl)) pe_int (nomark _)) (pe_and (pe_cmpR op_eq (pe_op op_mod (pe_callTy call_int1 (by rfl) T.n_int (by decide +kernel) (pa_cons (pe_ix ix_tup (pv 0) pe_int (fun _ _ => rfl)) pa_nil)) pe_int) pe_int (nomark _)) (pe_one (pe_cmpR op_eq (pe_ix ix_tup (pv 0) pe_int (fun _ _ => rfl)) pe_int (nomark _))))))) pss_nil)
      (pss_cons (ps_if (PW.pt (pw_or (pt_cmpR op_ne (pe_ix ix_tup (pv 0) pe_int (fun _ _ => rfl)) pe_str (nomark _)) (pw_or1 (pt_cmpR op_lt (pe_ix ix_tup (pv 0) pe_int (fun _ _ => rfl)) pe_int (nomark _))))) (pss_one (ps_ret pe_bl)) pss_nil)
      (pss_cons (ps_if (pt_cmpR op_eq (pe_op op_mod (pe_callTy call_int1 (by rfl) T.n_int (by decide +kernel) (pa_cons (pe_ix ix_tup (pv 0) pe_int (fun _ _ => rfl)) pa_nil)) pe_int) pe_int (nomark _)) (pss_one (ps_ret (pe_cmpR op_eq (pe_ix ix_tup (pv 0) pe_int (fun _ _ => rfl)) pe_int (nomark _)))) pss_nil)
      (pss_one (ps_ret (pe_or (pe_cmpR op_eq (pe_ix ix_tup (pv 0) pe_int (fun _ _ => rfl)) pe_int (nomark _)) (pe_one (pe_cmpR op_eq (pe_ix ix_tup (pv 0) pe_int (fun _ _ => rfl)) (pe_un un_neg pe_int) (nomark _))))))))), ?_⟩
    unfold goodE at k
    refine ⟨_, rfl, t, _, _, _, rfl, rfl, SqT.of ht, atI_nat (j := 0) rfl, rfl, _, rfl, ?_⟩
    rw [sq_]
    refine ite_b (fun c => ?_) (fun c => ?_)
    · rw [if_pos (of_decide_eq_true c)] at k
      refine ⟨_, rfl, t, _, _, _, rfl, rfl, SqT.of ht, atI_nat (j := 1) rfl, _, _, rfl, rfl, _, rfl, ite_b (fun c1 => ?_) (fun c1 => ?_)⟩
      rotate_left
      · rw [c1, Bool.false_and] at k
        exact k
      rw [c1, Bool.true_and] at k
      refine ⟨_, rfl, t, _, _, _, rfl, rfl, SqT.of ht, atI_nat (j := 1) rfl, Or.inl ⟨_, rfl, _, _, rfl, rfl, (by show (0 : Int) < 2; decide), rfl, _, rfl, ?_⟩⟩
      rw [iq_]
      refine ite_b (fun c2 => ?_) (fun c2 => ?_)
      rotate_left
      · rw [c2, Bool.false_and] at k
        exact k
      rw [c2, Bool.true_and] at k
      refine ⟨_, rfl, t, _, _, _, rfl, rfl, SqT.of ht, atI_nat (j := 2) rfl, rfl, ?_⟩
      rw [iq_]
      exact k
    rw [if_neg (of_decide_eq_false c)] at k
    refine ⟨_, rfl, t, _, _, _, rfl, rfl, SqT.of ht, atI_nat (j := 0) rfl, rfl, _, rfl, ?_⟩
    rw [sq_]
    by_cases c1 : e.1 = (Str.ofString "chain")
    rotate_left
    · rw [if_neg c1] at k
      rw [decide_eq_false c1]
      exact iteT (iteT k)
    rw [decide_eq_true c1]
    rw [if_pos c1] at k
    refine iteF ?_
    refine ⟨_, rfl, t, _, _, _, rfl, rfl, SqT.of ht, atI_nat (j := 1) rfl, _, _, rfl, rfl, _, rfl, ?_⟩
    refine ite_b (fun c2 => ?_) (fun c2 => ?_)
    · rw [if_pos (of_decide_eq_true c2)] at k
      exact k
    have c2' := of_decide_eq_false c2
    rw [if_neg c2'] at k
    refine ⟨_, rfl, t, _, _, _, rfl, rfl, SqT.of ht, atI_nat (j := 1) rfl, Or.inl ⟨_, rfl, _, _, rfl, rfl, (by show (0 : Int) < 2; decide), rfl, _, rfl, ?_⟩⟩
    rw [iq_]
    refine ite_b (fun c3 => ?_) (fun c3 => ?_)
    · have c3 := of_decide_eq_true c3
      rw [if_neg (by omega)] at k
      refine ⟨_, rfl, t, _, _, _, rfl, rfl, SqT.of ht, atI_nat (j := 2) rfl, rfl, ?_⟩
      rw [iq_]
      exact k
    have c3 := of_decide_eq_false c3
    rw [if_pos (by omega)] at k
    refine ⟨_, rfl, t, _, _, _, rfl, rfl, SqT.of ht, atI_nat (j := 2) rfl, rfl, _, rfl, ?_⟩
    rw [iq_]
    refine ite_b (fun c4 => ?_) (fun c4 => ?_)
    · rw [c4, Bool.true_or] at k
      exact k
    · rw [c4, Bool.false_or] at k
      refine ⟨_, rfl, t, _, _, _, rfl, rfl, SqT.of ht, atI_nat (j := 2) rfl, _, rfl, rfl, ?_⟩
      show Q (V.bl (decide (V.int e.2.2 = V.int (-1)))) H
      rw [iq_]
      exact k

end

section
variable {P : Program} {w : World} {K : PySem.W.Frag} {mg : Str → Option Value} {base : Heap} {A : Ad}
theorem ok_law_bent_kind (T : Txt K mg A)  (g_law_draw : Okd P w K mg base CX0 1 A.law_draw P_law_draw spDw) : Okd P w K mg base CX0 2 A.law_bent_kind P_law_bent_kind spBk := by
  obtain ⟨fd, F⟩ := T.d_law_bent_kind
  obtain ⟨fd_law_draw, G_law_draw, b_law_draw⟩ := g_law_draw
  refine ⟨fd, F.ok sc_law_bent_kind (fun vs H Q E h => ?_) (fun cdv A' outer s H vs Q E hr h => ?_), F.binds fun _ _ _ _ _ _ us hl => match us, hl with | [_, _], _ => rfl⟩
  · obtain ⟨b, c, q, es, rfl, _⟩ := h
    rfl
  · obtain ⟨b, c, q, es, rfl, B, hq, hl, h40, k⟩ := h
    refine ⟨_, (pss_cons (ps_set (i := 2) sc_law_bent_kind.nd rfl (Or.inl rfl) (pe_call G_law_draw (hr.mono (by decide)) (by rfl) T.g_law_draw T.k_law_draw b_law_draw .nil pass0 (pa_cons (pv 0) (pa_cons pe_int pa_nil))))
      (pss_cons (ps_set (i := 3) sc_law_bent_kind.nd rfl (Or.inl rfl) (pe_op op_mul pe_int (pe_call G_law_draw (hr.mono (by decide)) (by rfl) T.g_law_draw T.k_law_draw b_law_draw .nil pass0 (pa_cons (pv 0) (pa_cons pe_int pa_nil)))))
      (pss_cons (ps_set (i := 4) sc_law_bent_kind.nd rfl (Or.inl rfl) (pe_op op_sub pe_int (pe_op op_mul pe_int (pe_call G_law_draw (hr.mono (by decide)) (by rfl) T.g_law_draw T.k_law_draw b_law_draw .nil pass0 (pa_cons (pv 0) (pa_cons pe_int pa_nil))))))
      (pss_cons (ps_set (i := 5) sc_law_bent_kind.nd rfl (Or.inl rfl) (pe_call G_law_draw (hr.mono (by decide)) (by rfl) T.g_law_draw T.k_law_draw b_law_draw .nil pass0 (pa_cons (pv 0) (pa_cons (pe_op op_add (pe_callB call_len_seq (by rfl) T.n_len PySem.boot_len (pa_cons (pv 1) pa_nil)) pe_int) pa_nil))))
      (pss_cons (ps_set (i := 6) sc_law_bent_kind.nd rfl (Or.inl rfl) (pe_call G_law_draw (hr.mono (by decide)) (by rfl) T.g_law_draw T.k_law_draw b_law_draw .nil pass0 (pa_cons (pv 0) (pa_cons pe_int pa_nil))))
      (pss_cons (ps_set (i := 7) sc_law_bent_kind.nd rfl (Or.inl rfl) (pe_ix ix_tup (pe_tup (pa_cons pe_str (pa_cons pe_str (pa_cons pe_str (pa_cons pe_str pa_nil))))) (pe_call G_law_draw (hr.mono (by decide)) (by rfl) T.g_law_draw T.k_law_draw b_law_draw .nil pass0 (pa_cons (pv 0) (pa_cons pe_int pa_nil))) (fun _ _ => rfl)))
      (pss_cons (ps_if (pt_cmpR op_eq (pv 2) pe_int (nomark _)) (pss_one (ps_ret (RvT.pe_tupBack (by rfl) (by rfl) T.n_tuple (by rfl) T.n_reversed (pv 1)))) pss_nil)
      (pss_cons (ps_set (i := 8) sc_law_bent_kind.nd rfl (Or.inl rfl) (pe_tup (pa_cons pe_str (pa_cons (pe_op op_add pe_int (pv 3)) (pa_cons pe_int pa_nil)))))
      (pss_cut (ps_if (pt_cmpR op_eq (pv 2) pe_int (nomark _)) (pss_one (ps_set (i := 8) sc_law_bent_kind.nd rfl (Or.inl rfl) (pe_tup (pa_cons pe_str (pa_cons (pe_op op_add pe_int (pv 3)) (pa_cons (pv 4) pa_nil)))))) pss_nil)
      (pss_cut (ps_if (pt_cmpR op_eq (pv 2) pe_int (nomark _)) (pss_one (ps_set (i := 8) sc_law_bent_kind.nd rfl (Or.inl rfl) (pe_tup (pa_cons pe_str (pa_cons (pe_op op_add pe_int (pv 3)) (pa_cons (pv 4) pa_nil)))))) pss_nil)
      (pss_cut (ps_if (pt_cmpR op_eq (pv 2) pe_int (nomark _)) (pss_one (ps_set (i := 8) sc_law_bent_kind.nd rfl (Or.inl rfl) (pe_tup (pa_cons pe_str (pa_cons (pe_op op_add pe_int (pv 3)) (pa_cons pe_int pa_nil)))))) pss_nil)
      (pss_cut (ps_if (pt_cmpR op_eq (pv 2) pe_int (nomark _)) (pss_one (ps_set (i := 8) sc_law_bent_kind.nd rfl (Or.inl rfl) (pe_tup (pa_cons pe_str (pa_cons (pe_op op_sub pe_int (pv 3)) (pa_cons pe_int pa_nil)))))) pss_nil)
      (pss_cut (ps_if (pt_cmpR op_eq (pv 2) pe_int (nomark _)) (pss_one (ps_set (i := 8) sc_law_bent_kind.nd rfl (Or.inl rfl) (pe_tup (pa_cons pe_str (pa_cons (pe_op op_sub pe_int (pv 3)) (pa_cons pe_int pa_nil)))))) pss_nil)
      (pss_cut (ps_if (pt_cmpR op_eq (pv 2) pe_int (nomark _)) (pss_one (ps_set (i := 8) sc_law_bent_kind.nd rfl (Or.inl rfl) (pe_tup (pa_cons pe_str (pa_cons (pe_op op_add pe_int (pv 3)) (pa_cons (pe_op op_mul pe_int (pv 4)) pa_nil)))))) pss_nil)
      (pss_cut (ps_if (pt_cmpR op_eq (pv 2) pe_int (nomark _)) (pss_one (ps_set (i := 8) sc_law_bent_kind.nd rfl (Or.inl rfl) (pe_tup (pa_cons (pv 7) (pa_cons (pe_op op_add pe_int (pv 3)) (pa_cons pe_int pa_nil)))))) pss_nil)
      (pss_cut (ps_if (pt_cmpR op_eq (pv 2) pe_int (nomark _)) (pss_one (ps_set (i := 8) sc_law_bent_kind.nd rfl (Or.inl rfl) (pe_tup (pa_cons pe_str (pa_cons (pe_op op_sub pe_int (pv 3)) (pa_cons (pv 4) pa_nil)))))) pss_nil)
      (pss_cons (ps_set (i := 9) sc_law_bent_kind.nd rfl (Or.inl rfl) (pe_callTy call_list_of (by rfl) T.n_list (by decide +kernel) (pa_cons (pv 1) pa_nil)))
      (pss_cons (ps_expr (pe_bm PySem.F.plainAttrs_list PySem.F.slot_list_insert PySem.F.type_list_insert mt_insert (pv 9) (pa_cons (pv 5) (pa_cons (pv 8) pa_nil))))
      (pss_cut (ps_if (pt_cmpR op_eq (pv 6) pe_int (nomark _)) (pss_one (ps_set (i := 9) sc_law_bent_kind.nd rfl (Or.inl rfl) (pe_callB (DaS.cr_sortD hr.units) (by rfl) T.n_sorted (by decide +kernel) (pa_cons (pv 9) pa_nil)))) pss_nil)
      (pss_one (ps_ret (pe_callTy call_tuple_of (by rfl) T.n_tuple (by decide +kernel) (pa_cons (pv 9) pa_nil))))))))))))))))))))))), ?_⟩
    refine ⟨_, rfl, b, c, 10, rfl, by decide, by decide, B, fun d1 H1 hd1 B1 M1 => ?_⟩
    refine ⟨_, rfl, b, c, 5, rfl, by decide, by decide, B1, fun d2 H2 hd2 B2 M2 => ⟨_, _, rfl, rfl, Or.inl ⟨by decide, by decide⟩, ?_⟩⟩
    refine ⟨_, rfl, b, c, 2, rfl, by decide, by decide, B2, fun d3 H3 hd3 B3 M3 => ⟨_, _, rfl, rfl, Or.inl ⟨by decide, by decide⟩, _, _, rfl, rfl, ?_⟩⟩
    obtain ⟨ts, hts, tl, tat⟩ := hq
    have M13 := (M1.trans M2).trans M3
    have nqb : q ≠ b := fun z => by
      obtain ⟨_, _, _, _, _, w1, _⟩ := B
      rw [z, w1] at hts
      cases hts
    have hts3 := M13 _ _ nqb hts
    refine ⟨_, rfl, _, rfl, q, _, rfl, .inr (SqT.of hts3), _, _, rfl, rfl, b, c, ((ts.map V.ref).length : Int) + 1, rfl, by omega, by rw [List.length_map]; omega, B3, fun d4 H4 hd4 B4 M4 => ?_⟩
    refine ⟨_, rfl, b, c, 2, rfl, by decide, by decide, B4, fun d5 H5 hd5 B5 M5 => ?_⟩
    have mi : ∀ d, d < 4 → ∃ z : Str, [V.str "rings", V.str "", V.str "Chain", V.str "chains"][d]? = some (V.str z) := fun d hd => by
      match d, hd with
      | 0, _ => exact ⟨_, rfl⟩
      | 1, _ => exact ⟨_, rfl⟩
      | 2, _ => exact ⟨_, rfl⟩
      | 3, _ => exact ⟨_, rfl⟩
    refine ⟨(by show 4 ≤ sizeLine; decide), fun tw htw => ?_⟩
    have eT := Ex.new (o := .tup [V.str "rings", V.str "", V.str "Chain", V.str "chains"]) htw
    have hT : upd H5 tw (.tup [V.str "rings", V.str "", V.str "Chain", V.str "chains"]) tw = some (.tup [V.str "rings", V.str "", V.str "Chain", V.str "chains"]) := upd_same
    have nwb := (B5.ne htw).1
    have B6 := B5.ex eT
    have M6 := (((M13.trans M4).trans M5).ext eT)
    generalize upd H5 tw (.tup [V.str "rings", V.str "", V.str "Chain", V.str "chains"]) = H6 at hT B6 M6 ⊢
    refine ⟨_, rfl, b, c, 4, rfl, by decide, by decide, B6, fun d6 H7 hd6 B7 M7 => ?_⟩
    obtain ⟨wd, hwd⟩ := mi d6 (by omega)
    refine ⟨tw, _, _, _, rfl, rfl, SqT.of (M7 _ _ nwb hT), atI_nat hwd, ?_⟩
    have M8 := M6.trans M7
    have tat8 : ∀ {G : Hp}, Mut b H G → ∀ (i : Nat) (t : Addr) (e : GE), ts[i]? = some t → es[i]? = some e → GenAt G t e := fun {G} M i t e x y => by
      have g := tat i t e x y
      refine M _ _ (fun z => ?_) g
      obtain ⟨_, _, _, _, _, w1, _⟩ := B
      have g : H t = some _ := g
      rw [z, w1] at g
      cases g
    refine ⟨_, rfl, rfl, _, rfl, ite_b (fun _ => ?_) (fun _ => ?_)⟩
    · refine ⟨_, rfl, q, _, rfl, SqT.of (M8 _ _ nqb hts), fun p hp => ?_⟩
      refine k p es.reverse _ (bx_back B7 M8 hp) (B7.ex (Ex.new hp)) (M8.ext (Ex.new hp)) ⟨ts.reverse, by rw [upd_same, List.map_reverse], by rw [List.length_reverse, List.length_reverse]; exact tl, fun i t e x y => ?_⟩ ⟨by rw [List.length_reverse]; omega, by rw [totZ_perm (List.reverse_perm es)]; omega⟩
      have il : i < ts.length := by
        have := (List.getElem?_eq_some_iff.mp x).1
        rw [List.length_reverse] at this
        exact this
      rw [List.getElem?_reverse il] at x
      rw [List.getElem?_reverse (by omega), ← tl] at y
      exact Ex.new hp _ _ (tat8 M8 _ _ _ x y)
    refine ⟨_, rfl, _, _, rfl, rfl, (by show 3 ≤ sizeLine; decide), fun t ht0 => ?_⟩
    obtain ⟨e, ht, e12⟩ : ∃ e : GE, GenAt (upd H7 t (.tup [V.str "chain", V.int (2 + 2 * (d2 : Int)), V.int 0])) t e ∧ e.2.1 ≤ 12 := ⟨("chain", 2 + 2 * (d2 : Int), 0), upd_same, by show 2 + 2 * (d2 : Int) ≤ 12; omega⟩
    have BG := B7.ex (Ex.new (o := .tup [V.str "chain", V.int (2 + 2 * (d2 : Int)), V.int 0]) ht0)
    have MG := M8.ext (Ex.new (o := .tup [V.str "chain", V.int (2 + 2 * (d2 : Int)), V.int 0]) ht0)
    refine ⟨fun σ G => ∃ (t : Addr) (e : GE), σ = [some (.ref b), some (.ref q), some (.int (d1 : Int)), some (.int (2 * (d2 : Int))), some (.int (1 - 2 * (d3 : Int))), some (.int (d4 : Int)), some (.int (d5 : Int)), some (.str wd), some (.ref t), none] ∧ GenAt G t e ∧ e.2.1 ≤ 12 ∧ Bx G b c ∧ Mut b H G, ?_, ?_⟩
    · refine ⟨_, rfl, rfl, _, rfl, ite_b (fun _ => ?_) (fun _ => ⟨t, e, rfl, ht, e12, BG, MG⟩)⟩
      refine ⟨_, rfl, _, _, rfl, rfl, _, rfl, (by show 3 ≤ sizeLine; decide), fun t2 ht2 => ?_⟩
      exact ⟨t2, (_, _, _), rfl, upd_same, (by dsimp only; omega), BG.ex (Ex.new ht2), MG.ext (Ex.new ht2)⟩
    rintro σ G ⟨t, e, rfl, ht, e12, BG, MG⟩
    refine ⟨fun σ G => ∃ (t : Addr) (e : GE), σ = [some (.ref b), some (.ref q), some (.int (d1 : Int)), some (.int (2 * (d2 : Int))), some (.int (1 - 2 * (d3 : Int))), some (.int (d4 : Int)), some (.int (d5 : Int)), some (.str wd), some (.ref t), none] ∧ GenAt G t e ∧ e.2.1 ≤ 12 ∧ Bx G b c ∧ Mut b H G, ?_, ?_⟩
    · refine ⟨_, rfl, rfl, _, rfl, ite_b (fun _ => ?_) (fun _ => ⟨t, e, rfl, ht, e12, BG, MG⟩)⟩
      refine ⟨_, rfl, _, _, rfl, rfl, _, rfl, (by show 3 ≤ sizeLine; decide), fun t2 ht2 => ?_⟩
      exact ⟨t2, (_, _, _), rfl, upd_same, (by dsimp only; omega), BG.ex (Ex.new ht2), MG.ext (Ex.new ht2)⟩
    rintro σ G ⟨t, e, rfl, ht, e12, BG, MG⟩
    refine ⟨fun σ G => ∃ (t : Addr) (e : GE), σ = [some (.ref b), some (.ref q), some (.int (d1 : Int)), some (.int (2 * (d2 : Int))), some (.int (1 - 2 * (d3 : Int))), some (.int (d4 : Int)), some (.int (d5 : Int)), some (.str wd), some (.ref t), none] ∧ GenAt G t e ∧ e.2.1 ≤ 12 ∧ Bx G b c ∧ Mut b H G, ?_, ?_⟩
    · refine ⟨_, rfl, rfl, _, rfl, ite_b (fun _ => ?_) (fun _ => ⟨t, e, rfl, ht, e12, BG, MG⟩)⟩
      refine ⟨_, rfl, _, _, rfl, rfl, (by show 3 ≤ sizeLine; decide), fun t2 ht2 => ?_⟩
      exact ⟨t2, (_, _, _), rfl, upd_same, (by dsimp only; omega), BG.ex (Ex.new ht2), MG.ext (Ex.new ht2)⟩
    rintro σ G ⟨t, e, rfl, ht, e12, BG, MG⟩
    refine ⟨fun σ G => ∃ (t : Addr) (e : GE), σ = [some (.ref b), some (.ref q), some (.int (d1 : Int)), some (.int (2 * (d2 : Int))), some (.int (1 - 2 * (d3 : Int))), some (.int (d4 : Int)), some (.int (d5 : Int)), some (.str wd), some (.ref t), none] ∧ GenAt G t e ∧ e.2.1 ≤ 12 ∧ Bx G b c ∧ Mut b H G, ?_, ?_⟩
    · refine ⟨_, rfl, rfl, _, rfl, ite_b (fun _ => ?_) (fun _ => ⟨t, e, rfl, ht, e12, BG, MG⟩)⟩
      refine ⟨_, rfl, _, _, rfl, rfl, (by show 3 ≤ sizeLine; decide), fun t2 ht2 => ?_⟩
      exact ⟨t2, (_, _, _), rfl, upd_same, (by dsimp only; omega), BG.ex (Ex.new ht2), MG.ext (Ex.new ht2)⟩
    rintro σ G ⟨t, e, rfl, ht, e12, BG, MG⟩
    refine ⟨fun σ G => ∃ (t : Addr) (e : GE), σ = [some (.ref b), some (.ref q), some (.int (d1 : Int)), some (.int (2 * (d2 : Int))), some (.int (1 - 2 * (d3 : Int))), some (.int (d4 : Int)), some (.int (d5 : Int)), some (.str wd), some (.ref t), none] ∧ GenAt G t e ∧ e.2.1 ≤ 12 ∧ Bx G b c ∧ Mut b H G, ?_, ?_⟩
    · refine ⟨_, rfl, rfl, _, rfl, ite_b (fun _ => ?_) (fun _ => ⟨t, e, rfl, ht, e12, BG, MG⟩)⟩
      refine ⟨_, rfl, _, _, rfl, rfl, (by show 3 ≤ sizeLine; decide), fun t2 ht2 => ?_⟩
      exact ⟨t2, (_, _, _), rfl, upd_same, (by dsimp only; omega), BG.ex (Ex.new ht2), MG.ext (Ex.new ht2)⟩
    rintro σ G ⟨t, e, rfl, ht, e12, BG, MG⟩
    refine ⟨fun σ G => ∃ (t : Addr) (e : GE), σ = [some (.ref b), some (.ref q), some (.int (d1 : Int)), some (.int (2 * (d2 : Int))), some (.int (1 - 2 * (d3 : Int))), some (.int (d4 : Int)), some (.int (d5 : Int)), some (.str wd), some (.ref t), none] ∧ GenAt G t e ∧ e.2.1 ≤ 12 ∧ Bx G b c ∧ Mut b H G, ?_, ?_⟩
    · refine ⟨_, rfl, rfl, _, rfl, ite_b (fun _ => ?_) (fun _ => ⟨t, e, rfl, ht, e12, BG, MG⟩)⟩
      refine ⟨_, rfl, _, _, rfl, rfl, _, rfl, _, _, rfl, rfl, Or.inl ⟨by decide, by decide⟩, (by show 3 ≤ sizeLine; decide), fun t2 ht2 => ?_⟩
      exact ⟨t2, (_, _, _), rfl, upd_same, (by dsimp only; omega), BG.ex (Ex.new ht2), MG.ext (Ex.new ht2)⟩
    rintro σ G ⟨t, e, rfl, ht, e12, BG, MG⟩
    refine ⟨fun σ G => ∃ (t : Addr) (e : GE), σ = [some (.ref b), some (.ref q), some (.int (d1 : Int)), some (.int (2 * (d2 : Int))), some (.int (1 - 2 * (d3 : Int))), some (.int (d4 : Int)), some (.int (d5 : Int)), some (.str wd), some (.ref t), none] ∧ GenAt G t e ∧ e.2.1 ≤ 12 ∧ Bx G b c ∧ Mut b H G, ?_, ?_⟩
    · refine ⟨_, rfl, rfl, _, rfl, ite_b (fun _ => ?_) (fun _ => ⟨t, e, rfl, ht, e12, BG, MG⟩)⟩
      refine ⟨_, rfl, _, rfl, _, _, rfl, rfl, (by show 3 ≤ sizeLine; decide), fun t2 ht2 => ?_⟩
      exact ⟨t2, (_, _, _), rfl, upd_same, (by dsimp only; omega), BG.ex (Ex.new ht2), MG.ext (Ex.new ht2)⟩
    rintro σ G ⟨t, e, rfl, ht, e12, BG, MG⟩
    refine ⟨fun σ G => ∃ (t : Addr) (e : GE), σ = [some (.ref b), some (.ref q), some (.int (d1 : Int)), some (.int (2 * (d2 : Int))), some (.int (1 - 2 * (d3 : Int))), some (.int (d4 : Int)), some (.int (d5 : Int)), some (.str wd), some (.ref t), none] ∧ GenAt G t e ∧ e.2.1 ≤ 12 ∧ Bx G b c ∧ Mut b H G, ?_, ?_⟩
    · refine ⟨_, rfl, rfl, _, rfl, ite_b (fun _ => ?_) (fun _ => ⟨t, e, rfl, ht, e12, BG, MG⟩)⟩
      refine ⟨_, rfl, _, _, rfl, rfl, _, rfl, (by show 3 ≤ sizeLine; decide), fun t2 ht2 => ?_⟩
      exact ⟨t2, (_, _, _), rfl, upd_same, (by dsimp only; omega), BG.ex (Ex.new ht2), MG.ext (Ex.new ht2)⟩
    rintro σ G ⟨t, e, rfl, ht, e12, BG, MG⟩
    refine ⟨_, rfl, q, _, rfl, .inr (SqT.of (MG _ _ nqb hts)), fun r hr => ?_⟩
    obtain ⟨nrb, nrc⟩ := BG.ne hr
    have fr : H r = none := MG.free nrb hr
    have eR := Ex.new (o := .lst (ts.map V.ref)) hr
    have hR : upd G r (.lst (ts.map V.ref)) r = some (.lst (ts.map V.ref)) := upd_same
    have BR := BG.ex eR
    have MR := MG.ext eR
    have htR : GenAt (upd G r (.lst (ts.map V.ref))) t e := eR _ _ ht
    have ntr : t ≠ r := fun z => by have ht : G t = some _ := ht; rw [z, hr] at ht; cases ht
    generalize upd G r (.lst (ts.map V.ref)) = G2 at hR BR MR htR ⊢
    refine ⟨_, rfl, .inl ⟨rfl, _, SqL.of hR⟩, _, rfl, _, rfl, r, _, (d4 : Int), _, rfl, rfl, hR, small1000 (by rw [List.length_map]; omega), by omega, by rw [List.length_map] at hd4; omega, ?_⟩
    rw [List.length_map] at hd4
    have K3 : ∀ x o, x ≠ r → G2 x = some o → upd G2 r (.lst (List.take (d4 : Int).toNat (ts.map V.ref) ++ [V.ref t] ++ List.drop (d4 : Int).toNat (ts.map V.ref))) x = some o := fun x o h1 h => by rw [upd_ne h1]; exact h
    have hR3 : upd G2 r (.lst (List.take (d4 : Int).toNat (ts.map V.ref) ++ [V.ref t] ++ List.drop (d4 : Int).toNat (ts.map V.ref))) r = some (.lst ((ts.take d4 ++ [t] ++ ts.drop d4).map V.ref)) := by
      rw [upd_same, Int.toNat_natCast, List.map_append, List.map_append, List.map_take, List.map_drop]
      rfl
    generalize upd G2 r (.lst (List.take (d4 : Int).toNat (ts.map V.ref) ++ [V.ref t] ++ List.drop (d4 : Int).toNat (ts.map V.ref))) = G3 at K3 hR3 ⊢
    have B3' : Bx G3 b c := BR.keep (fun o h => K3 _ _ (Ne.symm nrb) h) (fun o h => K3 _ _ (Ne.symm nrc) h)
    have M3' : Mut b H G3 := fun x o h1 h => K3 _ _ (ne_of_none h fr) (MR _ _ h1 h)
    have gt3 : GenAt G3 t e := K3 _ _ ntr htR
    have all3 := ins_at tl (show d4 ≤ ts.length by omega) (tat8 M3') gt3
    have len3 : (ts.take d4 ++ [t] ++ ts.drop d4).length = (es.take d4 ++ [e] ++ es.drop d4).length := by
      rw [List.length_append, List.length_append, List.length_append, List.length_append, List.length_take, List.length_take, List.length_drop, List.length_drop, tl]
      rfl
    have few3 : FewK (es.take d4 ++ [e] ++ es.drop d4) := few_ins (by omega) hl h40 e12
    generalize ts.take d4 ++ [t] ++ ts.drop d4 = us at hR3 all3 len3
    generalize es.take d4 ++ [e] ++ es.drop d4 = fs at all3 len3 few3
    refine ⟨fun σ G => ∃ (r : Addr) (us : List Addr) (fs : List GE), σ = [some (.ref b), some (.ref q), some (.int (d1 : Int)), some (.int (2 * (d2 : Int))), some (.int (1 - 2 * (d3 : Int))), some (.int (d4 : Int)), some (.int (d5 : Int)), some (.str wd), some (.ref t), some (.ref r)] ∧ G r = some (.lst (us.map V.ref)) ∧ us.length = fs.length ∧ (∀ (i : Nat) (t : Addr) (e : GE), us[i]? = some t → fs[i]? = some e → GenAt G t e) ∧ FewK fs ∧ Bx G b c ∧ Mut b H G, ?_, ?_⟩
    · refine ⟨_, rfl, rfl, _, rfl, ite_b (fun _ => ?_) (fun _ => ⟨r, us, fs, rfl, hR3, len3, all3, few3, B3', M3'⟩)⟩
      obtain ⟨bs, ts', es', o1, o2, o3, o4, o5, pm, tl', tat'⟩ := sortG (K := K) hR3 len3 all3
      refine ⟨_, rfl, r, bs, rfl, o1, o2, o3, o4, fun p hp => ?_⟩
      rw [o5]
      have eP := Ex.new (o := .lst (ts'.map V.ref)) hp
      exact ⟨p, ts', es', rfl, upd_same, tl', fun i t e x y => eP _ _ (tat' i t e x y), FewK.perm pm few3, B3'.ex eP, M3'.ext eP⟩
    rintro σ G4 ⟨r4, us4, fs4, rfl, h4, l4, a4, f4, B4', M4'⟩
    refine ⟨_, rfl, r4, _, rfl, Or.inl ⟨SqL.of h4, fun p hp => ?_⟩⟩
    have eP := Ex.new (o := .tup (us4.map V.ref)) hp
    exact k p fs4 _ (bx_back B4' M4' hp) (B4'.ex eP) (M4'.ext eP) ⟨us4, upd_same, l4, fun i t e x y => eP _ _ (a4 i t e x y)⟩ f4

end

section
variable {P : Program} {w : World} {K : PySem.W.Frag} {mg : Str → Option Value} {base : Heap} {A : Ad}
theorem ok_law_tame (T : Txt K mg A)  (g_law_draw : Okd P w K mg base CX0 1 A.law_draw P_law_draw spDw) : Okd P w K mg base CX0 2 A.law_tame P_law_tame spTa := by
  obtain ⟨fd, F⟩ := T.d_law_tame
  obtain ⟨fd_law_draw, G_law_draw, b_law_draw⟩ := g_law_draw
  refine ⟨fd, F.ok sc_law_tame (fun vs H Q E h => ?_) (fun cdv A' outer s H vs Q E hr h => ?_), F.binds fun _ _ _ _ _ _ us hl => match us, hl with | [_], _ => rfl⟩
  · obtain ⟨b, c, rfl, _⟩ := h
    rfl
  · obtain ⟨b, c, rfl, B, k⟩ := h
    refine ⟨_, (pss_cons (ps_set (i := 1) sc_law_tame.nd rfl (Or.inl rfl) (pe_call G_law_draw (hr.mono (by decide)) (by rfl) T.g_law_draw T.k_law_draw b_law_draw .nil pass0 (pa_cons (pv 0) (pa_cons pe_int pa_nil))))
      (pss_cons (ps_if (pt_cmpR op_eq (pv 1) pe_int (nomark _)) (pss_one (ps_ret (pe_tup pa_nil))) pss_nil)
      (pss_one (ps_ret (pe_tup (pa_cons (pe_ix ix_tup (pe_tup (pa_cons (pe_tup (pa_cons pe_str (pa_cons pe_int (pa_cons (pe_un un_neg pe_int) pa_nil)))) (pa_cons (pe_tup (pa_cons pe_str (pa_cons pe_int (pa_cons pe_int pa_nil)))) (pa_cons (pe_tup (pa_cons pe_str (pa_cons pe_int (pa_cons pe_int pa_nil)))) (pa_cons (pe_tup (pa_cons pe_str (pa_cons pe_int (pa_cons pe_int pa_nil)))) pa_nil))))) (pv 1) (fun _ _ => rfl)) pa_nil)))))), ?_⟩
    refine ⟨_, rfl, b, c, 5, rfl, by decide, by decide, B, fun d1 H1 hd1 B1 M1 => ?_⟩
    refine ⟨_, rfl, rfl, _, rfl, ite_b (fun _ => ?_) (fun c1 => ?_)⟩
    · refine ⟨(by show 0 ≤ sizeLine; decide), fun t ht => ?_⟩
      exact k t [] _ (bx_back B1 M1 ht) (B1.ex (Ex.new ht)) (M1.ext (Ex.new ht)) ⟨[], upd_same, rfl, fun i t e x => by cases x⟩ ⟨by decide, by decide⟩
    have c1 : d1 < 4 := by
      have c1 := of_decide_eq_false c1
      have : ¬ d1 = 4 := fun z => c1 (by rw [z]; rfl)
      omega
    refine ⟨_, rfl, (by show 3 ≤ sizeLine; decide), fun t0 h0 => ?_⟩
    refine ⟨(by show 3 ≤ sizeLine; decide), fun t1 h1 => ?_⟩
    refine ⟨(by show 3 ≤ sizeLine; decide), fun t2 h2 => ?_⟩
    refine ⟨(by show 3 ≤ sizeLine; decide), fun t3 h3 => ?_⟩
    refine ⟨(by show 4 ≤ sizeLine; decide), fun t4 h4 => ?_⟩
    have e0 := Ex.new (o := .tup [V.str "chain", V.int 2, V.int (-1)]) h0
    have e1 := Ex.new (o := .tup [V.str "chain", V.int 2, V.int 1]) h1
    have e2 := Ex.new (o := .tup [V.str "chain", V.int 3, V.int 0]) h2
    have e3 := Ex.new (o := .tup [V.str "ring", V.int 4, V.int 0]) h3
    have e4 := Ex.new (o := .tup [V.ref t0, V.ref t1, V.ref t2, V.ref t3]) h4
    have a0 := e4 _ _ (e3 _ _ (e2 _ _ (e1 t0 (.tup [V.str "chain", V.int 2, V.int (-1)]) upd_same)))
    have a1 := e4 _ _ (e3 _ _ (e2 t1 (.tup [V.str "chain", V.int 2, V.int 1]) upd_same))
    have a2 := e4 _ _ (e3 t2 (.tup [V.str "chain", V.int 3, V.int 0]) upd_same)
    have a3 := e4 t3 (.tup [V.str "ring", V.int 4, V.int 0]) upd_same
    have ee := (((e0.trans e1).trans e2).trans e3).trans e4
    have fin : ∀ (t : Addr) (e : GE), totZ [e] ≤ 64 → ∀ (G : Hp), Ex H1 G → GenAt G t e → ∀ q, G q = none → Q (.ref q) (upd G q (.tup [V.ref t])) := fun t e le G x g q hq =>
      k q [e] _ (bx_back B1 M1 (back_none x hq)) (B1.ex (x.trans (Ex.new hq))) (M1.ext (x.trans (Ex.new hq))) ⟨[t], upd_same, rfl, fun i t' e' p1 p2 => by
        match i, p1, p2 with
        | 0, p1, p2 => rw [← Option.some.inj p1, ← Option.some.inj p2]; exact Ex.new hq _ _ g
        | i + 1, p1, p2 => cases p1⟩ ⟨by show 1 ≤ 60; decide, le⟩
    match d1, c1 with
    | 0, _ => exact ⟨_, rfl, t4, _, _, _, rfl, rfl, SqT.of upd_same, atI_nat (j := 0) rfl, (by show 1 ≤ sizeLine; decide), fin _ gA (by decide) _ ee a0⟩
    | 1, _ => exact ⟨_, rfl, t4, _, _, _, rfl, rfl, SqT.of upd_same, atI_nat (j := 1) rfl, (by show 1 ≤ sizeLine; decide), fin _ gB (by decide) _ ee a1⟩
    | 2, _ => exact ⟨_, rfl, t4, _, _, _, rfl, rfl, SqT.of upd_same, atI_nat (j := 2) rfl, (by show 1 ≤ sizeLine; decide), fin _ gC (by decide) _ ee a2⟩
    | 3, _ => exact ⟨_, rfl, t4, _, _, _, rfl, rfl, SqT.of upd_same, atI_nat (j := 3) rfl, (by show 1 ≤ sizeLine; decide), fin _ gD (by decide) _ ee a3⟩

end

section
variable {P : Program} {w : World} {K : PySem.W.Frag} {mg : Str → Option Value} {base : Heap} {A : Ad}
theorem ok_law_kind (T : Txt K mg A)  (g_law_draw : Okd P w K mg base CX0 1 A.law_draw P_law_draw spDw) (g_law_part : Okd P w K mg base CX0 2 A.law_part P_law_part spPa) : Okd P w K mg base CX0 3 A.law_kind P_law_kind spKi := by
  obtain ⟨fd, F⟩ := T.d_law_kind
  obtain ⟨fd_law_draw, G_law_draw, b_law_draw⟩ := g_law_draw
  obtain ⟨fd_law_part, G_law_part, b_law_part⟩ := g_law_part
  refine ⟨fd, F.ok sc_law_kind (fun vs H Q E h => ?_) (fun cdv A' outer s H vs Q E hr h => ?_), F.binds fun _ _ _ _ _ _ us hl => match us, hl with | [_, _], _ => rfl⟩
  · obtain ⟨b, c, most, rfl, _⟩ := h
    rfl
  · obtain ⟨b, c, most, rfl, m0, m1, B, k⟩ := h
    refine ⟨_, (pss_cons (ps_set (i := 2) sc_law_kind.nd rfl (Or.inl rfl) (pe_call G_law_draw (hr.mono (by decide)) (by rfl) T.g_law_draw T.k_law_draw b_law_draw .nil pass0 (pa_cons (pv 0) (pa_cons pe_int pa_nil))))
      (pss_cons (ps_set (i := 3) sc_law_kind.nd rfl (Or.inl rfl) (pe_ix ix_tup (pe_tup (pa_cons pe_int (pa_cons pe_int (pa_cons pe_int (pa_cons pe_int (pa_cons pe_int (pa_cons pe_int (pa_cons pe_int (pa_cons pe_int pa_nil))))))))) (pv 2) (fun _ _ => rfl)))
      (pss_cut (ps_if (pt_cmpR op_eq (pv 2) pe_int (nomark _)) (pss_one (ps_set (i := 3) sc_law_kind.nd rfl (Or.inl rfl) (pe_op op_add pe_int (pe_call G_law_draw (hr.mono (by decide)) (by rfl) T.g_law_draw T.k_law_draw b_law_draw .nil pass0 (pa_cons (pv 0) (pa_cons pe_int pa_nil)))))) pss_nil)
      (pss_cons (ps_set (i := 4) sc_law_kind.nd rfl (Or.inl rfl) (pe_lst pa_nil))
      (pss_cut (ps_for PassesOwn.never rfl (pi_range1 (by rfl) T.n_range (pa_cons (pv 3) pa_nil)) (pg_name (i := 5) sc_law_kind.nd rfl (Or.inl rfl)) (pss_cons (ps_set (i := 6) sc_law_kind.nd rfl (Or.inl rfl) (pe_op op_sub (pv 1) (pe_callB (cr_sum (by rfl)) (by rfl) T.n_sum (by decide +kernel) (pa_cons (pe_lc (own := [("part", 7)]) (tt := tYes) (by rfl) sc_law_kind.nd (pi_list (pv 4)) (blkOk_by (own := [("part", 7)]) (N := N_law_kind) (sc := defScope s_law_kind) (by decide +kernel)) (fun _ _ _ _ _ => (pg_name (i := 7) sc_law_kind.nd rfl (Or.inl rfl))) (fun _ _ _ _ _ => pts_nil) (fun _ _ _ _ _ => (pe_ix (ix_tupK (K := K) rfl) (pv 7) pe_int (fun _ _ => rfl)))) pa_nil))))
      (pss_cons (ps_if (pt_cmpR op_lt (pv 6) pe_int (nomark _)) (pss_one ps_break) pss_nil)
      (pss_one (ps_expr (pe_bm PySem.F.plainAttrs_list PySem.F.slot_list_append PySem.F.type_list_append mt_append (pv 4) (pa_cons (pe_call G_law_part (hr.mono (by decide)) (by rfl) T.g_law_part T.k_law_part b_law_part .nil pass0 (pa_cons (pv 0) (pa_cons (pv 6) pa_nil))) pa_nil)))))))
      (pss_one (ps_ret (pe_callTy call_tuple_of (by rfl) T.n_tuple (by decide +kernel) (pa_cons (pe_callB (DaS.cr_sortD hr.units) (by rfl) T.n_sorted (by decide +kernel) (pa_cons (pv 4) pa_nil)) pa_nil))))))))), ?_⟩
    refine ⟨_, rfl, b, c, 8, rfl, by decide, by decide, B, fun d1 H1 hd1 B1 M1 => ?_⟩
    have mi : ∀ d, d < 8 → ∃ z : Nat, z ≤ 32 ∧ [V.int 0, V.int 1, V.int 1, V.int 1, V.int 2, V.int 2, V.int 3, V.int 32][d]? = some (V.int (z : Int)) := fun d hd => by
      match d, hd with
      | 0, _ => exact ⟨0, by decide, rfl⟩
      | 1, _ => exact ⟨1, by decide, rfl⟩
      | 2, _ => exact ⟨1, by decide, rfl⟩
      | 3, _ => exact ⟨1, by decide, rfl⟩
      | 4, _ => exact ⟨2, by decide, rfl⟩
      | 5, _ => exact ⟨2, by decide, rfl⟩
      | 6, _ => exact ⟨3, by decide, rfl⟩
      | 7, _ => exact ⟨32, by decide, rfl⟩
    obtain ⟨z, z32, hz⟩ := mi d1 (by omega)
    refine ⟨(by show 8 ≤ sizeLine; decide), fun t ht => ?_⟩
    have eT := Ex.new (o := .tup [V.int 0, V.int 1, V.int 1, V.int 1, V.int 2, V.int 2, V.int 3, V.int 32]) ht
    have hT : upd H1 t (.tup [V.int 0, V.int 1, V.int 1, V.int 1, V.int 2, V.int 2, V.int 3, V.int 32]) t = some (.tup [V.int 0, V.int 1, V.int 1, V.int 1, V.int 2, V.int 2, V.int 3, V.int 32]) := upd_same
    have B2 := B1.ex eT
    have M2 := M1.ext eT
    generalize upd H1 t (.tup [V.int 0, V.int 1, V.int 1, V.int 1, V.int 2, V.int 2, V.int 3, V.int 32]) = H2 at hT B2 M2 ⊢
    refine ⟨_, rfl, t, _, _, _, rfl, rfl, SqT.of hT, atI_nat hz, ?_⟩
    refine ⟨fun σ G => ∃ n : Nat, n ≤ 32 ∧ σ = [some (.ref b), some (.int most), some (.int d1), some (.int (n : Int)), none, none, none, none] ∧ Bx G b c ∧ Mut b H G, ?_, ?_⟩
    · refine ⟨_, rfl, rfl, _, rfl, ite_b (fun _ => ?_) (fun _ => ⟨z, z32, rfl, B2, M2⟩)⟩
      refine ⟨_, rfl, b, c, 4, rfl, by decide, by decide, B2, fun d3 H3 hd3 B3 M3 => ?_⟩
      refine ⟨_, _, rfl, rfl, d3 + 3, by omega, ?_, B3, M2.trans M3⟩
      show [some (V.ref b), some (V.int most), some (V.int (d1 : Int)), some (V.int (3 + (d3 : Int))), none, none, none, none] = _
      rw [show (3 : Int) + (d3 : Int) = ((d3 + 3 : Nat) : Int) by omega]
    rintro σ G ⟨n, n32, rfl, BG, MG⟩
    refine ⟨(by show 0 ≤ sizeLine; decide), fun r hr => ?_⟩
    obtain ⟨nrb, nrc⟩ := BG.ne hr
    have eR := Ex.new (o := .lst []) hr
    have B4 := BG.ex eR
    have M4 := MG.ext eR
    have hr4 : upd G r (.lst []) r = some (.lst ([].map V.ref)) := upd_same
    generalize upd G r (.lst []) = H4 at B4 M4 hr4 ⊢
    refine ⟨fun σ G' => ∃ (v5 v6 v7 : Option V) (ts : List Addr) (es : List GE), σ = [some (.ref b), some (.int most), some (.int d1), some (.int (n : Int)), some (.ref r), v5, v6, v7] ∧ Bx G' b c ∧ Mut b H G' ∧ G' r = some (.lst (ts.map V.ref)) ∧ ts.length = es.length ∧ (∀ (i : Nat) (t : Addr) (e : GE), ts[i]? = some t → es[i]? = some e → GenAt G' t e) ∧ TeK most es ∧ es.length ≤ 32, ?_, ?_⟩
    · refine ⟨_, rfl, _, rfl, by omega, by omega, ?_⟩
      rw [Int.toNat_natCast]
      refine for_range (lo := 0) (n := n) (fun i σ G' => ∃ (v5 v6 v7 : Option V) (ts : List Addr) (es : List GE), σ = [some (.ref b), some (.int most), some (.int d1), some (.int (n : Int)), some (.ref r), v5, v6, v7] ∧ Bx G' b c ∧ Mut b H G' ∧ G' r = some (.lst (ts.map V.ref)) ∧ ts.length = es.length ∧ (∀ (i : Nat) (t : Addr) (e : GE), ts[i]? = some t → es[i]? = some e → GenAt G' t e) ∧ TeK most es ∧ es.length ≤ i) ⟨none, none, none, [], [], rfl, B4, M4, hr4, rfl, (fun i t e x => by cases x), ⟨(fun e h => by cases h), by show ((0 : Nat) : Int) ≤ most; omega⟩, Nat.le_refl _⟩ ?_ ?_
      · rintro i σ G' hi ⟨v5, v6, v7, ts, es, rfl, B5, M5, hr5, tl, tat, te, il⟩
        refine ⟨_, rfl, _, rfl, r, rfl, ⟨_, SqL.of hr5⟩, fun D hD => ?_⟩
        refine lc_list (K := K) (a := r) (xs := ts.map V.ref) (fun j G2 => Ex G' G2 ∧ G2 D = some (.lst (((es.take j).map (·.2.1)).map V.int))) ⟨Ex.new hD, upd_same⟩ (fun j G2 _ q => SqL.of (q.1 _ _ hr5)) ?_ ?_
        · rintro j x G2 hx ⟨e, hd⟩
          obtain ⟨t1, ht1, rfl⟩ := ref_at hx
          have jl : j < es.length := by have := (List.getElem?_eq_some_iff.mp ht1).1; omega
          have he1 : es[j]? = some es[j] := List.getElem?_eq_getElem jl
          refine ⟨rfl, _, rfl, t1, _, _, _, rfl, rfl, SqT.of (e _ _ (tat j _ _ ht1 he1)), atI_nat (j := 1) rfl, ?_⟩
          refine ⟨_, hd, small1000 (by rw [List.length_map, List.length_map, List.length_take]; omega), fun x o ho => ?_, ?_⟩
          · rw [upd_ne (ne_of_none ho hD)]
            exact e _ _ ho
          · rw [upd_same, List.take_add_one, he1, List.map_append, List.map_append]
            rfl
        rintro G2 ⟨e, hd⟩
        rw [List.length_map, tl, List.take_length] at hd
        have sp : (es.map (·.2.1)).sum = (totZ es : Int) := sum_tot te.pos
        refine ⟨D, _, rfl, SqL.of hd, _, _, rfl, rfl, ?_⟩
        have B6 := B5.ex e
        have M6 := M5.ext e
        have hr6 := e _ _ hr5
        have tat6 : ∀ (i : Nat) (t : Addr) (f : GE), ts[i]? = some t → es[i]? = some f → GenAt G2 t f := fun i t f x y => e _ _ (tat i t f x y)
        generalize (es.map (·.2.1)).sum = sm at sp
        refine ⟨_, rfl, _, _, rfl, rfl, _, rfl, ite_b (fun _ => ?_) (fun c1 => ?_)⟩
        · exact ⟨_, _, _, ts, es, rfl, B6, M6, hr6, tl, tat6, te, by omega⟩
        have c1 := of_decide_eq_false c1
        refine ⟨_, rfl, .inl ⟨rfl, _, SqL.of hr6⟩, _, rfl, _, rfl, b, c, most - sm, rfl, by omega, by omega, B6, fun t1 f H7 ht1 B7 M7 hf pf pr => ?_⟩
        have hr7 := M7 _ _ nrb hr6
        have n1r : t1 ≠ r := fun z => by rw [z, hr6] at ht1; cases ht1
        refine ⟨r, _, _, rfl, rfl, hr7, small1000 (by rw [List.length_map]; omega), ?_⟩
        have K8 : ∀ x o, x ≠ r → H7 x = some o → upd H7 r (.lst (ts.map V.ref ++ [V.ref t1])) x = some o := fun x o h1 h => by rw [upd_ne h1]; exact h
        have gr : ∀ {t : Addr} {e : GE}, GenAt G2 t e → t ≠ r := fun {t e} h z => by have h : G2 t = some _ := h; rw [z, hr6] at h; cases h
        have gb : ∀ {t : Addr} {e : GE}, GenAt G2 t e → t ≠ b := fun {t e} h z => by
          obtain ⟨_, _, _, _, _, q, _⟩ := B6
          have h : G2 t = some _ := h
          rw [z, q] at h
          cases h
        have fr : H r = none := MG.free nrb hr
        obtain ⟨s1, s2⟩ := gen_snoc tl (H := upd H7 r (.lst (ts.map V.ref ++ [V.ref t1]))) (fun i t e x y => K8 _ _ (gr (tat6 i t e x y)) (M7 _ _ (gb (tat6 i t e x y)) (tat6 i t e x y))) (K8 _ _ n1r hf)
        refine ⟨_, _, _, ts ++ [t1], es ++ [f], rfl, B7.keep (fun o h => K8 _ _ (Ne.symm nrb) h) (fun o h => K8 _ _ (Ne.symm nrc) h), fun x o h1 h => K8 _ _ (ne_of_none h fr) (M7 _ _ h1 (M6 _ _ h1 h)), by rw [upd_same, List.map_append]; rfl, s1, s2, te.snoc pf (by omega), by rw [List.length_append]; show _ + 1 ≤ _; omega⟩
      · rintro σ G' ⟨v5, v6, v7, ts, es, rfl, B5, M5, hr5, tl, tat, te, il⟩
        exact ⟨v5, v6, v7, ts, es, rfl, B5, M5, hr5, tl, tat, te, by omega⟩
    rintro σ G' ⟨v5, v6, v7, ts, es, rfl, B5, M5, hr5, tl, tat, te, il⟩
    obtain ⟨bs, ts', es', o1, o2, o3, o4, o5, pm, tl', tat'⟩ := sortG (K := K) hr5 tl tat
    refine ⟨_, rfl, r, bs, rfl, o1, o2, o3, o4, fun p hp => ?_⟩
    rw [o5]
    refine ⟨p, _, rfl, Or.inl ⟨SqL.of upd_same, fun q hq => ?_⟩⟩
    have e6 := (Ex.new (o := .lst (ts'.map V.ref)) hp).trans (Ex.new (o := .tup (ts'.map V.ref)) hq)
    exact k q es' _ (bx_back B5 M5 (back_none (Ex.new hp) hq)) (B5.ex e6) (M5.ext e6) ⟨ts', upd_same, tl', fun i t e x y => e6 _ _ (tat' i t e x y)⟩ (by rw [pm.length_eq]; omega) (by rw [totZ_perm pm]; exact te.tot)

end

section
variable {P : Program} {w : World} {K : PySem.W.Frag} {mg : Str → Option Value} {base : Heap} {A : Ad}
theorem ok_law_part (T : Txt K mg A)  (g_law_draw : Okd P w K mg base CX0 1 A.law_draw P_law_draw spDw) : Okd P w K mg base CX0 2 A.law_part P_law_part spPa := by
  obtain ⟨fd, F⟩ := T.d_law_part
  obtain ⟨fd_law_draw, G_law_draw, b_law_draw⟩ := g_law_draw
  refine ⟨fd, F.ok sc_law_part (fun vs H Q E h => ?_) (fun cdv A' outer s H vs Q E hr h => ?_), F.binds fun _ _ _ _ _ _ us hl => match us, hl with | [_, _], _ => rfl⟩
  · obtain ⟨b, c, room, rfl, _⟩ := h
    rfl
  · obtain ⟨b, c, room, rfl, r0, r1, B, k⟩ := h
    refine ⟨_, (pss_cons (ps_set (i := 2) sc_law_part.nd rfl (Or.inl rfl) (pe_call G_law_draw (hr.mono (by decide)) (by rfl) T.g_law_draw T.k_law_draw b_law_draw .nil pass0 (pa_cons (pv 0) (pa_cons pe_int pa_nil))))
      (pss_cons (ps_set (i := 3) sc_law_part.nd rfl (Or.inl rfl) (pe_call G_law_draw (hr.mono (by decide)) (by rfl) T.g_law_draw T.k_law_draw b_law_draw .nil pass0 (pa_cons (pv 0) (pa_cons pe_int pa_nil))))
      (pss_cut (ps_set (i := 4) sc_law_part.nd rfl (Or.inl rfl) (pe_ifExp (pt_cmpR op_eq (pv 3) pe_int (nomark _)) (pv 1) (pe_callB (call_min2 (by rfl)) (by rfl) T.n_min (by decide +kernel) (pa_cons (pv 1) (pa_cons pe_int pa_nil)))))
      (pss_cons (ps_set (i := 5) sc_law_part.nd rfl (Or.inl rfl) (pe_op op_add pe_int (pe_call G_law_draw (hr.mono (by decide)) (by rfl) T.g_law_draw T.k_law_draw b_law_draw .nil pass0 (pa_cons (pv 0) (pa_cons (pe_op op_sub (pv 4) pe_int) pa_nil)))))
      (pss_cons (ps_if (pt_cmpR op_eq (pe_op op_mod (pe_callTy call_int1 (by rfl) T.n_int (by decide +kernel) (pa_cons (pv 5) pa_nil)) pe_int) pe_int (nomark _)) (pss_one (ps_ret (pe_tup (pa_cons pe_str (pa_cons (pv 5) (pa_cons pe_int pa_nil)))))) pss_nil)
      (pss_cons (ps_if (PW.pt (pw_and (pt_cmpR op_eq (pv 2) pe_int (nomark _)) (pw_and1 (pt_cmpR op_gt (pv 5) pe_int (nomark _))))) (pss_one (ps_ret (pe_tup (pa_cons pe_str (pa_cons (pv 5) (pa_cons pe_int pa_nil)))))) pss_nil)
      (pss_cons (ps_if (pt_cmpR op_eq (pv 2) pe_int (nomark _)) (pss_one (ps_ret (pe_tup (pa_cons pe_str (pa_cons (pv 5) (pa_cons pe_int pa_nil)))))) pss_nil)
      (pss_one (ps_ret (pe_tup (pa_cons pe_str (pa_cons (pv 5) (pa_cons (pe_un un_neg pe_int) pa_nil))))))))))))), ?_⟩
    refine ⟨_, rfl, b, c, 3, rfl, by decide, by decide, B, fun d1 H1 hd1 B1 M1 => ?_⟩
    refine ⟨_, rfl, b, c, 4, rfl, by decide, by decide, B1, fun d2 H2 hd2 B2 M2 => ?_⟩
    refine ⟨fun σ G => ∃ top : Int, 2 ≤ top ∧ top ≤ room ∧ σ = [some (.ref b), some (.int room), some (.int d1), some (.int d2), some (.int top), none] ∧ G = H2, ?_, ?_⟩
    · refine ⟨_, rfl, rfl, _, rfl, ite_b (fun _ => ?_) (fun _ => ?_)⟩
      · exact ⟨_, rfl, room, r0, Int.le_refl _, rfl, rfl⟩
      · refine ⟨_, rfl, _, _, rfl, ?_⟩
        exact ⟨_, by split <;> omega, by split <;> omega, rfl, rfl⟩
    rintro σ G ⟨top, t0, t1, rfl, rfl⟩
    refine ⟨_, rfl, _, rfl, _, _, rfl, rfl, b, c, top - 1, rfl, by omega, by omega, B2, fun d3 H3 hd3 B3 M3 => ⟨_, _, rfl, rfl, ?_⟩⟩
    have MM : Mut b H H3 := (M1.trans M2).trans M3
    have fin : ∀ (wd : Str) (g : Int) t, H3 t = none → Q (.ref t) (upd H3 t (.tup [V.str wd, V.int (2 + (d3 : Int)), V.int g])) := fun wd g t ht =>
      k t (wd, 2 + (d3 : Int), g) _ (bx_back B3 MM ht) (B3.ex (Ex.new ht)) (MM.ext (Ex.new ht)) upd_same (by show 0 ≤ 2 + (d3 : Int); omega) (by show 2 + (d3 : Int) ≤ room; omega)
    refine ⟨_, rfl, Or.inl ⟨_, rfl, _, _, rfl, rfl, (by show (0 : Int) < 2; decide), rfl, _, rfl, ite_b (fun _ => ?_) (fun _ => ?_)⟩⟩
    · exact ⟨_, rfl, (by show 3 ≤ sizeLine; decide), fun t ht => fin _ _ t ht⟩
    refine ⟨_, rfl, rfl, _, rfl, ite_b (fun _ => ?_) (fun _ => ?_)⟩
    · refine ⟨_, rfl, _, _, rfl, rfl, _, rfl, ite_b (fun _ => ?_) (fun _ => ?_)⟩
      · exact ⟨_, rfl, (by show 3 ≤ sizeLine; decide), fun t ht => fin _ _ t ht⟩
      refine ⟨_, rfl, rfl, _, rfl, ite_b (fun _ => ?_) (fun _ => ?_)⟩
      · exact ⟨_, rfl, (by show 3 ≤ sizeLine; decide), fun t ht => fin _ _ t ht⟩
      · exact ⟨_, rfl, _, rfl, (by show 3 ≤ sizeLine; decide), fun t ht => fin _ _ t ht⟩
    refine ⟨_, rfl, rfl, _, rfl, ite_b (fun _ => ?_) (fun _ => ?_)⟩
    · exact ⟨_, rfl, (by show 3 ≤ sizeLine; decide), fun t ht => fin _ _ t ht⟩
    · exact ⟨_, rfl, _, rfl, (by show 3 ≤ sizeLine; decide), fun t ht => fin _ _ t ht⟩

end

section
variable {P : Program} {w : World} {K : PySem.W.Frag} {mg : Str → Option Value} {base : Heap} {A : Ad}
theorem ok_law_draw (T : Txt K mg A)   : Okd P w K mg base CX0 1 A.law_draw P_law_draw spDw := by
  obtain ⟨fd, F⟩ := T.d_law_draw

  refine ⟨fd, F.ok sc_law_draw (fun vs H Q E h => ?_) (fun cdv A' outer s H vs Q E hr h => ?_), F.binds fun _ _ _ _ _ _ us hl => match us, hl with | [_, _], _ => rfl⟩
  · obtain ⟨b, c, n, rfl, _⟩ := h
    rfl
  · obtain ⟨b, c, n, rfl, n0, n1, B, k⟩ := h
    refine ⟨_, (pss_cons (ps_asg (pe_op op_add (pe_ix ix_list (pv 0) pe_int (fun _ _ => rfl)) pe_int) (pg_sub (pv 0) pe_int set_list))
      (pss_cut (ps_if (PW.pt (pw_and (pt_cmpR op_eq (pe_ix ix_list (pv 0) pe_int (fun _ _ => rfl)) pe_int (nomark _)) (pw_and1 (pt_cmpR op_lt (pe_ix ix_list (pv 0) pe_int (fun _ _ => rfl)) (pe_callB call_len_seq (by rfl) T.n_len PySem.boot_len (pa_cons (pe_ix ix_list (pv 0) pe_int (fun _ _ => rfl)) pa_nil)) (nomark _))))) (pss_cons (ps_set (i := 2) sc_law_draw.nd rfl (Or.inl rfl) (pe_ix ix_list (pe_ix ix_list (pv 0) pe_int (fun _ _ => rfl)) (pe_ix ix_list (pv 0) pe_int (fun _ _ => rfl)) (fun _ _ => rfl)))
      (pss_cons (ps_asg (pe_op op_add (pe_ix ix_list (pv 0) pe_int (fun _ _ => rfl)) pe_int) (pg_sub (pv 0) pe_int set_list))
      (pss_one (ps_if (pt_cmpR op_ge (pe_callB call_abs (by rfl) T.n_abs (by decide +kernel) (pa_cons (pv 2) pa_nil)) (pe_op op_pow pe_int pe_int) (nomark _)) (pss_one (ps_asg (pe_callB call_abs (by rfl) T.n_abs (by decide +kernel) (pa_cons (pv 2) pa_nil)) (pg_sub (pv 0) pe_int set_list))) (pss_one (ps_asg (pe_op op_mod (pe_callTy call_int1 (by rfl) T.n_int (by decide +kernel) (pa_cons (pe_op op_add (pe_op op_add (pe_op op_mul (pe_ix ix_list (pv 0) pe_int (fun _ _ => rfl)) pe_int) (pe_op op_mul (pv 2) pe_int)) (pe_ix ix_list (pv 0) pe_int (fun _ _ => rfl))) pa_nil)) pe_int) (pg_sub (pv 0) pe_int set_list))))))) pss_nil)
      (pss_cons (ps_if (pt_cmpR op_gt (pe_ix ix_list (pv 0) pe_int (fun _ _ => rfl)) pe_int (nomark _)) (pss_cons (ps_set (i := 3) sc_law_draw.nd rfl (Or.inl rfl) (pe_op op_mod (pe_callTy call_int1 (by rfl) T.n_int (by decide +kernel) (pa_cons (pe_ix ix_list (pv 0) pe_int (fun _ _ => rfl)) pa_nil)) (pv 1)))
      (pss_cons (ps_asg (pe_op op_fdivW (pe_callTy call_int1 (by rfl) T.n_int (by decide +kernel) (pa_cons (pe_ix ix_list (pv 0) pe_int (fun _ _ => rfl)) pa_nil)) (pv 1)) (pg_sub (pv 0) pe_int set_list))
      (pss_one (ps_ret (pv 3))))) pss_nil)
      (pss_cons (ps_asg (pe_op op_mod (pe_callTy call_int1 (by rfl) T.n_int (by decide +kernel) (pa_cons (pe_op op_add (pe_op op_add (pe_op op_mul (pe_ix ix_list (pv 0) pe_int (fun _ _ => rfl)) pe_int) (pe_op op_mul (pe_ix ix_list (pv 0) pe_int (fun _ _ => rfl)) pe_int)) pe_int) pa_nil)) pe_int) (pg_sub (pv 0) pe_int set_list))
      (pss_cons (ps_set (i := 4) sc_law_draw.nd rfl (Or.inl rfl) (pe_op op_mod (pe_callTy call_int1 (by rfl) T.n_int (by decide +kernel) (pa_cons (pe_op op_add (pe_op op_mul (pe_op op_fdivW (pe_ix ix_list (pv 0) pe_int (fun _ _ => rfl)) pe_int) pe_int) (pe_op op_mul (pe_op op_mod (pe_callTy call_int1 (by rfl) T.n_int (by decide +kernel) (pa_cons (pe_ix ix_list (pv 0) pe_int (fun _ _ => rfl)) pa_nil)) pe_int) pe_int)) pa_nil)) pe_int))
      (pss_one (ps_ret (pe_op op_mod (pe_callTy call_int1 (by rfl) T.n_int (by decide +kernel) (pa_cons (pe_op op_fdivW (pv 4) pe_int) pa_nil)) (pv 1))))))))), ?_⟩
    have nbc := B.bc
    have fin : ∀ (z : Int) H', Bx H' b c → Mut b H H' → Q (V.int (z % n)) H' := fun z H' B' M' => by
      obtain ⟨d, hd⟩ := Int.eq_ofNat_of_zero_le (Int.emod_nonneg z (by omega : n ≠ 0))
      have hdl := Int.emod_lt_of_pos z n0
      rw [hd] at hdl ⊢
      exact k d H' hdl B' M'
    obtain ⟨ns, d0, i0, k0, s0, hb, hc, p1, p2⟩ := B
    refine ⟨_, rfl, b, _, _, _, rfl, rfl, SqL.of hb, atI_nat (j := 4) rfl, _, _, rfl, rfl, _, rfl, b, _, _, 4, rfl, rfl, hb, Evl.ixN_nat (j := 4) (by show 4 < 5; decide), ?_⟩
    have hb1 : upd H b (.lst ([V.ref c, V.int d0, V.int i0, V.int k0, V.int s0].set 4 (V.int (s0 + 1)))) b = some (.lst [V.ref c, V.int d0, V.int i0, V.int k0, V.int (s0 + 1)]) := upd_same
    have K1 : ∀ x o, x ≠ b → H x = some o → upd H b (.lst ([V.ref c, V.int d0, V.int i0, V.int k0, V.int s0].set 4 (V.int (s0 + 1)))) x = some o := fun x o h1 h => by rw [upd_ne h1]; exact h
    generalize upd H b (.lst ([V.ref c, V.int d0, V.int i0, V.int k0, V.int s0].set 4 (V.int (s0 + 1)))) = H1 at hb1 K1 ⊢
    have hc1 := K1 _ _ (Ne.symm nbc) hc
    refine ⟨fun σ G => ∃ (v2 : Option V) (d i k s : Int), σ = [some (.ref b), some (.int n), v2, none, none] ∧ G b = some (.lst [.ref c, .int d, .int i, .int k, .int s]) ∧ 0 ≤ d ∧ 0 ≤ i ∧ (∀ x o, x ≠ b → H x = some o → G x = some o), ?_, ?_⟩
    · refine ⟨_, rfl, b, _, _, _, rfl, rfl, SqL.of hb1, atI_nat (j := 2) rfl, rfl, _, rfl, ?_⟩
      have fin0 : ∃ (v2 : Option V) (d i k s : Int), [some (V.ref b), some (V.int n), none, none, none] = [some (.ref b), some (.int n), v2, none, none] ∧ H1 b = some (.lst [.ref c, .int d, .int i, .int k, .int s]) ∧ 0 ≤ d ∧ 0 ≤ i ∧ (∀ x o, x ≠ b → H x = some o → H1 x = some o) := ⟨none, d0, i0, k0, s0 + 1, rfl, hb1, p1, p2, K1⟩
      refine ite_b (fun c1 => ?_) (fun _ => fin0)
      refine ⟨_, rfl, b, _, _, _, rfl, rfl, SqL.of hb1, atI_nat (j := 1) rfl, _, rfl, b, _, _, _, rfl, rfl, SqL.of hb1, atI_nat (j := 0) rfl, c, _, rfl, .inl (SqL.of hc1), _, _, rfl, rfl, _, rfl, ?_⟩
      refine ite_b (fun c2 => ?_) (fun _ => fin0)
      have c2 := of_decide_eq_true c2
      rw [List.length_map] at c2
      obtain ⟨d0, rfl⟩ := Int.eq_ofNat_of_zero_le p1
      have il : d0 < ns.length := by omega
      have az : atI (ns.map V.int) ((d0 : Nat) : Int) = some (V.int (ns[d0])) := atI_nat (by rw [List.getElem?_map, List.getElem?_eq_getElem il]; rfl)
      generalize ns[d0] = cell at az
      refine ⟨_, rfl, b, _, _, _, rfl, rfl, SqL.of hb1, atI_nat (j := 0) rfl, _, rfl, b, _, _, _, rfl, rfl, SqL.of hb1, atI_nat (j := 1) rfl, c, _, _, _, rfl, rfl, SqL.of hc1, az, ?_⟩
      refine ⟨_, rfl, b, _, _, _, rfl, rfl, SqL.of hb1, atI_nat (j := 1) rfl, _, _, rfl, rfl, _, rfl, b, _, _, 1, rfl, rfl, hb1, Evl.ixN_nat (j := 1) (by show 1 < 5; decide), ?_⟩
      have hb2 : upd H1 b (.lst ([V.ref c, V.int (d0 : Int), V.int i0, V.int k0, V.int (s0 + 1)].set 1 (V.int ((d0 : Int) + 1)))) b = some (.lst [V.ref c, V.int ((d0 : Int) + 1), V.int i0, V.int k0, V.int (s0 + 1)]) := upd_same
      have K2 : ∀ x o, x ≠ b → H x = some o → upd H1 b (.lst ([V.ref c, V.int (d0 : Int), V.int i0, V.int k0, V.int (s0 + 1)].set 1 (V.int ((d0 : Int) + 1)))) x = some o := fun x o h1 h => by rw [upd_ne h1]; exact K1 x o h1 h
      generalize upd H1 b (.lst ([V.ref c, V.int (d0 : Int), V.int i0, V.int k0, V.int (s0 + 1)].set 1 (V.int ((d0 : Int) + 1)))) = H2 at hb2 K2 ⊢
      refine ⟨_, rfl, _, rfl, _, _, rfl, rfl, ⟨by decide, by decide, by decide⟩, _, _, rfl, rfl, _, rfl, ?_⟩
      refine ite_b (fun c3 => ?_) (fun c3 => ?_)
      · refine ⟨_, rfl, _, rfl, _, rfl, b, _, _, 2, rfl, rfl, hb2, Evl.ixN_nat (j := 2) (by show 2 < 5; decide), ?_⟩
        exact ⟨_, (d0 : Int) + 1, (if cell < 0 then -cell else cell), k0, s0 + 1, rfl, upd_same, by omega, by split <;> omega, fun x o h1 h => by rw [upd_ne h1]; exact K2 x o h1 h⟩
      · refine ⟨_, rfl, b, _, _, _, rfl, rfl, SqL.of hb2, atI_nat (j := 3) rfl, _, _, rfl, rfl, Or.inr ⟨by decide, by decide⟩, _, rfl, _, _, rfl, rfl, Or.inr ⟨by decide, by decide⟩, _, _, rfl, rfl, _, rfl, b, _, _, _, rfl, rfl, SqL.of hb2, atI_nat (j := 4) rfl, _, _, rfl, rfl, Or.inl ⟨_, rfl, _, _, rfl, rfl, (by show (0 : Int) < _; decide), _, rfl, b, _, _, 3, rfl, rfl, hb2, Evl.ixN_nat (j := 3) (by show 3 < 5; decide), ?_⟩⟩
        exact ⟨_, (d0 : Int) + 1, i0, _, s0 + 1, rfl, upd_same, by omega, p2, fun x o h1 h => by rw [upd_ne h1]; exact K2 x o h1 h⟩
    rintro σ G ⟨v2, d, i, k1, s, rfl, hG, q1, q2, KG⟩
    have hcG := KG _ _ (Ne.symm nbc) hc
    refine ⟨_, rfl, b, _, _, _, rfl, rfl, SqL.of hG, atI_nat (j := 2) rfl, _, _, rfl, rfl, _, rfl, ?_⟩
    refine ite_b (fun c1 => ?_) (fun c1 => ?_)
    · have c1 := of_decide_eq_true c1
      refine ⟨_, rfl, b, _, _, _, rfl, rfl, SqL.of hG, atI_nat (j := 2) rfl, Or.inl ⟨_, rfl, _, rfl, _, _, rfl, rfl, n0, ?_⟩⟩
      refine ⟨_, rfl, b, _, _, _, rfl, rfl, SqL.of hG, atI_nat (j := 2) rfl, Or.inl ⟨_, rfl, _, rfl, _, _, rfl, rfl, wide_div (b := 60) (by omega) (by omega) (by decide) (by decide), _, rfl, b, _, _, 2, rfl, rfl, hG, Evl.ixN_nat (j := 2) (by show 2 < 5; decide), ?_⟩⟩
      have K3 : ∀ x o, x ≠ b → H x = some o → upd G b (.lst ([V.ref c, V.int d, V.int i, V.int k1, V.int s].set 2 (V.int (i / n)))) x = some o := fun x o h1 h => by rw [upd_ne h1]; exact KG x o h1 h
      exact ⟨_, rfl, fin i _ ⟨ns, d, i / n, k1, s, upd_same, K3 _ _ (Ne.symm nbc) hc, q1, Int.ediv_nonneg (by omega) (by omega)⟩ K3⟩
    · refine ⟨_, rfl, b, _, _, _, rfl, rfl, SqL.of hG, atI_nat (j := 3) rfl, _, _, rfl, rfl, Or.inr ⟨by decide, by decide⟩, _, rfl, b, _, _, _, rfl, rfl, SqL.of hG, atI_nat (j := 4) rfl, _, _, rfl, rfl, Or.inr ⟨by decide, by decide⟩, _, _, rfl, rfl, _, _, rfl, rfl, Or.inl ⟨_, rfl, _, _, rfl, rfl, (by show (0 : Int) < _; decide), _, rfl, b, _, _, 3, rfl, rfl, hG, Evl.ixN_nat (j := 3) (by show 3 < 5; decide), ?_⟩⟩
      have hb3 : upd G b (.lst ([V.ref c, V.int d, V.int i, V.int k1, V.int s].set 3 ((fun i j : Int => V.int (i % j)) (k1 * 48271 + s * 69621 + 12345) 2147483647))) b = some (.lst [V.ref c, V.int d, V.int i, V.int ((k1 * 48271 + s * 69621 + 12345) % 2147483647), V.int s]) := upd_same
      have K3 : ∀ x o, x ≠ b → H x = some o → upd G b (.lst ([V.ref c, V.int d, V.int i, V.int k1, V.int s].set 3 ((fun i j : Int => V.int (i % j)) (k1 * 48271 + s * 69621 + 12345) 2147483647))) x = some o := fun x o h1 h => by rw [upd_ne h1]; exact KG x o h1 h
      generalize upd G b (.lst ([V.ref c, V.int d, V.int i, V.int k1, V.int s].set 3 ((fun i j : Int => V.int (i % j)) (k1 * 48271 + s * 69621 + 12345) 2147483647))) = G3 at hb3 K3 ⊢
      generalize (k1 * 48271 + s * 69621 + 12345) % 2147483647 = kk at hb3
      refine ⟨_, rfl, b, _, _, _, rfl, rfl, SqL.of hb3, atI_nat (j := 3) rfl, _, _, rfl, rfl, wide_div (b := 60) (by decide) (by decide) (by decide) (by decide), _, _, rfl, rfl, Or.inr ⟨by decide, by decide⟩, _, rfl, b, _, _, _, rfl, rfl, SqL.of hb3, atI_nat (j := 3) rfl, Or.inl ⟨_, rfl, _, _, rfl, rfl, (by show (0 : Int) < _; decide), _, _, rfl, rfl, Or.inr ⟨by decide, by decide⟩, _, _, rfl, rfl, Or.inl ⟨_, rfl, _, _, rfl, rfl, (by show (0 : Int) < _; decide), ?_⟩⟩⟩
      refine ⟨_, rfl, _, _, rfl, rfl, wide_div (b := 60) (by decide) (by decide) (by decide) (by decide), Or.inl ⟨_, rfl, _, rfl, _, _, rfl, rfl, n0, ?_⟩⟩
      exact fin _ G3 ⟨ns, d, i, kk, s, hb3, K3 _ _ (Ne.symm nbc) hc, q1, q2⟩ K3

end

section
variable {P : Program} {w : World} {K : PySem.W.Frag} {mg : Str → Option Value} {base : Heap} {A : Ad}
theorem ok_law_bag (T : Txt K mg A)   : Okd P w K mg base CX0 1 A.law_bag P_law_bag (spBg K) := by
  obtain ⟨fd, F⟩ := T.d_law_bag

  refine ⟨fd, F.ok sc_law_bag (fun vs H Q E h => ?_) (fun cdv A' outer s H vs Q E hr h => ?_), F.binds fun _ _ _ _ _ _ us hl => match us, hl with | [_], _ => rfl⟩
  · obtain ⟨a, ns, rfl, _⟩ := h
    rfl
  · obtain ⟨a, ns, rfl, hs, hl, k⟩ := h
    refine ⟨_, (pss_cons (ps_setLc (i := 1) (own := [("cell", 3)]) (tt := tYes) (by rfl) sc_law_bag.nd rfl rfl (sw_true rfl rfl rfl (by decide +kernel)) (pi_list (pe_slice sl_list (pv 0) po_none (po_some pe_int))) (blkOk_by (own := [("cell", 3)]) (N := N_law_bag) (sc := defScope s_law_bag) (by decide +kernel)) (fun _ _ _ _ _ => (pg_name (i := 3) sc_law_bag.nd rfl (Or.inl rfl))) (fun _ _ _ _ _ => pts_nil) (fun _ _ _ _ _ => (pe_callTy call_int1 (by rfl) T.n_int (by decide +kernel) (pa_cons (pv 3) pa_nil))))
      (pss_cons (ps_set (i := 2) sc_law_bag.nd rfl (Or.inl rfl) pe_int)
      (pss_cons (ps_for PassesOwn.never rfl (pi_list (pv 1)) (pg_name (i := 3) sc_law_bag.nd rfl (Or.inl rfl)) (pss_one (ps_set (i := 2) sc_law_bag.nd rfl (Or.inl rfl) (pe_op op_mod (pe_callTy call_int1 (by rfl) T.n_int (by decide +kernel) (pa_cons (pe_op op_add (pe_op op_add (pe_op op_mul (pv 2) pe_int) (pe_op op_mul (pv 3) pe_int)) pe_int) pa_nil)) pe_int))))
      (pss_one (ps_ret (pe_lst (pa_cons (pv 1) (pa_cons pe_int (pa_cons pe_int (pa_cons (pv 2) (pa_cons pe_int pa_nil))))))))))), ?_⟩
    have cutA : cutV (ns.map V.int) none (some (63 : Int)) = ns.map V.int := by
      unfold cutV
      rw [show HT.sIx (ns.map V.int).length 0 none = 0 from rfl, show HT.sIx (ns.map V.int).length (ns.map V.int).length (some (63 : Int)) = min 63 (ns.map V.int).length from HT.sIx_nat _ _ 63, List.drop_zero, Nat.sub_zero]
      exact List.take_of_length_le (by rw [List.length_map]; omega)
    refine ⟨_, rfl, _, rfl, a, _, rfl, hs, fun l1 hl1 => ?_⟩
    rw [cutA]
    have e1 := Ex.new (o := .lst (ns.map V.int)) hl1
    have h1 : upd H l1 (.lst (ns.map V.int)) l1 = some (.lst (ns.map V.int)) := upd_same
    generalize upd H l1 (.lst (ns.map V.int)) = H1 at e1 h1 ⊢
    refine ⟨l1, rfl, ⟨_, SqL.of h1⟩, fun C hC => ?_⟩
    refine lc_list (K := K) (a := l1) (xs := ns.map V.int) (fun j G => Ex H1 G ∧ G C = some (.lst ((ns.take j).map V.int))) ⟨Ex.new hC, upd_same⟩ (fun j G _ q => SqL.of (q.1 _ _ h1)) ?_ ?_
    · rintro j x G hx ⟨e, hd⟩
      obtain ⟨z, hz, rfl⟩ := markV_int hx
      refine ⟨rfl, _, rfl, Or.inl ⟨z, rfl, ?_⟩⟩
      refine ⟨_, hd, small1000 (by rw [List.length_map, List.length_take]; omega), fun x o ho => ?_, ?_⟩
      · rw [upd_ne (ne_of_none ho hC)]
        exact e _ _ ho
      · rw [upd_same, List.take_add_one, hz, List.map_append]
        rfl
    rintro G ⟨e, hd⟩
    rw [List.length_map, List.take_length] at hd
    have e2 := e1.trans e
    have fC := back_none e1 hC
    refine ⟨_, rfl, C, rfl, ⟨_, SqL.of hd⟩, for_list (K := K) (a := C) (xs := ns.map V.int) (fun i σ G' => ∃ (v3 : Option V) (sd : Int), σ = [some (.ref a), some (.ref C), some (.int sd), v3] ∧ G' = G) ⟨none, 8041, rfl, rfl⟩ (fun i σ G' _ ⟨_, _, _, e⟩ => by rw [e]; exact SqL.of hd) ?_ ?_⟩
    · rintro i x σ G' hx ⟨v3, sd, rfl, rfl⟩
      obtain ⟨z, hz, rfl⟩ := markV_int hx
      walk_at "r"
      exact ⟨_, _, rfl, rfl⟩
    rintro σ G' ⟨v3, sd, rfl, rfl⟩
    refine ⟨_, rfl, _, rfl, (by show 5 ≤ sizeLine; decide), fun b hb => ?_⟩
    have e3 := Ex.new (o := .lst [V.ref C, V.int 0, V.int 0, V.int sd, V.int 0]) hb
    exact k b C _ (back_none e2 hb) fC (e2.trans e3) ⟨ns, 0, 0, sd, 0, upd_same, e3 _ _ hd, by decide, by decide⟩

end

section
variable {P : Program} {w : World} {K : PySem.W.Frag} {mg : Str → Option Value} {base : Heap} {A : Ad}
theorem ok_law_whole (T : Txt K mg A)   : Okd P w K mg base CX0 1 A.law_whole P_law_whole spWl := by
  obtain ⟨fd, F⟩ := T.d_law_whole

  refine ⟨fd, F.ok sc_law_whole (fun vs H Q E h => ?_) (fun cdv A' outer s H vs Q E hr h => ?_), F.binds fun _ _ _ _ _ _ us hl => match us, hl with | [_], _ => rfl⟩
  · obtain ⟨i, rfl, _⟩ := h
    rfl
  · obtain ⟨i, rfl, k⟩ := h
    refine ⟨_, (pss_one (ps_ret (pe_and (pe_callB call_isi (by rfl) T.n_isinstance (by decide +kernel) (pa_cons (pv 0) (pa_cons (pe_bltn (v := .ty "int") (u := .type "int") (by rfl) T.n_int (by decide +kernel) rfl) pa_nil))) (pe_one (pe_not (pe_callB call_isi (by rfl) T.n_isinstance (by decide +kernel) (pa_cons (pv 0) (pa_cons (pe_bltn (v := .ty "bool") (u := .type "bool") (by rfl) T.n_bool (by decide +kernel) rfl) pa_nil)))))))), ?_⟩
    refine ⟨_, rfl, _, _, _, _, true, rfl, ClsV.ty "int", TyX.base (TyOf.int _), kit_ty (by decide +kernel), ?_⟩
    refine ⟨true, rfl, iteT ?_⟩
    exact ⟨_, rfl, _, _, _, _, false, rfl, ClsV.ty "bool", TyX.base (TyOf.int _), kit_ty (by decide +kernel), false, rfl, k⟩

end

section
variable {P : Program} {w : World} {K : PySem.W.Frag} {mg : Str → Option Value} {base : Heap} {A : Ad}
theorem ok_is_entry (T : Txt K mg A)   : Okd P w K mg base CX0 1 A.is_entry P_is_entry spIe := by
  obtain ⟨fd, F⟩ := T.d_is_entry

  refine ⟨fd, F.ok sc_is_entry (fun vs H Q E h => ?_) (fun cdv A' outer s H vs Q E hr h => ?_), F.binds fun _ _ _ _ _ _ us hl => match us, hl with | [_], _ => rfl⟩
  · obtain ⟨t, e, rfl, _⟩ := h
    rfl
  · obtain ⟨t, e, rfl, ht, k⟩ := h
    refine ⟨_, (pss_cons (ps_if (PW.pt (pw_or (pt_not (pt_val (pe_callB call_isi (by rfl) T.n_isinstance (by decide +kernel) (pa_cons (pv 0) (pa_cons (pe_bltn (v := .ty "tuple") (u := .type "tuple") (by rfl) T.n_tuple (by decide +kernel) rfl) pa_nil))))) (pw_or1 (pt_cmpR op_ne (pe_callB call_len_seq (by rfl) T.n_len PySem.boot_len (pa_cons (pv 0) pa_nil)) pe_int (nomark _))))) (pss_one (ps_ret pe_bl)) pss_nil)
      (pss_cons (ps_asg (pv 0) (pg_tup (by rfl) (pgs_cons (pg_name (i := 1) sc_is_entry.nd rfl (Or.inl rfl)) (pgs_cons (pg_name (i := 2) sc_is_entry.nd rfl (Or.inl rfl)) (pgs_cons (pg_name (i := 3) sc_is_entry.nd rfl (Or.inl rfl)) pgs_nil)))))
      (pss_cons (ps_if (pt_cmpR op_eq (pv 1) pe_str (nomark _)) (pss_one (ps_ret (pe_and (pe_cmpR op_ge (pv 2) pe_int (nomark _)) (pe_and (pe_cmpR op_eq (pe_op op_mod (pv 2) pe_int) pe_int (nomark _)) (pe_one (pe_cmpR op_eq (pv 3) pe_int (nomark _))))))) pss_nil)
      (pss_cons (ps_if (PW.pt (pw_or (pt_cmpR op_ne (pv 1) pe_str (nomark _)) (pw_or1 (pt_cmpR op_lt (pv 2) pe_int (nomark _))))) (pss_one (ps_ret pe_bl)) pss_nil)
      (pss_one (ps_ret (pe_ifExp (pt_cmpR op_eq (pe_op op_mod (pv 2) pe_int) pe_int (nomark _)) (pe_cmpR op_in_seq (pv 3) (pe_tup (pa_cons pe_int (pa_cons (pe_un un_neg pe_int) pa_nil))) (by with_unfolding_all rfl)) (pe_cmpR op_eq (pv 3) pe_int (nomark _))))))))), ?_⟩
    have k0 := k H (Ex.refl H)
    unfold goodE at k0
    refine ⟨_, rfl, _, _, _, _, true, rfl, ClsV.ty "tuple", TyX.base (TyOf.tup ht), kit_ty (by decide +kernel), ?_⟩
    refine ⟨true, rfl, ?_⟩
    refine iteF ?_
    refine ⟨_, rfl, t, _, rfl, .inr (SqT.of ht), rfl, _, rfl, ?_⟩
    refine ifF (ndec rfl) ?_
    refine ⟨_, rfl, t, _, rfl, SqT.of ht, rfl, _, _, rfl, _, _, rfl, _, _, rfl, rfl, ?_⟩
    refine ⟨_, rfl, rfl, _, rfl, ?_⟩
    rw [sq_]
    refine ite_b (fun c => ?_) (fun c => ?_)
    · rw [if_pos (of_decide_eq_true c)] at k0
      refine ⟨_, rfl, _, _, rfl, rfl, _, rfl, ite_b (fun c1 => ?_) (fun c1 => ?_)⟩
      rotate_left
      · rw [c1, Bool.false_and] at k0
        exact k0
      rw [c1, Bool.true_and] at k0
      refine ⟨_, rfl, _, _, rfl, rfl, (by show (0 : Int) < 2; decide), rfl, _, rfl, ?_⟩
      rw [iq_]
      refine ite_b (fun c2 => ?_) (fun c2 => ?_)
      rotate_left
      · rw [c2, Bool.false_and] at k0
        exact k0
      rw [c2, Bool.true_and] at k0
      refine ⟨_, rfl, rfl, ?_⟩
      rw [iq_]
      exact k0
    rw [if_neg (of_decide_eq_false c)] at k0
    refine ⟨_, rfl, rfl, _, rfl, ?_⟩
    rw [sq_]
    by_cases c1 : e.1 = (Str.ofString "chain")
    rotate_left
    · rw [if_neg c1] at k0
      rw [decide_eq_false c1]
      exact iteT (iteT k0)
    rw [decide_eq_true c1]
    rw [if_pos c1] at k0
    refine iteF ?_
    refine ⟨_, rfl, _, _, rfl, rfl, _, rfl, ?_⟩
    refine ite_b (fun c2 => ?_) (fun c2 => ?_)
    · rw [if_pos (of_decide_eq_true c2)] at k0
      exact k0
    rw [if_neg (of_decide_eq_false c2)] at k0
    refine ⟨_, rfl, _, _, rfl, rfl, (by show (0 : Int) < 2; decide), rfl, _, rfl, ?_⟩
    rw [iq_]
    refine ite_b (fun c3 => ?_) (fun c3 => ?_)
    rotate_left
    · rw [if_neg (of_decide_eq_false c3)] at k0
      refine ⟨_, rfl, rfl, ?_⟩
      rw [iq_]
      exact k0
    rw [if_pos (of_decide_eq_true c3)] at k0
    refine ⟨_, rfl, _, rfl, (by show 2 ≤ sizeLine; decide), fun p hp => ?_⟩
    refine ⟨p, _, rfl, .inr (SqT.of upd_same), rfl, rfl, ?_⟩
    have k1 := k _ (Ex.new (o := .tup [V.int 1, V.int (-1)]) hp)
    have e2 : inV (V.int e.2.2) [V.int 1, V.int (-1)] = (decide (e.2.2 = 1) || decide (e.2.2 = -1)) := by
      show (((1 : Int) == e.2.2) || (((-1 : Int) == e.2.2) || false)) = _
      rw [Bool.eq_iff_iff]
      simp only [Bool.or_false, Bool.or_eq_true, beq_iff_eq, decide_eq_true_eq]
      omega
    unfold goodE at k1
    rw [if_neg (of_decide_eq_false c), if_pos c1, if_neg (of_decide_eq_false c2), if_pos (of_decide_eq_true c3), ← e2] at k1
    exact k1

end

section
variable {P : Program} {w : World} {K : PySem.W.Frag} {mg : Str → Option Value} {base : Heap} {A : Ad}
theorem ok_law {fd : FuncData} (T : Txt K mg A) (F : Fun K "law" "law" s_law A.law fd)  (g_law_bag : Okd P w K mg base CX0 1 A.law_bag P_law_bag (spBg K)) (g_law_draw : Okd P w K mg base CX0 1 A.law_draw P_law_draw spDw) (g_law_kinds : Okd P w K mg base CX0 4 A.law_kinds P_law_kinds spKs) (g_law_one_right : Okd P w K mg base CX0 7 A.law_one_right P_law_one_right spO1r) (g_law_first_right : Okd P w K mg base CX0 10 A.law_first_right P_law_first_right spFr) : FnOk P w K mg base CX0 11 A.law fd P_law (spLaw K) := by
  obtain ⟨fd_law_bag, G_law_bag, b_law_bag⟩ := g_law_bag
  obtain ⟨fd_law_draw, G_law_draw, b_law_draw⟩ := g_law_draw
  obtain ⟨fd_law_kinds, G_law_kinds, b_law_kinds⟩ := g_law_kinds
  obtain ⟨fd_law_one_right, G_law_one_right, b_law_one_right⟩ := g_law_one_right
  obtain ⟨fd_law_first_right, G_law_first_right, b_law_first_right⟩ := g_law_first_right
  refine F.ok sc_law (fun vs H Q E h => ?_) (fun cdv A' outer s H vs Q E hr h => ?_)
  · obtain ⟨a, ns, rfl, _⟩ := h
    rfl
  · obtain ⟨a, ns, rfl, hs, hl, k⟩ := h
    refine ⟨_, (pss_cons (ps_set (i := 1) sc_law.nd rfl (Or.inl rfl) (pe_call G_law_bag (hr.mono (by decide)) (by rfl) T.g_law_bag T.k_law_bag b_law_bag .nil pass0 (pa_cons (pv 0) pa_nil)))
      (pss_cons (ps_set (i := 2) sc_law.nd rfl (Or.inl rfl) (pe_call G_law_draw (hr.mono (by decide)) (by rfl) T.g_law_draw T.k_law_draw b_law_draw .nil pass0 (pa_cons (pv 1) (pa_cons pe_int pa_nil))))
      (pss_cons (ps_set (i := 3) sc_law.nd rfl (Or.inl rfl) (pe_ix ix_tup (pe_tup (pa_cons pe_int (pa_cons pe_int (pa_cons pe_int (pa_cons pe_int (pa_cons pe_int (pa_cons pe_int (pa_cons pe_int (pa_cons pe_int pa_nil))))))))) (pe_call G_law_draw (hr.mono (by decide)) (by rfl) T.g_law_draw T.k_law_draw b_law_draw .nil pass0 (pa_cons (pv 1) (pa_cons pe_int pa_nil))) (fun _ _ => rfl)))
      (pss_cut (ps_set (i := 4) sc_law.nd rfl (Or.inl rfl) (pe_call G_law_kinds (hr.mono (by decide)) (by rfl) T.g_law_kinds T.k_law_kinds b_law_kinds .nil pass0 (pa_cons (pv 1) (pa_cons (pv 3) (pa_cons (pe_ifExp (pt_cmpR op_eq (pv 2) pe_int (nomark _)) pe_int pe_int) pa_nil)))))
      (pss_cons (ps_for PassesOwn.never rfl (pi_list (pv 4)) (pg_name (i := 5) sc_law.nd rfl (Or.inl rfl)) (pss_one (ps_if (pt_not (pt_val (pe_call G_law_one_right (hr.mono (by decide)) (by rfl) T.g_law_one_right T.k_law_one_right b_law_one_right .nil pass0 (pa_cons (pv 5) pa_nil)))) (pss_one (ps_ret pe_bl)) pss_nil)))
      (pss_one (ps_ret (pe_call G_law_first_right (hr.mono (by decide)) (by rfl) T.g_law_first_right T.k_law_first_right b_law_first_right .nil pass0 (pa_cons (pv 4) pa_nil))))))))), ?_⟩
    refine ⟨_, rfl, a, ns, rfl, hs, hl, fun b c H1 hb hc e1 B1 => ?_⟩
    have mi : ∀ d, d < 8 → ∃ z : Nat, (z = 0 ∨ z = 1 ∨ z = 2 ∨ z = 3 ∨ z = 4 ∨ z = 6) ∧ [V.int 0, V.int 1, V.int 1, V.int 2, V.int 2, V.int 3, V.int 4, V.int 6][d]? = some (V.int (z : Int)) := fun d hd => by
      match d, hd with
      | 0, _ => exact ⟨0, by decide, rfl⟩
      | 1, _ => exact ⟨1, by decide, rfl⟩
      | 2, _ => exact ⟨1, by decide, rfl⟩
      | 3, _ => exact ⟨2, by decide, rfl⟩
      | 4, _ => exact ⟨2, by decide, rfl⟩
      | 5, _ => exact ⟨3, by decide, rfl⟩
      | 6, _ => exact ⟨4, by decide, rfl⟩
      | 7, _ => exact ⟨6, by decide, rfl⟩
    refine ⟨_, rfl, b, c, 8, rfl, by decide, by decide, B1, fun d0 H2 hd0 B2 M2 => ?_⟩
    refine ⟨(by show 8 ≤ sizeLine; decide), fun t ht => ?_⟩
    have eT := Ex.new (o := .tup [V.int 0, V.int 1, V.int 1, V.int 2, V.int 2, V.int 3, V.int 4, V.int 6]) ht
    have hT : upd H2 t (.tup [V.int 0, V.int 1, V.int 1, V.int 2, V.int 2, V.int 3, V.int 4, V.int 6]) t = some (.tup [V.int 0, V.int 1, V.int 1, V.int 2, V.int 2, V.int 3, V.int 4, V.int 6]) := upd_same
    have ntb := (B2.ne ht).1
    have B3 := B2.ex eT
    generalize upd H2 t (.tup [V.int 0, V.int 1, V.int 1, V.int 2, V.int 2, V.int 3, V.int 4, V.int 6]) = H3 at eT hT B3 ⊢
    refine ⟨_, rfl, b, c, 8, rfl, by decide, by decide, B3, fun d1 H4 hd1 B4 M4 => ?_⟩
    obtain ⟨n, hn, hz⟩ := mi d1 (by omega)
    refine ⟨t, _, _, _, rfl, rfl, SqT.of (M4 _ _ ntb hT), atI_nat hz, ?_⟩
    refine ⟨fun σ G => ∃ (r : Addr) (ps : List Addr) (ks : List (List GE)), σ = [some (.ref a), some (.ref b), some (.int (d0 : Int)), some (.int (n : Int)), some (.ref r), none] ∧ G r = some (.lst (ps.map V.ref)) ∧ KsAt G ps ks ∧ ps.length = n, ?_, ?_⟩
    · refine ⟨_, rfl, _, rfl, _, rfl, rfl, _, rfl, ite_b (fun _ => ?_) (fun _ => ?_)⟩
      · exact ⟨b, c, n, 64, rfl, by omega, by decide, by decide, B4, fun r ps ks H6 hr6 B6 M6 hrr hk lp => ⟨r, ps, ks, rfl, hrr, hk, lp⟩⟩
      · exact ⟨b, c, n, 14, rfl, by omega, by decide, by decide, B4, fun r ps ks H6 hr6 B6 M6 hrr hk lp => ⟨r, ps, ks, rfl, hrr, hk, lp⟩⟩
    rintro σ G ⟨r, ps, ks, rfl, hrr, hk, lp⟩
    have many : Many ps.length := by unfold Many; omega
    refine ⟨_, rfl, r, rfl, ⟨_, SqL.of hrr⟩, for_list (K := K) (a := r) (xs := ps.map V.ref) (fun i σ G2 => ∃ v5 : Option V, σ = [some (.ref a), some (.ref b), some (.int (d0 : Int)), some (.int (n : Int)), some (.ref r), v5] ∧ Ex G G2) ⟨none, rfl, Ex.refl _⟩ (fun i σ G2 _ ⟨_, _, e⟩ => SqL.of (e _ _ hrr)) ?_ ?_⟩
    · rintro i x σ G2 hx ⟨v5, rfl, e⟩
      obtain ⟨p, hp, rfl⟩ := ref_at hx
      obtain ⟨es, he, g, l⟩ := ks_at hk hp
      exact ⟨_, rfl, p, es, rfl, g.ex e, l, fun G3 e3 => ⟨_, rfl, iteF ⟨_, rfl, e.trans e3⟩⟩⟩
    rintro σ G2 ⟨v5, rfl, e⟩
    exact ⟨_, rfl, r, ps, ks, rfl, e _ _ hrr, hk.ex e, many, fun G3 _ => k G3⟩

end
end Pv
namespace Pv
open PySem L2 Evl
theorem all_mk {l : PySem.W.OpenLaw} {w : World} {K : PySem.W.Frag} {h : Heap} {mg : Str → Option Value} {fa f_check_kind f_sample_rows f_is_entry f_paired f_m_init f_m_holds f_kind_clash f_first_clash f_first_unsafe f_clash_between f_rest_after f_renamed f_own_rows f_is_torn f_other_way f_law_whole f_law_bag f_law_draw f_law_part f_law_kind f_law_tame f_law_bent_kind f_law_entry_right f_law_kind_right f_law_safe f_law_kinds f_law_alone f_law_holds f_law_kind_of f_law_state_right f_law_clash_right f_law_met_kind f_law_call f_law_met_first f_law_one_right f_law_first_right f_law c_SAFE_KINDS sk0 sk1 sk2 sk3 sk4 sg1 sg2 sg3 sg4 c_MendError N_MendError_ c_InvalidUpdate N_InvalidUpdate_ c_InvalidKind N_InvalidKind_ c_InvalidChange N_InvalidChange_ c_InvalidOrder N_InvalidOrder_ c_Clash : Addr}
    {od_check_kind an_check_kind od_sample_rows an_sample_rows od_is_entry an_is_entry od_paired an_paired od_m_init an_m_init od_m_holds an_m_holds od_kind_clash an_kind_clash od_first_clash an_first_clash od_first_unsafe an_first_unsafe od_clash_between an_clash_between od_rest_after an_rest_after od_renamed an_renamed od_own_rows an_own_rows od_is_torn an_is_torn od_other_way an_other_way od_law_whole an_law_whole od_law_bag an_law_bag od_law_draw an_law_draw od_law_part an_law_part od_law_kind an_law_kind od_law_tame an_law_tame od_law_bent_kind an_law_bent_kind od_law_entry_right an_law_entry_right od_law_kind_right an_law_kind_right od_law_safe an_law_safe od_law_kinds an_law_kinds od_law_alone an_law_alone od_law_holds an_law_holds od_law_kind_of an_law_kind_of od_law_state_right an_law_state_right od_law_clash_right an_law_clash_right od_law_met_kind an_law_met_kind od_law_call an_law_call od_law_met_first an_law_met_first od_law_one_right an_law_one_right od_law_first_right an_law_first_right od_law an_law odS odk0 odk1 odk2 odk3 odk4 odg1 odg2 odg3 odg4 dd_MendError dd_InvalidUpdate dd_InvalidKind dd_InvalidChange dd_InvalidOrder : Option Addr}
    {sl_check_kind sl_sample_rows sl_is_entry sl_paired sl_m_init sl_m_holds sl_kind_clash sl_first_clash sl_first_unsafe sl_clash_between sl_rest_after sl_renamed sl_own_rows sl_is_torn sl_other_way sl_law_whole sl_law_bag sl_law_draw sl_law_part sl_law_kind sl_law_tame sl_law_bent_kind sl_law_entry_right sl_law_kind_right sl_law_safe sl_law_kinds sl_law_alone sl_law_holds sl_law_kind_of sl_law_state_right sl_law_clash_right sl_law_met_kind sl_law_call sl_law_met_first sl_law_one_right sl_law_first_right sl_law slS slk0 slk1 slk2 slk3 slk4 slg1 slg2 slg3 slg4 : Array (Option Value)}
    {oc_check_kind doc_check_kind pm_check_kind cd_check_kind ct_check_kind kV_check_kind oc_sample_rows doc_sample_rows pm_sample_rows cd_sample_rows ct_sample_rows kV_sample_rows oc_is_entry doc_is_entry pm_is_entry cd_is_entry ct_is_entry kV_is_entry oc_paired doc_paired pm_paired cd_paired ct_paired kV_paired oc_m_init doc_m_init pm_m_init cd_m_init ct_m_init kV_m_init oc_m_holds doc_m_holds pm_m_holds cd_m_holds ct_m_holds kV_m_holds oc_kind_clash doc_kind_clash pm_kind_clash cd_kind_clash ct_kind_clash kV_kind_clash oc_first_clash doc_first_clash pm_first_clash cd_first_clash ct_first_clash kV_first_clash oc_first_unsafe doc_first_unsafe pm_first_unsafe cd_first_unsafe ct_first_unsafe kV_first_unsafe oc_clash_between doc_clash_between pm_clash_between cd_clash_between ct_clash_between kV_clash_between oc_rest_after doc_rest_after pm_rest_after cd_rest_after ct_rest_after kV_rest_after oc_renamed doc_renamed pm_renamed cd_renamed ct_renamed kV_renamed oc_own_rows doc_own_rows pm_own_rows cd_own_rows ct_own_rows kV_own_rows oc_is_torn doc_is_torn pm_is_torn cd_is_torn ct_is_torn kV_is_torn oc_other_way doc_other_way pm_other_way cd_other_way ct_other_way kV_other_way oc_law_whole doc_law_whole pm_law_whole cd_law_whole ct_law_whole kV_law_whole oc_law_bag doc_law_bag pm_law_bag cd_law_bag ct_law_bag kV_law_bag oc_law_draw doc_law_draw pm_law_draw cd_law_draw ct_law_draw kV_law_draw oc_law_part doc_law_part pm_law_part cd_law_part ct_law_part kV_law_part oc_law_kind doc_law_kind pm_law_kind cd_law_kind ct_law_kind kV_law_kind oc_law_tame doc_law_tame pm_law_tame cd_law_tame ct_law_tame kV_law_tame oc_law_bent_kind doc_law_bent_kind pm_law_bent_kind cd_law_bent_kind ct_law_bent_kind kV_law_bent_kind oc_law_entry_right doc_law_entry_right pm_law_entry_right cd_law_entry_right ct_law_entry_right kV_law_entry_right oc_law_kind_right doc_law_kind_right pm_law_kind_right cd_law_kind_right ct_law_kind_right kV_law_kind_right oc_law_safe doc_law_safe pm_law_safe cd_law_safe ct_law_safe kV_law_safe oc_law_kinds doc_law_kinds pm_law_kinds cd_law_kinds ct_law_kinds kV_law_kinds oc_law_alone doc_law_alone pm_law_alone cd_law_alone ct_law_alone kV_law_alone oc_law_holds doc_law_holds pm_law_holds cd_law_holds ct_law_holds kV_law_holds oc_law_kind_of doc_law_kind_of pm_law_kind_of cd_law_kind_of ct_law_kind_of kV_law_kind_of oc_law_state_right doc_law_state_right pm_law_state_right cd_law_state_right ct_law_state_right kV_law_state_right oc_law_clash_right doc_law_clash_right pm_law_clash_right cd_law_clash_right ct_law_clash_right kV_law_clash_right oc_law_met_kind doc_law_met_kind pm_law_met_kind cd_law_met_kind ct_law_met_kind kV_law_met_kind oc_law_call doc_law_call pm_law_call cd_law_call ct_law_call kV_law_call oc_law_met_first doc_law_met_first pm_law_met_first cd_law_met_first ct_law_met_first kV_law_met_first oc_law_one_right doc_law_one_right pm_law_one_right cd_law_one_right ct_law_one_right kV_law_one_right oc_law_first_right doc_law_first_right pm_law_first_right cd_law_first_right ct_law_first_right kV_law_first_right oc_law doc_law pm_law cd_law ct_law kV_law : Value}
    {nS nk0 nk1 nk2 nk3 nk4 ng1 ng2 ng3 ng4 : Nat}
    {tg1_0 tg1_1 tg1_2 tg2_0 tg2_1 tg2_2 tg3_0 tg3_1 tg3_2 tg4_0 tg4_1 tg4_2 : Tok}
    {nm_MendError q_MendError nm_InvalidUpdate q_InvalidUpdate nm_InvalidKind q_InvalidKind nm_InvalidChange q_InvalidChange nm_InvalidOrder q_InvalidOrder : Str}
    {bs_MendError sub_MendError bm_MendError bs_InvalidUpdate sub_InvalidUpdate bs_InvalidKind sub_InvalidKind bs_InvalidChange sub_InvalidChange bs_InvalidOrder sub_InvalidOrder : List Value}
    {sn_MendError sn_InvalidUpdate sn_InvalidKind sn_InvalidChange sn_InvalidOrder : List Str}
    {ab_MendError ab_InvalidUpdate ab_InvalidKind ab_InvalidChange ab_InvalidOrder : Bool}
    {col_MendError col_InvalidUpdate col_InvalidKind col_InvalidChange col_InvalidOrder : Option Bool}
    {k0_MendError k1_MendError k2_MendError k3_MendError k5_MendError k0_InvalidUpdate k1_InvalidUpdate k2_InvalidUpdate k3_InvalidUpdate k5_InvalidUpdate k0_InvalidKind k1_InvalidKind k2_InvalidKind k3_InvalidKind k5_InvalidKind k0_InvalidChange k1_InvalidChange k2_InvalidChange k3_InvalidChange k5_InvalidChange k0_InvalidOrder k1_InvalidOrder k2_InvalidOrder k3_InvalidOrder k5_InvalidOrder : Option Value}
    (X : K.In h) (G : h.Ns mainGlobals mg) (hfa : mg "law" = some (.ref fa))
    (a_Clash : PySem.W.nsIn K mainGlobals "Clash" = some (some (.ref c_Clash)))
    (rm2 : PySem.W.findIn K (.ref c_Clash) "__init__" = some (some (.ref f_m_init)))
    (me_holds : PySem.W.findIn K (.ref c_Clash) "holds" = some (some (.ref f_m_holds)))
    (a_check_kind : PySem.W.nsIn K mainGlobals "check_kind" = some (some (.ref f_check_kind)))
    (l_check_kind : K.lookup f_check_kind = some ⟨oc_check_kind, od_check_kind, .func (PySem.W.fnOf "check_kind" "check_kind" (defArgs s_check_kind) (defBody s_check_kind) (defScope s_check_kind) .none kV_check_kind doc_check_kind pm_check_kind an_check_kind cd_check_kind ct_check_kind), sl_check_kind⟩)
    (cd_is_check_kind : PySem.W.codeIn K cd_check_kind "check_kind" = true)
    (k_check_kind : PySem.W.keepIn K (.ref f_check_kind) = true)
    (a_sample_rows : PySem.W.nsIn K mainGlobals "sample_rows" = some (some (.ref f_sample_rows)))
    (l_sample_rows : K.lookup f_sample_rows = some ⟨oc_sample_rows, od_sample_rows, .func (PySem.W.fnOf "sample_rows" "sample_rows" (defArgs s_sample_rows) (defBody s_sample_rows) (defScope s_sample_rows) .none kV_sample_rows doc_sample_rows pm_sample_rows an_sample_rows cd_sample_rows ct_sample_rows), sl_sample_rows⟩)
    (cd_is_sample_rows : PySem.W.codeIn K cd_sample_rows "sample_rows" = true)
    (k_sample_rows : PySem.W.keepIn K (.ref f_sample_rows) = true)
    (a_is_entry : PySem.W.nsIn K mainGlobals "_is_entry" = some (some (.ref f_is_entry)))
    (l_is_entry : K.lookup f_is_entry = some ⟨oc_is_entry, od_is_entry, .func (PySem.W.fnOf "_is_entry" "_is_entry" (defArgs s_is_entry) (defBody s_is_entry) (defScope s_is_entry) .none kV_is_entry doc_is_entry pm_is_entry an_is_entry cd_is_entry ct_is_entry), sl_is_entry⟩)
    (cd_is_is_entry : PySem.W.codeIn K cd_is_entry "_is_entry" = true)
    (k_is_entry : PySem.W.keepIn K (.ref f_is_entry) = true)
    (a_paired : PySem.W.nsIn K mainGlobals "_paired" = some (some (.ref f_paired)))
    (l_paired : K.lookup f_paired = some ⟨oc_paired, od_paired, .func (PySem.W.fnOf "_paired" "_paired" (defArgs s_paired) (defBody s_paired) (defScope s_paired) .none kV_paired doc_paired pm_paired an_paired cd_paired ct_paired), sl_paired⟩)
    (cd_is_paired : PySem.W.codeIn K cd_paired "_paired" = true)
    (k_paired : PySem.W.keepIn K (.ref f_paired) = true)
    (l_m_init : K.lookup f_m_init = some ⟨oc_m_init, od_m_init, .func (PySem.W.fnOf "__init__" "Clash.__init__" (defArgs s_m_init) (defBody s_m_init) (defScope s_m_init) .none kV_m_init doc_m_init pm_m_init an_m_init cd_m_init ct_m_init), sl_m_init⟩)
    (cd_is_m_init : PySem.W.codeIn K cd_m_init "Clash.__init__" = true)
    (k_m_init : PySem.W.keepIn K (.ref f_m_init) = true)
    (l_m_holds : K.lookup f_m_holds = some ⟨oc_m_holds, od_m_holds, .func (PySem.W.fnOf "holds" "Clash.holds" (defArgs s_m_holds) (defBody s_m_holds) (defScope s_m_holds) .none kV_m_holds doc_m_holds pm_m_holds an_m_holds cd_m_holds ct_m_holds), sl_m_holds⟩)
    (cd_is_m_holds : PySem.W.codeIn K cd_m_holds "Clash.holds" = true)
    (k_m_holds : PySem.W.keepIn K (.ref f_m_holds) = true)
    (a_kind_clash : PySem.W.nsIn K mainGlobals "kind_clash" = some (some (.ref f_kind_clash)))
    (l_kind_clash : K.lookup f_kind_clash = some ⟨oc_kind_clash, od_kind_clash, .func (PySem.W.fnOf "kind_clash" "kind_clash" (defArgs s_kind_clash) (defBody s_kind_clash) (defScope s_kind_clash) .none kV_kind_clash doc_kind_clash pm_kind_clash an_kind_clash cd_kind_clash ct_kind_clash), sl_kind_clash⟩)
    (cd_is_kind_clash : PySem.W.codeIn K cd_kind_clash "kind_clash" = true)
    (k_kind_clash : PySem.W.keepIn K (.ref f_kind_clash) = true)
    (a_first_clash : PySem.W.nsIn K mainGlobals "first_clash" = some (some (.ref f_first_clash)))
    (l_first_clash : K.lookup f_first_clash = some ⟨oc_first_clash, od_first_clash, .func (PySem.W.fnOf "first_clash" "first_clash" (defArgs s_first_clash) (defBody s_first_clash) (defScope s_first_clash) .none kV_first_clash doc_first_clash pm_first_clash an_first_clash cd_first_clash ct_first_clash), sl_first_clash⟩)
    (cd_is_first_clash : PySem.W.codeIn K cd_first_clash "first_clash" = true)
    (k_first_clash : PySem.W.keepIn K (.ref f_first_clash) = true)
    (a_first_unsafe : PySem.W.nsIn K mainGlobals "first_unsafe" = some (some (.ref f_first_unsafe)))
    (l_first_unsafe : K.lookup f_first_unsafe = some ⟨oc_first_unsafe, od_first_unsafe, .func (PySem.W.fnOf "first_unsafe" "first_unsafe" (defArgs s_first_unsafe) (defBody s_first_unsafe) (defScope s_first_unsafe) .none kV_first_unsafe doc_first_unsafe pm_first_unsafe an_first_unsafe cd_first_unsafe ct_first_unsafe), sl_first_unsafe⟩)
    (cd_is_first_unsafe : PySem.W.codeIn K cd_first_unsafe "first_unsafe" = true)
    (k_first_unsafe : PySem.W.keepIn K (.ref f_first_unsafe) = true)
    (a_clash_between : PySem.W.nsIn K mainGlobals "clash_between" = some (some (.ref f_clash_between)))
    (l_clash_between : K.lookup f_clash_between = some ⟨oc_clash_between, od_clash_between, .func (PySem.W.fnOf "clash_between" "clash_between" (defArgs s_clash_between) (defBody s_clash_between) (defScope s_clash_between) .none kV_clash_between doc_clash_between pm_clash_between an_clash_between cd_clash_between ct_clash_between), sl_clash_between⟩)
    (cd_is_clash_between : PySem.W.codeIn K cd_clash_between "clash_between" = true)
    (k_clash_between : PySem.W.keepIn K (.ref f_clash_between) = true)
    (a_rest_after : PySem.W.nsIn K mainGlobals "rest_after" = some (some (.ref f_rest_after)))
    (l_rest_after : K.lookup f_rest_after = some ⟨oc_rest_after, od_rest_after, .func (PySem.W.fnOf "rest_after" "rest_after" (defArgs s_rest_after) (defBody s_rest_after) (defScope s_rest_after) .none kV_rest_after doc_rest_after pm_rest_after an_rest_after cd_rest_after ct_rest_after), sl_rest_after⟩)
    (cd_is_rest_after : PySem.W.codeIn K cd_rest_after "rest_after" = true)
    (k_rest_after : PySem.W.keepIn K (.ref f_rest_after) = true)
    (a_renamed : PySem.W.nsIn K mainGlobals "renamed" = some (some (.ref f_renamed)))
    (l_renamed : K.lookup f_renamed = some ⟨oc_renamed, od_renamed, .func (PySem.W.fnOf "renamed" "renamed" (defArgs s_renamed) (defBody s_renamed) (defScope s_renamed) .none kV_renamed doc_renamed pm_renamed an_renamed cd_renamed ct_renamed), sl_renamed⟩)
    (cd_is_renamed : PySem.W.codeIn K cd_renamed "renamed" = true)
    (k_renamed : PySem.W.keepIn K (.ref f_renamed) = true)
    (a_own_rows : PySem.W.nsIn K mainGlobals "_own_rows" = some (some (.ref f_own_rows)))
    (l_own_rows : K.lookup f_own_rows = some ⟨oc_own_rows, od_own_rows, .func (PySem.W.fnOf "_own_rows" "_own_rows" (defArgs s_own_rows) (defBody s_own_rows) (defScope s_own_rows) .none kV_own_rows doc_own_rows pm_own_rows an_own_rows cd_own_rows ct_own_rows), sl_own_rows⟩)
    (cd_is_own_rows : PySem.W.codeIn K cd_own_rows "_own_rows" = true)
    (k_own_rows : PySem.W.keepIn K (.ref f_own_rows) = true)
    (a_is_torn : PySem.W.nsIn K mainGlobals "_is_torn" = some (some (.ref f_is_torn)))
    (l_is_torn : K.lookup f_is_torn = some ⟨oc_is_torn, od_is_torn, .func (PySem.W.fnOf "_is_torn" "_is_torn" (defArgs s_is_torn) (defBody s_is_torn) (defScope s_is_torn) .none kV_is_torn doc_is_torn pm_is_torn an_is_torn cd_is_torn ct_is_torn), sl_is_torn⟩)
    (cd_is_is_torn : PySem.W.codeIn K cd_is_torn "_is_torn" = true)
    (k_is_torn : PySem.W.keepIn K (.ref f_is_torn) = true)
    (a_other_way : PySem.W.nsIn K mainGlobals "_other_way" = some (some (.ref f_other_way)))
    (l_other_way : K.lookup f_other_way = some ⟨oc_other_way, od_other_way, .func (PySem.W.fnOf "_other_way" "_other_way" (defArgs s_other_way) (defBody s_other_way) (defScope s_other_way) .none kV_other_way doc_other_way pm_other_way an_other_way cd_other_way ct_other_way), sl_other_way⟩)
    (cd_is_other_way : PySem.W.codeIn K cd_other_way "_other_way" = true)
    (k_other_way : PySem.W.keepIn K (.ref f_other_way) = true)
    (a_law_whole : PySem.W.nsIn K mainGlobals "_law_whole" = some (some (.ref f_law_whole)))
    (l_law_whole : K.lookup f_law_whole = some ⟨oc_law_whole, od_law_whole, .func (PySem.W.fnOf "_law_whole" "_law_whole" (defArgs s_law_whole) (defBody s_law_whole) (defScope s_law_whole) .none kV_law_whole doc_law_whole pm_law_whole an_law_whole cd_law_whole ct_law_whole), sl_law_whole⟩)
    (cd_is_law_whole : PySem.W.codeIn K cd_law_whole "_law_whole" = true)
    (k_law_whole : PySem.W.keepIn K (.ref f_law_whole) = true)
    (a_law_bag : PySem.W.nsIn K mainGlobals "_law_bag" = some (some (.ref f_law_bag)))
    (l_law_bag : K.lookup f_law_bag = some ⟨oc_law_bag, od_law_bag, .func (PySem.W.fnOf "_law_bag" "_law_bag" (defArgs s_law_bag) (defBody s_law_bag) (defScope s_law_bag) .none kV_law_bag doc_law_bag pm_law_bag an_law_bag cd_law_bag ct_law_bag), sl_law_bag⟩)
    (cd_is_law_bag : PySem.W.codeIn K cd_law_bag "_law_bag" = true)
    (k_law_bag : PySem.W.keepIn K (.ref f_law_bag) = true)
    (a_law_draw : PySem.W.nsIn K mainGlobals "_law_draw" = some (some (.ref f_law_draw)))
    (l_law_draw : K.lookup f_law_draw = some ⟨oc_law_draw, od_law_draw, .func (PySem.W.fnOf "_law_draw" "_law_draw" (defArgs s_law_draw) (defBody s_law_draw) (defScope s_law_draw) .none kV_law_draw doc_law_draw pm_law_draw an_law_draw cd_law_draw ct_law_draw), sl_law_draw⟩)
    (cd_is_law_draw : PySem.W.codeIn K cd_law_draw "_law_draw" = true)
    (k_law_draw : PySem.W.keepIn K (.ref f_law_draw) = true)
    (a_law_part : PySem.W.nsIn K mainGlobals "_law_part" = some (some (.ref f_law_part)))
    (l_law_part : K.lookup f_law_part = some ⟨oc_law_part, od_law_part, .func (PySem.W.fnOf "_law_part" "_law_part" (defArgs s_law_part) (defBody s_law_part) (defScope s_law_part) .none kV_law_part doc_law_part pm_law_part an_law_part cd_law_part ct_law_part), sl_law_part⟩)
    (cd_is_law_part : PySem.W.codeIn K cd_law_part "_law_part" = true)
    (k_law_part : PySem.W.keepIn K (.ref f_law_part) = true)
    (a_law_kind : PySem.W.nsIn K mainGlobals "_law_kind" = some (some (.ref f_law_kind)))
    (l_law_kind : K.lookup f_law_kind = some ⟨oc_law_kind, od_law_kind, .func (PySem.W.fnOf "_law_kind" "_law_kind" (defArgs s_law_kind) (defBody s_law_kind) (defScope s_law_kind) .none kV_law_kind doc_law_kind pm_law_kind an_law_kind cd_law_kind ct_law_kind), sl_law_kind⟩)
    (cd_is_law_kind : PySem.W.codeIn K cd_law_kind "_law_kind" = true)
    (k_law_kind : PySem.W.keepIn K (.ref f_law_kind) = true)
    (a_law_tame : PySem.W.nsIn K mainGlobals "_law_tame" = some (some (.ref f_law_tame)))
    (l_law_tame : K.lookup f_law_tame = some ⟨oc_law_tame, od_law_tame, .func (PySem.W.fnOf "_law_tame" "_law_tame" (defArgs s_law_tame) (defBody s_law_tame) (defScope s_law_tame) .none kV_law_tame doc_law_tame pm_law_tame an_law_tame cd_law_tame ct_law_tame), sl_law_tame⟩)
    (cd_is_law_tame : PySem.W.codeIn K cd_law_tame "_law_tame" = true)
    (k_law_tame : PySem.W.keepIn K (.ref f_law_tame) = true)
    (a_law_bent_kind : PySem.W.nsIn K mainGlobals "_law_bent_kind" = some (some (.ref f_law_bent_kind)))
    (l_law_bent_kind : K.lookup f_law_bent_kind = some ⟨oc_law_bent_kind, od_law_bent_kind, .func (PySem.W.fnOf "_law_bent_kind" "_law_bent_kind" (defArgs s_law_bent_kind) (defBody s_law_bent_kind) (defScope s_law_bent_kind) .none kV_law_bent_kind doc_law_bent_kind pm_law_bent_kind an_law_bent_kind cd_law_bent_kind ct_law_bent_kind), sl_law_bent_kind⟩)
    (cd_is_law_bent_kind : PySem.W.codeIn K cd_law_bent_kind "_law_bent_kind" = true)
    (k_law_bent_kind : PySem.W.keepIn K (.ref f_law_bent_kind) = true)
    (a_law_entry_right : PySem.W.nsIn K mainGlobals "_law_entry_right" = some (some (.ref f_law_entry_right)))
    (l_law_entry_right : K.lookup f_law_entry_right = some ⟨oc_law_entry_right, od_law_entry_right, .func (PySem.W.fnOf "_law_entry_right" "_law_entry_right" (defArgs s_law_entry_right) (defBody s_law_entry_right) (defScope s_law_entry_right) .none kV_law_entry_right doc_law_entry_right pm_law_entry_right an_law_entry_right cd_law_entry_right ct_law_entry_right), sl_law_entry_right⟩)
    (cd_is_law_entry_right : PySem.W.codeIn K cd_law_entry_right "_law_entry_right" = true)
    (k_law_entry_right : PySem.W.keepIn K (.ref f_law_entry_right) = true)
    (a_law_kind_right : PySem.W.nsIn K mainGlobals "_law_kind_right" = some (some (.ref f_law_kind_right)))
    (l_law_kind_right : K.lookup f_law_kind_right = some ⟨oc_law_kind_right, od_law_kind_right, .func (PySem.W.fnOf "_law_kind_right" "_law_kind_right" (defArgs s_law_kind_right) (defBody s_law_kind_right) (defScope s_law_kind_right) .none kV_law_kind_right doc_law_kind_right pm_law_kind_right an_law_kind_right cd_law_kind_right ct_law_kind_right), sl_law_kind_right⟩)
    (cd_is_law_kind_right : PySem.W.codeIn K cd_law_kind_right "_law_kind_right" = true)
    (k_law_kind_right : PySem.W.keepIn K (.ref f_law_kind_right) = true)
    (a_law_safe : PySem.W.nsIn K mainGlobals "_law_safe" = some (some (.ref f_law_safe)))
    (l_law_safe : K.lookup f_law_safe = some ⟨oc_law_safe, od_law_safe, .func (PySem.W.fnOf "_law_safe" "_law_safe" (defArgs s_law_safe) (defBody s_law_safe) (defScope s_law_safe) .none kV_law_safe doc_law_safe pm_law_safe an_law_safe cd_law_safe ct_law_safe), sl_law_safe⟩)
    (cd_is_law_safe : PySem.W.codeIn K cd_law_safe "_law_safe" = true)
    (k_law_safe : PySem.W.keepIn K (.ref f_law_safe) = true)
    (a_law_kinds : PySem.W.nsIn K mainGlobals "_law_kinds" = some (some (.ref f_law_kinds)))
    (l_law_kinds : K.lookup f_law_kinds = some ⟨oc_law_kinds, od_law_kinds, .func (PySem.W.fnOf "_law_kinds" "_law_kinds" (defArgs s_law_kinds) (defBody s_law_kinds) (defScope s_law_kinds) .none kV_law_kinds doc_law_kinds pm_law_kinds an_law_kinds cd_law_kinds ct_law_kinds), sl_law_kinds⟩)
    (cd_is_law_kinds : PySem.W.codeIn K cd_law_kinds "_law_kinds" = true)
    (k_law_kinds : PySem.W.keepIn K (.ref f_law_kinds) = true)
    (a_law_alone : PySem.W.nsIn K mainGlobals "_law_alone" = some (some (.ref f_law_alone)))
    (l_law_alone : K.lookup f_law_alone = some ⟨oc_law_alone, od_law_alone, .func (PySem.W.fnOf "_law_alone" "_law_alone" (defArgs s_law_alone) (defBody s_law_alone) (defScope s_law_alone) .none kV_law_alone doc_law_alone pm_law_alone an_law_alone cd_law_alone ct_law_alone), sl_law_alone⟩)
    (cd_is_law_alone : PySem.W.codeIn K cd_law_alone "_law_alone" = true)
    (k_law_alone : PySem.W.keepIn K (.ref f_law_alone) = true)
    (a_law_holds : PySem.W.nsIn K mainGlobals "_law_holds" = some (some (.ref f_law_holds)))
    (l_law_holds : K.lookup f_law_holds = some ⟨oc_law_holds, od_law_holds, .func (PySem.W.fnOf "_law_holds" "_law_holds" (defArgs s_law_holds) (defBody s_law_holds) (defScope s_law_holds) .none kV_law_holds doc_law_holds pm_law_holds an_law_holds cd_law_holds ct_law_holds), sl_law_holds⟩)
    (cd_is_law_holds : PySem.W.codeIn K cd_law_holds "_law_holds" = true)
    (k_law_holds : PySem.W.keepIn K (.ref f_law_holds) = true)
    (a_law_kind_of : PySem.W.nsIn K mainGlobals "_law_kind_of" = some (some (.ref f_law_kind_of)))
    (l_law_kind_of : K.lookup f_law_kind_of = some ⟨oc_law_kind_of, od_law_kind_of, .func (PySem.W.fnOf "_law_kind_of" "_law_kind_of" (defArgs s_law_kind_of) (defBody s_law_kind_of) (defScope s_law_kind_of) .none kV_law_kind_of doc_law_kind_of pm_law_kind_of an_law_kind_of cd_law_kind_of ct_law_kind_of), sl_law_kind_of⟩)
    (cd_is_law_kind_of : PySem.W.codeIn K cd_law_kind_of "_law_kind_of" = true)
    (k_law_kind_of : PySem.W.keepIn K (.ref f_law_kind_of) = true)
    (a_law_state_right : PySem.W.nsIn K mainGlobals "_law_state_right" = some (some (.ref f_law_state_right)))
    (l_law_state_right : K.lookup f_law_state_right = some ⟨oc_law_state_right, od_law_state_right, .func (PySem.W.fnOf "_law_state_right" "_law_state_right" (defArgs s_law_state_right) (defBody s_law_state_right) (defScope s_law_state_right) .none kV_law_state_right doc_law_state_right pm_law_state_right an_law_state_right cd_law_state_right ct_law_state_right), sl_law_state_right⟩)
    (cd_is_law_state_right : PySem.W.codeIn K cd_law_state_right "_law_state_right" = true)
    (k_law_state_right : PySem.W.keepIn K (.ref f_law_state_right) = true)
    (a_law_clash_right : PySem.W.nsIn K mainGlobals "_law_clash_right" = some (some (.ref f_law_clash_right)))
    (l_law_clash_right : K.lookup f_law_clash_right = some ⟨oc_law_clash_right, od_law_clash_right, .func (PySem.W.fnOf "_law_clash_right" "_law_clash_right" (defArgs s_law_clash_right) (defBody s_law_clash_right) (defScope s_law_clash_right) .none kV_law_clash_right doc_law_clash_right pm_law_clash_right an_law_clash_right cd_law_clash_right ct_law_clash_right), sl_law_clash_right⟩)
    (cd_is_law_clash_right : PySem.W.codeIn K cd_law_clash_right "_law_clash_right" = true)
    (k_law_clash_right : PySem.W.keepIn K (.ref f_law_clash_right) = true)
    (a_law_met_kind : PySem.W.nsIn K mainGlobals "_law_met_kind" = some (some (.ref f_law_met_kind)))
    (l_law_met_kind : K.lookup f_law_met_kind = some ⟨oc_law_met_kind, od_law_met_kind, .func (PySem.W.fnOf "_law_met_kind" "_law_met_kind" (defArgs s_law_met_kind) (defBody s_law_met_kind) (defScope s_law_met_kind) .none kV_law_met_kind doc_law_met_kind pm_law_met_kind an_law_met_kind cd_law_met_kind ct_law_met_kind), sl_law_met_kind⟩)
    (cd_is_law_met_kind : PySem.W.codeIn K cd_law_met_kind "_law_met_kind" = true)
    (k_law_met_kind : PySem.W.keepIn K (.ref f_law_met_kind) = true)
    (a_law_call : PySem.W.nsIn K mainGlobals "_law_call" = some (some (.ref f_law_call)))
    (l_law_call : K.lookup f_law_call = some ⟨oc_law_call, od_law_call, .func (PySem.W.fnOf "_law_call" "_law_call" (defArgs s_law_call) (defBody s_law_call) (defScope s_law_call) .none kV_law_call doc_law_call pm_law_call an_law_call cd_law_call ct_law_call), sl_law_call⟩)
    (cd_is_law_call : PySem.W.codeIn K cd_law_call "_law_call" = true)
    (k_law_call : PySem.W.keepIn K (.ref f_law_call) = true)
    (a_law_met_first : PySem.W.nsIn K mainGlobals "_law_met_first" = some (some (.ref f_law_met_first)))
    (l_law_met_first : K.lookup f_law_met_first = some ⟨oc_law_met_first, od_law_met_first, .func (PySem.W.fnOf "_law_met_first" "_law_met_first" (defArgs s_law_met_first) (defBody s_law_met_first) (defScope s_law_met_first) .none kV_law_met_first doc_law_met_first pm_law_met_first an_law_met_first cd_law_met_first ct_law_met_first), sl_law_met_first⟩)
    (cd_is_law_met_first : PySem.W.codeIn K cd_law_met_first "_law_met_first" = true)
    (k_law_met_first : PySem.W.keepIn K (.ref f_law_met_first) = true)
    (a_law_one_right : PySem.W.nsIn K mainGlobals "_law_one_right" = some (some (.ref f_law_one_right)))
    (l_law_one_right : K.lookup f_law_one_right = some ⟨oc_law_one_right, od_law_one_right, .func (PySem.W.fnOf "_law_one_right" "_law_one_right" (defArgs s_law_one_right) (defBody s_law_one_right) (defScope s_law_one_right) .none kV_law_one_right doc_law_one_right pm_law_one_right an_law_one_right cd_law_one_right ct_law_one_right), sl_law_one_right⟩)
    (cd_is_law_one_right : PySem.W.codeIn K cd_law_one_right "_law_one_right" = true)
    (k_law_one_right : PySem.W.keepIn K (.ref f_law_one_right) = true)
    (a_law_first_right : PySem.W.nsIn K mainGlobals "_law_first_right" = some (some (.ref f_law_first_right)))
    (l_law_first_right : K.lookup f_law_first_right = some ⟨oc_law_first_right, od_law_first_right, .func (PySem.W.fnOf "_law_first_right" "_law_first_right" (defArgs s_law_first_right) (defBody s_law_first_right) (defScope s_law_first_right) .none kV_law_first_right doc_law_first_right pm_law_first_right an_law_first_right cd_law_first_right ct_law_first_right), sl_law_first_right⟩)
    (cd_is_law_first_right : PySem.W.codeIn K cd_law_first_right "_law_first_right" = true)
    (k_law_first_right : PySem.W.keepIn K (.ref f_law_first_right) = true)
    (a_law : PySem.W.nsIn K mainGlobals "law" = some (some (.ref f_law)))
    (l_law : K.lookup f_law = some ⟨oc_law, od_law, .func (PySem.W.fnOf "law" "law" (defArgs s_law) (defBody s_law) (defScope s_law) .none kV_law doc_law pm_law an_law cd_law ct_law), sl_law⟩)
    (cd_is_law : PySem.W.codeIn K cd_law "law" = true)
    (k_law : PySem.W.keepIn K (.ref f_law) = true)
    (a_SAFE_KINDS : PySem.W.nsIn K mainGlobals "SAFE_KINDS" = some (some (.ref c_SAFE_KINDS)))
    (l_SAFE : K.lookup c_SAFE_KINDS = some ⟨.type "tuple", odS, .seq #[.ref sk0, .ref sk1, .ref sk2, .ref sk3, .ref sk4] nS, slS⟩)
    (l_sk0 : K.lookup sk0 = some ⟨.type "tuple", odk0, .seq #[] nk0, slk0⟩)
    (l_sk1 : K.lookup sk1 = some ⟨.type "tuple", odk1, .seq #[.ref sg1] nk1, slk1⟩)
    (l_sg1 : K.lookup sg1 = some ⟨.type "tuple", odg1, .seq #[.str "chain" tg1_0, .int 2 tg1_1, .int (-1) tg1_2] ng1, slg1⟩)
    (l_sk2 : K.lookup sk2 = some ⟨.type "tuple", odk2, .seq #[.ref sg2] nk2, slk2⟩)
    (l_sg2 : K.lookup sg2 = some ⟨.type "tuple", odg2, .seq #[.str "chain" tg2_0, .int 2 tg2_1, .int 1 tg2_2] ng2, slg2⟩)
    (l_sk3 : K.lookup sk3 = some ⟨.type "tuple", odk3, .seq #[.ref sg3] nk3, slk3⟩)
    (l_sg3 : K.lookup sg3 = some ⟨.type "tuple", odg3, .seq #[.str "chain" tg3_0, .int 3 tg3_1, .int 0 tg3_2] ng3, slg3⟩)
    (l_sk4 : K.lookup sk4 = some ⟨.type "tuple", odk4, .seq #[.ref sg4] nk4, slk4⟩)
    (l_sg4 : K.lookup sg4 = some ⟨.type "tuple", odg4, .seq #[.str "ring" tg4_0, .int 4 tg4_1, .int 0 tg4_2] ng4, slg4⟩)
    (a_MendError : PySem.W.nsIn K mainGlobals "MendError" = some (some (.ref c_MendError)))
    (x_MendError : K.lookup c_MendError = some (excClassObj nm_MendError q_MendError c_MendError N_MendError_ bs_MendError bm_MendError true sn_MendError sub_MendError ab_MendError col_MendError dd_MendError k0_MendError k1_MendError k2_MendError k3_MendError k5_MendError "ValueError.__new__"))
    (a_InvalidUpdate : PySem.W.nsIn K mainGlobals "InvalidUpdate" = some (some (.ref c_InvalidUpdate)))
    (x_InvalidUpdate : K.lookup c_InvalidUpdate = some (excClassObj nm_InvalidUpdate q_InvalidUpdate c_InvalidUpdate N_InvalidUpdate_ bs_InvalidUpdate [.ref c_MendError, .type "ValueError", .type "Exception", .type "BaseException", .type "object"] true sn_InvalidUpdate sub_InvalidUpdate ab_InvalidUpdate col_InvalidUpdate dd_InvalidUpdate k0_InvalidUpdate k1_InvalidUpdate k2_InvalidUpdate k3_InvalidUpdate k5_InvalidUpdate "ValueError.__new__"))
    (kc_InvalidUpdate : PySem.W.keepIn K (.ref c_InvalidUpdate) = true)
    (sa_InvalidUpdate : PySem.W.findIn K (.ref c_InvalidUpdate) "__setattr__" = some (some (.builtin "object.__setattr__")))
    (ga_InvalidUpdate : PySem.W.findIn K (.ref c_InvalidUpdate) "__getattribute__" = some (some (.builtin "BaseException.__getattribute__")))
    (gg_InvalidUpdate : PySem.W.findIn K (.ref c_InvalidUpdate) "__getattr__" = some none)
    (ca_InvalidUpdate : PySem.W.findIn K (.ref c_InvalidUpdate) "__class__" = some (some (.builtin "object.__class__")))
    (q_is_InvalidUpdate : PySem.W.excIn K c_InvalidUpdate [.type "ValueError", .type "Exception", .type "BaseException", .type "object"] "ValueError.__new__" = true)
    (a_InvalidKind : PySem.W.nsIn K mainGlobals "InvalidKind" = some (some (.ref c_InvalidKind)))
    (x_InvalidKind : K.lookup c_InvalidKind = some (excClassObj nm_InvalidKind q_InvalidKind c_InvalidKind N_InvalidKind_ bs_InvalidKind [.ref c_MendError, .type "ValueError", .type "Exception", .type "BaseException", .type "object"] true sn_InvalidKind sub_InvalidKind ab_InvalidKind col_InvalidKind dd_InvalidKind k0_InvalidKind k1_InvalidKind k2_InvalidKind k3_InvalidKind k5_InvalidKind "ValueError.__new__"))
    (kc_InvalidKind : PySem.W.keepIn K (.ref c_InvalidKind) = true)
    (sa_InvalidKind : PySem.W.findIn K (.ref c_InvalidKind) "__setattr__" = some (some (.builtin "object.__setattr__")))
    (ga_InvalidKind : PySem.W.findIn K (.ref c_InvalidKind) "__getattribute__" = some (some (.builtin "BaseException.__getattribute__")))
    (gg_InvalidKind : PySem.W.findIn K (.ref c_InvalidKind) "__getattr__" = some none)
    (ca_InvalidKind : PySem.W.findIn K (.ref c_InvalidKind) "__class__" = some (some (.builtin "object.__class__")))
    (q_is_InvalidKind : PySem.W.excIn K c_InvalidKind [.type "ValueError", .type "Exception", .type "BaseException", .type "object"] "ValueError.__new__" = true)
    (a_InvalidChange : PySem.W.nsIn K mainGlobals "InvalidChange" = some (some (.ref c_InvalidChange)))
    (x_InvalidChange : K.lookup c_InvalidChange = some (excClassObj nm_InvalidChange q_InvalidChange c_InvalidChange N_InvalidChange_ bs_InvalidChange [.ref c_MendError, .type "ValueError", .type "Exception", .type "BaseException", .type "object"] true sn_InvalidChange sub_InvalidChange ab_InvalidChange col_InvalidChange dd_InvalidChange k0_InvalidChange k1_InvalidChange k2_InvalidChange k3_InvalidChange k5_InvalidChange "ValueError.__new__"))
    (kc_InvalidChange : PySem.W.keepIn K (.ref c_InvalidChange) = true)
    (sa_InvalidChange : PySem.W.findIn K (.ref c_InvalidChange) "__setattr__" = some (some (.builtin "object.__setattr__")))
    (ga_InvalidChange : PySem.W.findIn K (.ref c_InvalidChange) "__getattribute__" = some (some (.builtin "BaseException.__getattribute__")))
    (gg_InvalidChange : PySem.W.findIn K (.ref c_InvalidChange) "__getattr__" = some none)
    (ca_InvalidChange : PySem.W.findIn K (.ref c_InvalidChange) "__class__" = some (some (.builtin "object.__class__")))
    (q_is_InvalidChange : PySem.W.excIn K c_InvalidChange [.type "ValueError", .type "Exception", .type "BaseException", .type "object"] "ValueError.__new__" = true)
    (a_InvalidOrder : PySem.W.nsIn K mainGlobals "InvalidOrder" = some (some (.ref c_InvalidOrder)))
    (x_InvalidOrder : K.lookup c_InvalidOrder = some (excClassObj nm_InvalidOrder q_InvalidOrder c_InvalidOrder N_InvalidOrder_ bs_InvalidOrder [.ref c_MendError, .type "ValueError", .type "Exception", .type "BaseException", .type "object"] true sn_InvalidOrder sub_InvalidOrder ab_InvalidOrder col_InvalidOrder dd_InvalidOrder k0_InvalidOrder k1_InvalidOrder k2_InvalidOrder k3_InvalidOrder k5_InvalidOrder "ValueError.__new__"))
    (kc_InvalidOrder : PySem.W.keepIn K (.ref c_InvalidOrder) = true)
    (sa_InvalidOrder : PySem.W.findIn K (.ref c_InvalidOrder) "__setattr__" = some (some (.builtin "object.__setattr__")))
    (ga_InvalidOrder : PySem.W.findIn K (.ref c_InvalidOrder) "__getattribute__" = some (some (.builtin "BaseException.__getattribute__")))
    (gg_InvalidOrder : PySem.W.findIn K (.ref c_InvalidOrder) "__getattr__" = some none)
    (ca_InvalidOrder : PySem.W.findIn K (.ref c_InvalidOrder) "__class__" = some (some (.builtin "object.__class__")))
    (q_is_InvalidOrder : PySem.W.excIn K c_InvalidOrder [.type "ValueError", .type "Exception", .type "BaseException", .type "object"] "ValueError.__new__" = true)
    (cn : PySem.W.specialIn K (.builtin "object.__class__") "__get__" = some (some (.builtin "getset_descriptor.__get__")))
    (ct : PySem.W.takesIn K (.builtin "object.__class__") = some true)
    (nd : [c_MendError, c_InvalidUpdate, c_InvalidKind, c_InvalidChange, c_InvalidOrder].Nodup)
    (rc1 : PySem.W.plainGet K c_Clash Str.empty = true)
    (rc2 : PySem.W.hasDictIn K c_Clash = true)
    (rc3 : PySem.W.plainOver K c_Clash = true)
    (rc4 : PySem.W.findIn K (.ref c_Clash) "__setattr__" = some (some (.builtin "object.__setattr__")))
    (rm1 : PySem.W.makesIn K c_Clash = true)
    (rm3 : PySem.W.isFn K (.ref f_m_init) = true)
    (rm4 : PySem.W.keepIn K (.ref c_Clash) = true)
    (r_cc : PySem.W.findIn K (.ref c_Clash) "__class__" = some (some (.builtin "object.__class__")))
    (r_co : PySem.W.mroIn K c_Clash (.type "object") = some true)
    (mf_holds : PySem.W.isFn K (.ref f_m_holds) = true)
    (nc_is_first : PySem.W.findIn K (.ref c_Clash) "first" = some none)
    (nc_is_second : PySem.W.findIn K (.ref c_Clash) "second" = some none)
    (nc_is_image : PySem.W.findIn K (.ref c_Clash) "image" = some none)
    (z_ValueError : PySem.W.nsIn K mainGlobals "ValueError" = some none)
    (z_int : PySem.W.nsIn K mainGlobals "int" = some none)
    (z_bool : PySem.W.nsIn K mainGlobals "bool" = some none)
    (z_str : PySem.W.nsIn K mainGlobals "str" = some none)
    (z_list : PySem.W.nsIn K mainGlobals "list" = some none)
    (z_tuple : PySem.W.nsIn K mainGlobals "tuple" = some none)
    (z_len : PySem.W.nsIn K mainGlobals "len" = some none)
    (z_range : PySem.W.nsIn K mainGlobals "range" = some none)
    (z_enumerate : PySem.W.nsIn K mainGlobals "enumerate" = some none)
    (z_isinstance : PySem.W.nsIn K mainGlobals "isinstance" = some none)
    (z_min : PySem.W.nsIn K mainGlobals "min" = some none)
    (z_abs : PySem.W.nsIn K mainGlobals "abs" = some none)
    (z_sorted : PySem.W.nsIn K mainGlobals "sorted" = some none)
    (z_all : PySem.W.nsIn K mainGlobals "all" = some none)
    (z_sum : PySem.W.nsIn K mainGlobals "sum" = some none)
    (z_zip : PySem.W.nsIn K mainGlobals "zip" = some none)
    (z_reversed : PySem.W.nsIn K mainGlobals "reversed" = some none)
    : ∃ fd : FuncData, (∀ (s : Shared) (v : Value), BindsTo s fd ⟨[v], []⟩ [("script", v)]) ∧ ∀ base : Heap, K.In base → base.Ns mainGlobals mg → FnOk l.prog w K mg base CX0 11 fa fd ["script"] (spLaw K) := by
  have e := hfa.symm.trans (PySem.W.mg_of X G a_law)
  cases e
  obtain ⟨A, hA⟩ : ∃ A : Ad, A = ⟨f_check_kind, f_sample_rows, f_is_entry, f_paired, f_m_init, f_m_holds, f_kind_clash, f_first_clash, f_first_unsafe, f_clash_between, f_rest_after, f_renamed, f_own_rows, f_is_torn, f_other_way, f_law_whole, f_law_bag, f_law_draw, f_law_part, f_law_kind, f_law_tame, f_law_bent_kind, f_law_entry_right, f_law_kind_right, f_law_safe, f_law_kinds, f_law_alone, f_law_holds, f_law_kind_of, f_law_state_right, f_law_clash_right, f_law_met_kind, f_law_call, f_law_met_first, f_law_one_right, f_law_first_right, fa, c_SAFE_KINDS, c_MendError, c_InvalidUpdate, c_InvalidKind, c_InvalidChange, c_InvalidOrder, c_Clash⟩ := ⟨_, rfl⟩
  have T : Txt K mg A := {
    g_check_kind := by rw [hA]; exact PySem.W.mg_of X G a_check_kind,
    k_check_kind := by rw [hA]; exact k_check_kind,
    d_check_kind := by rw [hA]; exact ⟨_, fun_mk (st := s_check_kind) l_check_kind cd_is_check_kind k_check_kind⟩,
    g_sample_rows := by rw [hA]; exact PySem.W.mg_of X G a_sample_rows,
    k_sample_rows := by rw [hA]; exact k_sample_rows,
    d_sample_rows := by rw [hA]; exact ⟨_, fun_mk (st := s_sample_rows) l_sample_rows cd_is_sample_rows k_sample_rows⟩,
    g_is_entry := by rw [hA]; exact PySem.W.mg_of X G a_is_entry,
    k_is_entry := by rw [hA]; exact k_is_entry,
    d_is_entry := by rw [hA]; exact ⟨_, fun_mk (st := s_is_entry) l_is_entry cd_is_is_entry k_is_entry⟩,
    g_paired := by rw [hA]; exact PySem.W.mg_of X G a_paired,
    k_paired := by rw [hA]; exact k_paired,
    d_paired := by rw [hA]; exact ⟨_, fun_mk (st := s_paired) l_paired cd_is_paired k_paired⟩,
    d_m_init := by rw [hA]; exact ⟨_, fun_mk (st := s_m_init) l_m_init cd_is_m_init k_m_init⟩,
    d_m_holds := by rw [hA]; exact ⟨_, fun_mk (st := s_m_holds) l_m_holds cd_is_m_holds k_m_holds⟩,
    g_kind_clash := by rw [hA]; exact PySem.W.mg_of X G a_kind_clash,
    k_kind_clash := by rw [hA]; exact k_kind_clash,
    d_kind_clash := by rw [hA]; exact ⟨_, fun_mk (st := s_kind_clash) l_kind_clash cd_is_kind_clash k_kind_clash⟩,
    g_first_clash := by rw [hA]; exact PySem.W.mg_of X G a_first_clash,
    k_first_clash := by rw [hA]; exact k_first_clash,
    d_first_clash := by rw [hA]; exact ⟨_, fun_mk (st := s_first_clash) l_first_clash cd_is_first_clash k_first_clash⟩,
    g_first_unsafe := by rw [hA]; exact PySem.W.mg_of X G a_first_unsafe,
    k_first_unsafe := by rw [hA]; exact k_first_unsafe,
    d_first_unsafe := by rw [hA]; exact ⟨_, fun_mk (st := s_first_unsafe) l_first_unsafe cd_is_first_unsafe k_first_unsafe⟩,
    g_clash_between := by rw [hA]; exact PySem.W.mg_of X G a_clash_between,
    k_clash_between := by rw [hA]; exact k_clash_between,
    d_clash_between := by rw [hA]; exact ⟨_, fun_mk (st := s_clash_between) l_clash_between cd_is_clash_between k_clash_between⟩,
    g_rest_after := by rw [hA]; exact PySem.W.mg_of X G a_rest_after,
    k_rest_after := by rw [hA]; exact k_rest_after,
    d_rest_after := by rw [hA]; exact ⟨_, fun_mk (st := s_rest_after) l_rest_after cd_is_rest_after k_rest_after⟩,
    g_renamed := by rw [hA]; exact PySem.W.mg_of X G a_renamed,
    k_renamed := by rw [hA]; exact k_renamed,
    d_renamed := by rw [hA]; exact ⟨_, fun_mk (st := s_renamed) l_renamed cd_is_renamed k_renamed⟩,
    g_own_rows := by rw [hA]; exact PySem.W.mg_of X G a_own_rows,
    k_own_rows := by rw [hA]; exact k_own_rows,
    d_own_rows := by rw [hA]; exact ⟨_, fun_mk (st := s_own_rows) l_own_rows cd_is_own_rows k_own_rows⟩,
    g_is_torn := by rw [hA]; exact PySem.W.mg_of X G a_is_torn,
    k_is_torn := by rw [hA]; exact k_is_torn,
    d_is_torn := by rw [hA]; exact ⟨_, fun_mk (st := s_is_torn) l_is_torn cd_is_is_torn k_is_torn⟩,
    g_other_way := by rw [hA]; exact PySem.W.mg_of X G a_other_way,
    k_other_way := by rw [hA]; exact k_other_way,
    d_other_way := by rw [hA]; exact ⟨_, fun_mk (st := s_other_way) l_other_way cd_is_other_way k_other_way⟩,
    g_law_whole := by rw [hA]; exact PySem.W.mg_of X G a_law_whole,
    k_law_whole := by rw [hA]; exact k_law_whole,
    d_law_whole := by rw [hA]; exact ⟨_, fun_mk (st := s_law_whole) l_law_whole cd_is_law_whole k_law_whole⟩,
    g_law_bag := by rw [hA]; exact PySem.W.mg_of X G a_law_bag,
    k_law_bag := by rw [hA]; exact k_law_bag,
    d_law_bag := by rw [hA]; exact ⟨_, fun_mk (st := s_law_bag) l_law_bag cd_is_law_bag k_law_bag⟩,
    g_law_draw := by rw [hA]; exact PySem.W.mg_of X G a_law_draw,
    k_law_draw := by rw [hA]; exact k_law_draw,
    d_law_draw := by rw [hA]; exact ⟨_, fun_mk (st := s_law_draw) l_law_draw cd_is_law_draw k_law_draw⟩,
    g_law_part := by rw [hA]; exact PySem.W.mg_of X G a_law_part,
    k_law_part := by rw [hA]; exact k_law_part,
    d_law_part := by rw [hA]; exact ⟨_, fun_mk (st := s_law_part) l_law_part cd_is_law_part k_law_part⟩,
    g_law_kind := by rw [hA]; exact PySem.W.mg_of X G a_law_kind,
    k_law_kind := by rw [hA]; exact k_law_kind,
    d_law_kind := by rw [hA]; exact ⟨_, fun_mk (st := s_law_kind) l_law_kind cd_is_law_kind k_law_kind⟩,
    g_law_tame := by rw [hA]; exact PySem.W.mg_of X G a_law_tame,
    k_law_tame := by rw [hA]; exact k_law_tame,
    d_law_tame := by rw [hA]; exact ⟨_, fun_mk (st := s_law_tame) l_law_tame cd_is_law_tame k_law_tame⟩,
    g_law_bent_kind := by rw [hA]; exact PySem.W.mg_of X G a_law_bent_kind,
    k_law_bent_kind := by rw [hA]; exact k_law_bent_kind,
    d_law_bent_kind := by rw [hA]; exact ⟨_, fun_mk (st := s_law_bent_kind) l_law_bent_kind cd_is_law_bent_kind k_law_bent_kind⟩,
    g_law_entry_right := by rw [hA]; exact PySem.W.mg_of X G a_law_entry_right,
    k_law_entry_right := by rw [hA]; exact k_law_entry_right,
    d_law_entry_right := by rw [hA]; exact ⟨_, fun_mk (st := s_law_entry_right) l_law_entry_right cd_is_law_entry_right k_law_entry_right⟩,
    g_law_kind_right := by rw [hA]; exact PySem.W.mg_of X G a_law_kind_right,
    k_law_kind_right := by rw [hA]; exact k_law_kind_right,
    d_law_kind_right := by rw [hA]; exact ⟨_, fun_mk (st := s_law_kind_right) l_law_kind_right cd_is_law_kind_right k_law_kind_right⟩,
    g_law_safe := by rw [hA]; exact PySem.W.mg_of X G a_law_safe,
    k_law_safe := by rw [hA]; exact k_law_safe,
    d_law_safe := by rw [hA]; exact ⟨_, fun_mk (st := s_law_safe) l_law_safe cd_is_law_safe k_law_safe⟩,
    g_law_kinds := by rw [hA]; exact PySem.W.mg_of X G a_law_kinds,
    k_law_kinds := by rw [hA]; exact k_law_kinds,
    d_law_kinds := by rw [hA]; exact ⟨_, fun_mk (st := s_law_kinds) l_law_kinds cd_is_law_kinds k_law_kinds⟩,
    g_law_alone := by rw [hA]; exact PySem.W.mg_of X G a_law_alone,
    k_law_alone := by rw [hA]; exact k_law_alone,
    d_law_alone := by rw [hA]; exact ⟨_, fun_mk (st := s_law_alone) l_law_alone cd_is_law_alone k_law_alone⟩,
    g_law_holds := by rw [hA]; exact PySem.W.mg_of X G a_law_holds,
    k_law_holds := by rw [hA]; exact k_law_holds,
    d_law_holds := by rw [hA]; exact ⟨_, fun_mk (st := s_law_holds) l_law_holds cd_is_law_holds k_law_holds⟩,
    g_law_kind_of := by rw [hA]; exact PySem.W.mg_of X G a_law_kind_of,
    k_law_kind_of := by rw [hA]; exact k_law_kind_of,
    d_law_kind_of := by rw [hA]; exact ⟨_, fun_mk (st := s_law_kind_of) l_law_kind_of cd_is_law_kind_of k_law_kind_of⟩,
    g_law_state_right := by rw [hA]; exact PySem.W.mg_of X G a_law_state_right,
    k_law_state_right := by rw [hA]; exact k_law_state_right,
    d_law_state_right := by rw [hA]; exact ⟨_, fun_mk (st := s_law_state_right) l_law_state_right cd_is_law_state_right k_law_state_right⟩,
    g_law_clash_right := by rw [hA]; exact PySem.W.mg_of X G a_law_clash_right,
    k_law_clash_right := by rw [hA]; exact k_law_clash_right,
    d_law_clash_right := by rw [hA]; exact ⟨_, fun_mk (st := s_law_clash_right) l_law_clash_right cd_is_law_clash_right k_law_clash_right⟩,
    g_law_met_kind := by rw [hA]; exact PySem.W.mg_of X G a_law_met_kind,
    k_law_met_kind := by rw [hA]; exact k_law_met_kind,
    d_law_met_kind := by rw [hA]; exact ⟨_, fun_mk (st := s_law_met_kind) l_law_met_kind cd_is_law_met_kind k_law_met_kind⟩,
    g_law_call := by rw [hA]; exact PySem.W.mg_of X G a_law_call,
    k_law_call := by rw [hA]; exact k_law_call,
    d_law_call := by rw [hA]; exact ⟨_, fun_mk (st := s_law_call) l_law_call cd_is_law_call k_law_call⟩,
    g_law_met_first := by rw [hA]; exact PySem.W.mg_of X G a_law_met_first,
    k_law_met_first := by rw [hA]; exact k_law_met_first,
    d_law_met_first := by rw [hA]; exact ⟨_, fun_mk (st := s_law_met_first) l_law_met_first cd_is_law_met_first k_law_met_first⟩,
    g_law_one_right := by rw [hA]; exact PySem.W.mg_of X G a_law_one_right,
    k_law_one_right := by rw [hA]; exact k_law_one_right,
    d_law_one_right := by rw [hA]; exact ⟨_, fun_mk (st := s_law_one_right) l_law_one_right cd_is_law_one_right k_law_one_right⟩,
    g_law_first_right := by rw [hA]; exact PySem.W.mg_of X G a_law_first_right,
    k_law_first_right := by rw [hA]; exact k_law_first_right,
    d_law_first_right := by rw [hA]; exact ⟨_, fun_mk (st := s_law_first_right) l_law_first_right cd_is_law_first_right k_law_first_right⟩,
    g_law := by rw [hA]; exact PySem.W.mg_of X G a_law,
    k_law := by rw [hA]; exact k_law,
    d_law := by rw [hA]; exact ⟨_, fun_mk (st := s_law) l_law cd_is_law k_law⟩,
    g_SAFE_KINDS := by rw [hA]; exact PySem.W.mg_of X G a_SAFE_KINDS,
    e_MendError := by rw [hA]; exact ⟨PySem.W.mg_of X G a_MendError, ⟨_, _, _, _, _, _, _, _, _, _, _, _, _, _, _, x_MendError⟩⟩,
    e_InvalidUpdate := by rw [hA]; exact ⟨PySem.W.mg_of X G a_InvalidUpdate, kc_InvalidUpdate, ⟨_, _, _, _, _, _, _, _, _, _, _, _, _, _, x_InvalidUpdate⟩, sa_InvalidUpdate, ga_InvalidUpdate, gg_InvalidUpdate, ca_InvalidUpdate⟩,
    q_InvalidUpdate := by rw [hA]; exact q_is_InvalidUpdate,
    e_InvalidKind := by rw [hA]; exact ⟨PySem.W.mg_of X G a_InvalidKind, kc_InvalidKind, ⟨_, _, _, _, _, _, _, _, _, _, _, _, _, _, x_InvalidKind⟩, sa_InvalidKind, ga_InvalidKind, gg_InvalidKind, ca_InvalidKind⟩,
    q_InvalidKind := by rw [hA]; exact q_is_InvalidKind,
    e_InvalidChange := by rw [hA]; exact ⟨PySem.W.mg_of X G a_InvalidChange, kc_InvalidChange, ⟨_, _, _, _, _, _, _, _, _, _, _, _, _, _, x_InvalidChange⟩, sa_InvalidChange, ga_InvalidChange, gg_InvalidChange, ca_InvalidChange⟩,
    q_InvalidChange := by rw [hA]; exact q_is_InvalidChange,
    e_InvalidOrder := by rw [hA]; exact ⟨PySem.W.mg_of X G a_InvalidOrder, kc_InvalidOrder, ⟨_, _, _, _, _, _, _, _, _, _, _, _, _, _, x_InvalidOrder⟩, sa_InvalidOrder, ga_InvalidOrder, gg_InvalidOrder, ca_InvalidOrder⟩,
    q_InvalidOrder := by rw [hA]; exact q_is_InvalidOrder,
    cn := cn,
    ct := ct,
    nd := by rw [hA]; exact nd,
    cc := by rw [hA]; exact r_cc,
    co := by rw [hA]; exact r_co,
    g_Clash := by rw [hA]; exact PySem.W.mg_of X G a_Clash,
    cR := by rw [hA]; exact ⟨rc1, rc2, rc3, rc4⟩,
    mkR := by rw [hA]; exact ⟨rm1, rm2, rm3, rm4⟩,
    mt_holds := by rw [hA]; exact ⟨me_holds, mf_holds, k_m_holds⟩,
    nc_first := by rw [hA]; exact nc_is_first,
    nc_second := by rw [hA]; exact nc_is_second,
    nc_image := by rw [hA]; exact nc_is_image,
    n_ValueError := PySem.W.mg_none_of X G z_ValueError,
    n_int := PySem.W.mg_none_of X G z_int,
    n_bool := PySem.W.mg_none_of X G z_bool,
    n_str := PySem.W.mg_none_of X G z_str,
    n_list := PySem.W.mg_none_of X G z_list,
    n_tuple := PySem.W.mg_none_of X G z_tuple,
    n_len := PySem.W.mg_none_of X G z_len,
    n_range := PySem.W.mg_none_of X G z_range,
    n_enumerate := PySem.W.mg_none_of X G z_enumerate,
    n_isinstance := PySem.W.mg_none_of X G z_isinstance,
    n_min := PySem.W.mg_none_of X G z_min,
    n_abs := PySem.W.mg_none_of X G z_abs,
    n_sorted := PySem.W.mg_none_of X G z_sorted,
    n_all := PySem.W.mg_none_of X G z_all,
    n_sum := PySem.W.mg_none_of X G z_sum,
    n_zip := PySem.W.mg_none_of X G z_zip,
    n_reversed := PySem.W.mg_none_of X G z_reversed }
  have hS : ∀ H, Dp K H (.ref A.SAFE_KINDS) (.tuple (SAFE.map encK)) := by rw [hA]; exact safe_mk l_SAFE l_sk0 l_sk1 l_sg1 l_sk2 l_sg2 l_sk3 l_sg3 l_sk4 l_sg4
  have FL := fun_mk (st := s_law) l_law cd_is_law k_law
  have eL : A.law = fa := by rw [hA]
  refine ⟨PySem.W.fnOf "law" "law" (defArgs s_law) (defBody s_law) (defScope s_law) .none kV_law doc_law pm_law an_law cd_law ct_law, fun s v => .of_eq rfl, fun base _ _ => ?_⟩
  rw [← eL] at FL ⊢
  have g_is_entry := ok_is_entry (P := l.prog) (w := w) (base := base) T 
  have g_check_kind := ok_check_kind (P := l.prog) (w := w) (base := base) T g_is_entry
  have g_first_unsafe := ok_first_unsafe (P := l.prog) (w := w) (base := base) T hS g_check_kind
  have g_paired := ok_paired (P := l.prog) (w := w) (base := base) T 
  have g_sample_rows := ok_sample_rows (P := l.prog) (w := w) (base := base) T g_check_kind g_paired
  have g_own_rows := ok_own_rows (P := l.prog) (w := w) (base := base) T 
  have g_m_init := ok_m_init (P := l.prog) (w := w) (base := base) T g_own_rows
  have g_clash_between := ok_clash_between (P := l.prog) (w := w) (base := base) T g_m_init
  have g_renamed := ok_renamed (P := l.prog) (w := w) (base := base) T 
  have g_other_way := ok_other_way (P := l.prog) (w := w) (base := base) T g_renamed
  have g_rest_after := ok_rest_after (P := l.prog) (w := w) (base := base) T 
  have g_kind_clash := ok_kind_clash (P := l.prog) (w := w) (base := base) T hS g_check_kind g_sample_rows g_clash_between g_other_way g_rest_after
  have g_first_clash := ok_first_clash (P := l.prog) (w := w) (base := base) T g_first_unsafe g_kind_clash
  have g_law_call := ok_law_call (P := l.prog) (w := w) (base := base) T g_first_clash
  have g_law_alone := oke_law_alone (P := l.prog) (w := w) (base := base) T 
  have g_law_met_first := ok_law_met_first (P := l.prog) (w := w) (base := base) T g_law_call g_law_alone
  have g_law_entry_right := ok_law_entry_right (P := l.prog) (w := w) (base := base) T 
  have g_law_kind_right := ok_law_kind_right (P := l.prog) (w := w) (base := base) T g_law_entry_right
  have g_law_safe := ok_law_safe (P := l.prog) (w := w) (base := base) T 
  have g_law_whole := ok_law_whole (P := l.prog) (w := w) (base := base) T 
  have g_law_state_right := ok_law_state_right (P := l.prog) (w := w) (base := base) T g_law_whole
  have g_law_holds := ok_law_holds (P := l.prog) (w := w) (base := base) T 
  have g_is_torn := ok_is_torn (P := l.prog) (w := w) (base := base) T 
  have g_m_holds := ok_m_holds (P := l.prog) (w := w) (base := base) T g_is_torn
  have g_law_kind_of := ok_law_kind_of (P := l.prog) (w := w) (base := base) T 
  have g_law_clash_right := ok_law_clash_right (P := l.prog) (w := w) (base := base) T g_law_state_right g_law_whole g_law_holds g_m_holds g_law_kind_of
  have g_law_first_right := ok_law_first_right (P := l.prog) (w := w) (base := base) T g_law_met_first g_law_kind_right g_law_safe g_law_whole g_law_clash_right
  have g_law_met_kind := ok_law_met_kind (P := l.prog) (w := w) (base := base) T g_kind_clash g_law_alone
  have g_law_one_right := ok_law_one_right (P := l.prog) (w := w) (base := base) T g_law_met_kind g_law_kind_right g_law_safe g_law_clash_right
  have g_law_draw := ok_law_draw (P := l.prog) (w := w) (base := base) T 
  have g_law_tame := ok_law_tame (P := l.prog) (w := w) (base := base) T g_law_draw
  have g_law_part := ok_law_part (P := l.prog) (w := w) (base := base) T g_law_draw
  have g_law_kind := ok_law_kind (P := l.prog) (w := w) (base := base) T g_law_draw g_law_part
  have g_law_bent_kind := ok_law_bent_kind (P := l.prog) (w := w) (base := base) T g_law_draw
  have g_law_kinds := ok_law_kinds (P := l.prog) (w := w) (base := base) T g_law_draw g_law_tame g_law_kind g_law_bent_kind
  have g_law_bag := ok_law_bag (P := l.prog) (w := w) (base := base) T 
  exact ok_law T FL g_law_bag g_law_draw g_law_kinds g_law_one_right g_law_first_right
theorem walk {l : PySem.W.OpenLaw} {q : Program} {loose : List Str} {XP : (Str → Option Value) → Heap → Prop} {YP : World → Heap → Prop} {d : DefRec} {K : Params → PySem.W.Frag} (hn : l.most = some 63) (hdf : d.params.defaults = [])
    (hY : ∀ (w : World) (h : Heap), YP w h → (K w.params).In h)
    (F : ∀ (w : World) (mg : Str → Option Value) (fa : Addr) (h : Heap), (K w.params).In h → h.Ns mainGlobals mg → mg d.name = some (.ref fa) →
      ∃ fd : FuncData, (∀ (s : Shared) (u : Value), BindsTo s fd ⟨[u], []⟩ [("script", u)]) ∧ ∀ base : Heap, (K w.params).In base → base.Ns mainGlobals mg → FnOk l.prog w (K w.params) mg base CX0 11 fa fd ["script"] (spLaw (K w.params))) :
    PySem.W.WalkO q loose XP YP l.row.toRowW d [] (fun f vs => PySem.call f vs) :=
  L2.walk_of (n := 63) (k := 11) (x := "script") (CX := fun _ => CX0) (sp := fun w => spLaw (K w.params)) hn (by decide) hdf ⟨rfl, by decide, by decide⟩ hY F (fun _ _ a ns hl _ hS => ⟨a, ns, rfl, hS, hl, fun _ => rfl⟩) fun _ _ _ _ _ z => z
end Pv

open PySem PySem.W PyProof.Rows
set_option maxRecDepth 100000 in
set_option maxHeartbeats 0 in
theorem PySem.Challenge.cw_peermend_k20_whole_clash_of_every_kind_holds : PySem.Challenge.rw_peermend_k20_whole_clash_of_every_kind.Holds := by
  w_on; o_law; k_head; (case hw => w_witness2)
  k_fill
  refine Pv.walk (l := PySem.Challenge.rw_peermend_k20_whole_clash_of_every_kind) rfl rfl (fun w h Y => PySem.W.kIn_of Y) ?F
  case F =>
    intro w mg fa h KX G hmg
    refine' Pv.all_mk KX G hmg ?qa_Clash ?qrm2 ?qme_holds ?qa_check_kind ?ql_check_kind ?qcd_is_check_kind ?qk_check_kind ?qa_sample_rows ?ql_sample_rows ?qcd_is_sample_rows ?qk_sample_rows ?qa_is_entry ?ql_is_entry ?qcd_is_is_entry ?qk_is_entry ?qa_paired ?ql_paired ?qcd_is_paired ?qk_paired ?ql_m_init ?qcd_is_m_init ?qk_m_init ?ql_m_holds ?qcd_is_m_holds ?qk_m_holds ?qa_kind_clash ?ql_kind_clash ?qcd_is_kind_clash ?qk_kind_clash ?qa_first_clash ?ql_first_clash ?qcd_is_first_clash ?qk_first_clash ?qa_first_unsafe ?ql_first_unsafe ?qcd_is_first_unsafe ?qk_first_unsafe ?qa_clash_between ?ql_clash_between ?qcd_is_clash_between ?qk_clash_between ?qa_rest_after ?ql_rest_after ?qcd_is_rest_after ?qk_rest_after ?qa_renamed ?ql_renamed ?qcd_is_renamed ?qk_renamed ?qa_own_rows ?ql_own_rows ?qcd_is_own_rows ?qk_own_rows ?qa_is_torn ?ql_is_torn ?qcd_is_is_torn ?qk_is_torn ?qa_other_way ?ql_other_way ?qcd_is_other_way ?qk_other_way ?qa_law_whole ?ql_law_whole ?qcd_is_law_whole ?qk_law_whole ?qa_law_bag ?ql_law_bag ?qcd_is_law_bag ?qk_law_bag ?qa_law_draw ?ql_law_draw ?qcd_is_law_draw ?qk_law_draw ?qa_law_part ?ql_law_part ?qcd_is_law_part ?qk_law_part ?qa_law_kind ?ql_law_kind ?qcd_is_law_kind ?qk_law_kind ?qa_law_tame ?ql_law_tame ?qcd_is_law_tame ?qk_law_tame ?qa_law_bent_kind ?ql_law_bent_kind ?qcd_is_law_bent_kind ?qk_law_bent_kind ?qa_law_entry_right ?ql_law_entry_right ?qcd_is_law_entry_right ?qk_law_entry_right ?qa_law_kind_right ?ql_law_kind_right ?qcd_is_law_kind_right ?qk_law_kind_right ?qa_law_safe ?ql_law_safe ?qcd_is_law_safe ?qk_law_safe ?qa_law_kinds ?ql_law_kinds ?qcd_is_law_kinds ?qk_law_kinds ?qa_law_alone ?ql_law_alone ?qcd_is_law_alone ?qk_law_alone ?qa_law_holds ?ql_law_holds ?qcd_is_law_holds ?qk_law_holds ?qa_law_kind_of ?ql_law_kind_of ?qcd_is_law_kind_of ?qk_law_kind_of ?qa_law_state_right ?ql_law_state_right ?qcd_is_law_state_right ?qk_law_state_right ?qa_law_clash_right ?ql_law_clash_right ?qcd_is_law_clash_right ?qk_law_clash_right ?qa_law_met_kind ?ql_law_met_kind ?qcd_is_law_met_kind ?qk_law_met_kind ?qa_law_call ?ql_law_call ?qcd_is_law_call ?qk_law_call ?qa_law_met_first ?ql_law_met_first ?qcd_is_law_met_first ?qk_law_met_first ?qa_law_one_right ?ql_law_one_right ?qcd_is_law_one_right ?qk_law_one_right ?qa_law_first_right ?ql_law_first_right ?qcd_is_law_first_right ?qk_law_first_right ?qa_law ?ql_law ?qcd_is_law ?qk_law ?qa_SAFE_KINDS ?ql_SAFE ?ql_sk0 ?ql_sk1 ?ql_sg1 ?ql_sk2 ?ql_sg2 ?ql_sk3 ?ql_sg3 ?ql_sk4 ?ql_sg4 ?qa_MendError ?qx_MendError ?qa_InvalidUpdate ?qx_InvalidUpdate ?qkc_InvalidUpdate ?qsa_InvalidUpdate ?qga_InvalidUpdate ?qgg_InvalidUpdate ?qca_InvalidUpdate ?qq_is_InvalidUpdate ?qa_InvalidKind ?qx_InvalidKind ?qkc_InvalidKind ?qsa_InvalidKind ?qga_InvalidKind ?qgg_InvalidKind ?qca_InvalidKind ?qq_is_InvalidKind ?qa_InvalidChange ?qx_InvalidChange ?qkc_InvalidChange ?qsa_InvalidChange ?qga_InvalidChange ?qgg_InvalidChange ?qca_InvalidChange ?qq_is_InvalidChange ?qa_InvalidOrder ?qx_InvalidOrder ?qkc_InvalidOrder ?qsa_InvalidOrder ?qga_InvalidOrder ?qgg_InvalidOrder ?qca_InvalidOrder ?qq_is_InvalidOrder ?qcn ?qct ?qnd ?qrc1 ?qrc2 ?qrc3 ?qrc4 ?qrm1 ?qrm3 ?qrm4 ?qr_cc ?qr_co ?qmf_holds ?qnc_is_first ?qnc_is_second ?qnc_is_image ?qz_ValueError ?qz_int ?qz_bool ?qz_str ?qz_list ?qz_tuple ?qz_len ?qz_range ?qz_enumerate ?qz_isinstance ?qz_min ?qz_abs ?qz_sorted ?qz_all ?qz_sum ?qz_zip ?qz_reversed
    (case qa_Clash => k_is)
    (case qrm2 => k_is)
    (case qme_holds => k_is)
    (case qa_check_kind => k_is)
    (case ql_check_kind => k_is)
    (case qcd_is_check_kind => k_is)
    (case qk_check_kind => k_is)
    (case qa_sample_rows => k_is)
    (case ql_sample_rows => k_is)
    (case qcd_is_sample_rows => k_is)
    (case qk_sample_rows => k_is)
    (case qa_is_entry => k_is)
    (case ql_is_entry => k_is)
    (case qcd_is_is_entry => k_is)
    (case qk_is_entry => k_is)
    (case qa_paired => k_is)
    (case ql_paired => k_is)
    (case qcd_is_paired => k_is)
    (case qk_paired => k_is)
    (case ql_m_init => k_is)
    (case qcd_is_m_init => k_is)
    (case qk_m_init => k_is)
    (case ql_m_holds => k_is)
    (case qcd_is_m_holds => k_is)
    (case qk_m_holds => k_is)
    (case qa_kind_clash => k_is)
    (case ql_kind_clash => k_is)
    (case qcd_is_kind_clash => k_is)
    (case qk_kind_clash => k_is)
    (case qa_first_clash => k_is)
    (case ql_first_clash => k_is)
    (case qcd_is_first_clash => k_is)
    (case qk_first_clash => k_is)
    (case qa_first_unsafe => k_is)
    (case ql_first_unsafe => k_is)
    (case qcd_is_first_unsafe => k_is)
    (case qk_first_unsafe => k_is)
    (case qa_clash_between => k_is)
    (case ql_clash_between => k_is)
    (case qcd_is_clash_between => k_is)
    (case qk_clash_between => k_is)
    (case qa_rest_after => k_is)
    (case ql_rest_after => k_is)
    (case qcd_is_rest_after => k_is)
    (case qk_rest_after => k_is)
    (case qa_renamed => k_is)
    (case ql_renamed => k_is)
    (case qcd_is_renamed => k_is)
    (case qk_renamed => k_is)
    (case qa_own_rows => k_is)
    (case ql_own_rows => k_is)
    (case qcd_is_own_rows => k_is)
    (case qk_own_rows => k_is)
    (case qa_is_torn => k_is)
    (case ql_is_torn => k_is)
    (case qcd_is_is_torn => k_is)
    (case qk_is_torn => k_is)
    (case qa_other_way => k_is)
    (case ql_other_way => k_is)
    (case qcd_is_other_way => k_is)
    (case qk_other_way => k_is)
    (case qa_law_whole => k_is)
    (case ql_law_whole => k_is)
    (case qcd_is_law_whole => k_is)
    (case qk_law_whole => k_is)
    (case qa_law_bag => k_is)
    (case ql_law_bag => k_is)
    (case qcd_is_law_bag => k_is)
    (case qk_law_bag => k_is)
    (case qa_law_draw => k_is)
    (case ql_law_draw => k_is)
    (case qcd_is_law_draw => k_is)
    (case qk_law_draw => k_is)
    (case qa_law_part => k_is)
    (case ql_law_part => k_is)
    (case qcd_is_law_part => k_is)
    (case qk_law_part => k_is)
    (case qa_law_kind => k_is)
    (case ql_law_kind => k_is)
    (case qcd_is_law_kind => k_is)
    (case qk_law_kind => k_is)
    (case qa_law_tame => k_is)
    (case ql_law_tame => k_is)
    (case qcd_is_law_tame => k_is)
    (case qk_law_tame => k_is)
    (case qa_law_bent_kind => k_is)
    (case ql_law_bent_kind => k_is)
    (case qcd_is_law_bent_kind => k_is)
    (case qk_law_bent_kind => k_is)
    (case qa_law_entry_right => k_is)
    (case ql_law_entry_right => k_is)
    (case qcd_is_law_entry_right => k_is)
    (case qk_law_entry_right => k_is)
    (case qa_law_kind_right => k_is)
    (case ql_law_kind_right => k_is)
    (case qcd_is_law_kind_right => k_is)
    (case qk_law_kind_right => k_is)
    (case qa_law_safe => k_is)
    (case ql_law_safe => k_is)
    (case qcd_is_law_safe => k_is)
    (case qk_law_safe => k_is)
    (case qa_law_kinds => k_is)
    (case ql_law_kinds => k_is)
    (case qcd_is_law_kinds => k_is)
    (case qk_law_kinds => k_is)
    (case qa_law_alone => k_is)
    (case ql_law_alone => k_is)
    (case qcd_is_law_alone => k_is)
    (case qk_law_alone => k_is)
    (case qa_law_holds => k_is)
    (case ql_law_holds => k_is)
    (case qcd_is_law_holds => k_is)
    (case qk_law_holds => k_is)
    (case qa_law_kind_of => k_is)
    (case ql_law_kind_of => k_is)
    (case qcd_is_law_kind_of => k_is)
    (case qk_law_kind_of => k_is)
    (case qa_law_state_right => k_is)
    (case ql_law_state_right => k_is)
    (case qcd_is_law_state_right => k_is)
    (case qk_law_state_right => k_is)
    (case qa_law_clash_right => k_is)
    (case ql_law_clash_right => k_is)
    (case qcd_is_law_clash_right => k_is)
    (case qk_law_clash_right => k_is)
    (case qa_law_met_kind => k_is)
    (case ql_law_met_kind => k_is)
    (case qcd_is_law_met_kind => k_is)
    (case qk_law_met_kind => k_is)
    (case qa_law_call => k_is)
    (case ql_law_call => k_is)
    (case qcd_is_law_call => k_is)
    (case qk_law_call => k_is)
    (case qa_law_met_first => k_is)
    (case ql_law_met_first => k_is)
    (case qcd_is_law_met_first => k_is)
    (case qk_law_met_first => k_is)
    (case qa_law_one_right => k_is)
    (case ql_law_one_right => k_is)
    (case qcd_is_law_one_right => k_is)
    (case qk_law_one_right => k_is)
    (case qa_law_first_right => k_is)
    (case ql_law_first_right => k_is)
    (case qcd_is_law_first_right => k_is)
    (case qk_law_first_right => k_is)
    (case qa_law => k_is)
    (case ql_law => k_is)
    (case qcd_is_law => k_is)
    (case qk_law => k_is)
    (case qa_SAFE_KINDS => k_is)
    (case ql_SAFE => k_is)
    (case ql_sk0 => k_is)
    (case ql_sk1 => k_is)
    (case ql_sg1 => k_is)
    (case ql_sk2 => k_is)
    (case ql_sg2 => k_is)
    (case ql_sk3 => k_is)
    (case ql_sg3 => k_is)
    (case ql_sk4 => k_is)
    (case ql_sg4 => k_is)
    (case qa_MendError => k_is)
    (case qx_MendError => k_is)
    (case qa_InvalidUpdate => k_is)
    (case qx_InvalidUpdate => k_is)
    (case qkc_InvalidUpdate => k_is)
    (case qsa_InvalidUpdate => k_is)
    (case qga_InvalidUpdate => k_is)
    (case qgg_InvalidUpdate => k_is)
    (case qca_InvalidUpdate => k_is)
    (case qq_is_InvalidUpdate => k_exc)
    (case qa_InvalidKind => k_is)
    (case qx_InvalidKind => k_is)
    (case qkc_InvalidKind => k_is)
    (case qsa_InvalidKind => k_is)
    (case qga_InvalidKind => k_is)
    (case qgg_InvalidKind => k_is)
    (case qca_InvalidKind => k_is)
    (case qq_is_InvalidKind => k_exc)
    (case qa_InvalidChange => k_is)
    (case qx_InvalidChange => k_is)
    (case qkc_InvalidChange => k_is)
    (case qsa_InvalidChange => k_is)
    (case qga_InvalidChange => k_is)
    (case qgg_InvalidChange => k_is)
    (case qca_InvalidChange => k_is)
    (case qq_is_InvalidChange => k_exc)
    (case qa_InvalidOrder => k_is)
    (case qx_InvalidOrder => k_is)
    (case qkc_InvalidOrder => k_is)
    (case qsa_InvalidOrder => k_is)
    (case qga_InvalidOrder => k_is)
    (case qgg_InvalidOrder => k_is)
    (case qca_InvalidOrder => k_is)
    (case qq_is_InvalidOrder => k_exc)
    (case qcn => k_is)
    (case qct => k_is)
    (case qnd => decide)
    (case qrc1 => k_is)
    (case qrc2 => k_is)
    (case qrc3 => k_is)
    (case qrc4 => k_is)
    (case qrm1 => k_is)
    (case qrm3 => k_is)
    (case qrm4 => k_is)
    (case qr_cc => k_is)
    (case qr_co => k_is)
    (case qmf_holds => k_is)
    (case qnc_is_first => k_is)
    (case qnc_is_second => k_is)
    (case qnc_is_image => k_is)
    (case qz_ValueError => k_is)
    (case qz_int => k_is)
    (case qz_bool => k_is)
    (case qz_str => k_is)
    (case qz_list => k_is)
    (case qz_tuple => k_is)
    (case qz_len => k_is)
    (case qz_range => k_is)
    (case qz_enumerate => k_is)
    (case qz_isinstance => k_is)
    (case qz_min => k_is)
    (case qz_abs => k_is)
    (case qz_sorted => k_is)
    (case qz_all => k_is)
    (case qz_sum => k_is)
    (case qz_zip => k_is)
    (case qz_reversed => k_is)
