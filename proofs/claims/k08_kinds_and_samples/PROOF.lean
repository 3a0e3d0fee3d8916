import PyProof.Rows.All
import Wide.All
import OpenK.AllK
import Wide.FinOn
import KE.KIsAll
import KE.KExcIs
import HandS.ForMost
import HandS.ForExc
import HandS.TryMany
import HandS.ExcInit
import HandS.ExcValue
import HandS.ExcField
import HandS.IsInst
import HandS.ExcIs
import HandS.Small
import HandS.Wide
import HandS.Flow
import HandS.Evl
import HandS.Conv
import HandS.Walk
import KE.KDictKeyed
import KE.KDictList
import KE.KDictDisplayH
import HandS.SetKeys
import HandS.DictComp
import HandS.NoneIn
import HandS.SortInts
import HandS.SortOrd
import HandS.TupAny
import HandS.ListItems
import HandS.SortRule
import HandS.ExcCtx
import HandS.HotCalls
import HandS.ExcInitHot
import HandS.TupSets
import HandS.SetFor
import HandS.Deep
import PyProof.WalkInts
import PyProof.WalksMore
import KE.GoesMore
import HandS.Zip
import HandS.Style
import HandS.HeadHook3
import HandS.Star
import HandS.MakeKwOnly
import HandS.CallLocal
import HandS.ClsMeth
import HandS.ExcOwn
import HandS.Property
import HandS.More
import HandS.SlotsOwn
import HandS.FStr
import HandS.List
import KE.KRevSl
import KE.SortData
import KE.DataCmp
import PyProof.TupleOfSeq
import PySem.Challenge.RW_peermend_k08_kinds_and_samples
set_option Elab.async false
set_option linter.all false
set_option maxRecDepth 100000
set_option maxHeartbeats 4000000
namespace L2
open PySem PySem.Spec PyProof.Rows

/-- an error object held as a value: without a dict, or with one that holds fields -/
def ErrT (H : Hp) (a C : Addr) : Prop := H a = some (ExO (.ref C) a) ∨ ∃ (dx : Addr) (fs : List (Str × V)), H a = some (exo a C (some dx)) ∧ H dx = some (exd dx fs)
/-- isinstance of such a value -/
def rIsX (K : PySem.W.Frag) : List V → Hp → VK → Prop := fun xs H Q => ∃ (a C : Addr) (c : V) (u : Value) (b : Bool), xs = [.ref a, c] ∧ ErrT H a C ∧ ExcC K C ∧ ClsV c u ∧ PySem.W.kitOne K (.ref C) u = some b ∧ Q (.bl b) H
theorem clsIn_some {K : PySem.W.Frag} {C : Addr} (h : PySem.W.hasDictIn K C = true) : (PySem.W.clsIn K C).isSome = true := by
  obtain ⟨cd, hc, _⟩ := PySem.W.any_some h
  rw [hc]
  rfl
theorem kitX_err {K : PySem.W.Frag} {C a : Addr} {oe : Obj} {od : Option Obj} (D : ExcC K C) : PySem.W.KitX K (.ref a) (.ref C) (fun h => PySem.W.InstAt h a oe C od) :=
  PySem.W.kitx_exc (clsIn_some D.hd) D.hg D.hk D.hs D.ha D.hn D.ht D.hm
theorem call_isX {X : Cx} : CallR X (.builtin "isinstance") (rIsX X.K) := by
  intro pins s σ H xs us Q I r h
  obtain ⟨a, C, c, u, b, rfl, T, D, k, e, q⟩ := h
  obtain ⟨u1, u2, rfl, r1, r2⟩ := vals2 r
  have e2 := k.eq r2
  subst e2
  cases (show u1 = Value.ref a from r1)
  rcases T with ea | ⟨dx, fs, ea, ed⟩
  · have x : ObjOk X.prog X.w H s.heap a (ExO (.ref C) a) := I.hok a _ ea
    obtain ⟨⟨oe, vs, ho, hz, hd, _⟩, _, _⟩ := x
    obtain ⟨oc, odi, oda, osl⟩ := oe
    obtain ⟨h1, h2⟩ := hz
    dsimp only at h1 h2 hd
    subst h1 h2 hd
    exact PySem.W.kia_one (kitX_err (od := none) D) I.kIn ⟨ho, rfl, rfl, trivial⟩ e (fun z => nomatch z) fun tk => ⟨.bl b, H, I.tok tk, rfl, q⟩
  · obtain ⟨t1, ho⟩ := exo_at I.hok ea
    obtain ⟨mA, hns, _⟩ := exd_at I.hok ed
    obtain ⟨od, ho2, _⟩ := lookIn_ns hns
    exact PySem.W.kia_one (kitX_err (od := some od) D) I.kIn ⟨ho, rfl, rfl, ho2⟩ e (fun z => nomatch z) fun tk => ⟨.bl b, H, I.tok tk, rfl, q⟩
/-- isinstance(e, c), e the exception that the suite holds, with its dict -/
def rIsS (K : PySem.W.Frag) (a : Addr) (cls : Value) (d : Option Addr) : List V → Hp → VK → Prop := fun xs H Q => ∃ (C dd : Addr) (fs : List (Str × V)) (c : V) (u : Value) (b : Bool), xs = [.ref a, c] ∧ cls = .ref C ∧ d = some dd ∧ H dd = some (.xd fs) ∧
  ExcC K C ∧ ClsV c u ∧ PySem.W.kitOne K (.ref C) u = some b ∧ Q (.bl b) H
theorem call_isS {X : Cx} {K : PySem.W.Frag} {a : Addr} {cls : Value} {d : Option Addr} {oe : Obj} {pn : List (Addr × Obj)} (hK : X.K = K) (hz : Zc cls d oe) (hf : ∃ vs, oe.data = .fields vs) : CallR (X.suite a ((a, oe) :: pn)) (.builtin "isinstance") (rIsS K a cls d) := by
  subst hK
  intro pins s σ H xs us Q I r h
  obtain ⟨C, dd, fs, c, u, b, rfl, rfl, rfl, ea, D, k, e, q⟩ := h
  obtain ⟨u1, u2, rfl, r1, r2⟩ := vals2 r
  have e2 := k.eq r2
  subst e2
  cases (show u1 = Value.ref a from r1)
  obtain ⟨hget, _⟩ := I.pin (a, oe) (List.mem_append.mpr (.inl List.mem_cons_self))
  obtain ⟨vs, hv⟩ := hf
  have hx : ObjOk X.prog X.w H s.heap dd (.xd fs) := I.hok dd _ ea
  obtain ⟨mA, hns, hr⟩ := hx
  obtain ⟨od, ho, hl⟩ := lookIn_ns hns
  have J : PySem.W.InstAt s.heap a oe C (some od) := ⟨hget, hz.1, by unfold PySem.W.notCls; rw [hv] <;> rfl, by rw [hz.2]; exact ho⟩
  exact PySem.W.kia_one (kitX_err D) I.kIn J e (fun z => nomatch z) fun tk => ⟨.bl b, H, I.kept (t' := tk) fun _ _ z => z, rfl, q⟩

section
variable {X : Cx} {C : Addr} {bmB : List Value} {B newId initId : String} {x : Str} {p pos : Pos}
/-- X(), raised: an own exception class without own __init__ -/
theorem pmk_own0 (F : ExcBaseFacts B newId initId bmB) (q : PySem.W.excIn X.K C bmB newId = true) (gC : X.mg x = some (.ref C)) (kC : PySem.W.keepIn X.K (.ref C) = true) (r : Raises X (.ref C)) (hg : Gl X x)
    (hdb : (x == ("__debug__" : Str)) = false := by decide) : PMk X (.Call (.Name x p) [] [] pos) (fun _ H Q => Q (.ref C) none H) := by
  intro pins s σ H Q I h
  refine wpAny_Call_Name_kw (ld_glob I hg gC ?_ hdb)
  refine PySem.W.callWith_K0 I.kIn kC ?_
  obtain ⟨bm, N, nm, qn, bs, hdct, sn, sub, ab, col, dd, k0, k1, k2, k3, k5, mN, hC, hN, hni, T⟩ := exc_obj I.kIn q
  refine wpAny_call_exc_subT F T hC hN hni (fun h' e hm => ?_) (Nat.zero_le _)
  exact mk_of I hm r h (I.hok.gone hm.new)
/-- X(), as a value -/
theorem pe_exc0 (F : ExcBaseFacts B newId initId bmB) (q : PySem.W.excIn X.K C bmB newId = true) (gC : X.mg x = some (.ref C)) (kC : PySem.W.keepIn X.K (.ref C) = true) (hg : Gl X x)
    (hdb : (x == ("__debug__" : Str)) = false := by decide) : PE X (.Call (.Name x p) [] [] pos) (fun _ H Q => ∀ a, H a = none → Q (.ref a) (upd H a (ExO (.ref C) a))) := by
  refine ⟨fun pins s σ H Q I h => ?_⟩
  refine wpAny_Call_Name_kw (ld_glob I hg gC ?_ hdb)
  refine PySem.W.callWith_K0 I.kIn kC ?_
  obtain ⟨bm, N, nm, qn, bs, hdct, sn, sub, ab, col, dd, k0, k1, k2, k3, k5, mN, hC, hN, hni, T⟩ := exc_obj I.kIn q
  refine wpAny_call_exc_subT F T hC hN hni (fun h' a hm => ?_) (Nat.zero_le _)
  have hn : H a = none := I.hok.gone hm.new
  obtain ⟨t, ht, _, _⟩ := hm.there
  exact ⟨.ref a, upd H a (ExO (.ref C) a), I.laidN hm.keeps hm.new hn (exO_ok ht ⟨rfl, rfl⟩ rfl rfl rfl (show 4 < 6 by decide)), rfl, h a hn⟩
end
/-- X(e, ..) as a value, its own __init__ keeping sp -/
def tMkV (C : Addr) (sp : Sp) (ta : TA) : TE := fun σ H Q => ta σ H fun vs H1 => vs.length ≤ 1000 ∧ ∀ a, H1 a = none → sp (.ref a :: vs) (upd H1 a (exo a C none)) (fun v H2 => v = .non ∧ Q (.ref a) H2) (fun _ _ _ => False)
section
variable {X : Cx} {e : Expr} {es : List Expr} {ta : TA} {p pos : Pos}
theorem pe_oexV {CX : CXT} {x : Str} {C fI : Addr} {k : Nat} {fd : FuncData} {ps : List Str} {sp : Sp} (T : OexC X.K C) (iC : PySem.W.findIn X.K (.ref C) "__init__" = some (some (.ref fI))) (tI : PySem.W.typeIn X.K (.ref fI) = some (.type "function"))
    (F1 : FnOk X.prog X.w X.K X.mg X.base CX k fI fd ps sp) (hr : Room (k + 1) X.A) (hb : Binds X.K fd ps []) (hx : Passes CX X (fun _ _ _ => False)) (hg : Gl X x) (hm : X.mg x = some (.ref C)) (ha : PA X (e :: es) ta)
    (hdb : (x == ("__debug__" : Str)) = false := by decide) (he : starEach (e :: es) X.env = (false, eval e X.env) :: starEach es X.env := by rfl) (hpl : (backTo pos (starEach es X.env)).any (·.1) = false := by rfl) :
    PE X (.Call (.Name x p) (e :: es) [] pos) (tMkV C sp ta) := by
  refine ⟨fun pins s σ H Q I h => ?_⟩
  obtain ⟨nm, q, N, bs, bm, sn, sub, ab, col, dd, k0, k1, k2, k3, k5, hC, hmro⟩ := T.cls
  refine wpAny_Call_Name_kw (ld_glob I hg hm ?_ hdb)
  refine PySem.W.callWith_K (h₀ := X.base) I.ok.mod.kin T.kC (thn (ha.run pos pins s σ H _ I h) fun us s1 ⟨vs, H1, I1, r1, hz, q1⟩ => ⟨I1.kIn, ?_⟩) he hpl
  show wpAny _ _ (call (.ref C) us) _ _ _
  obtain ⟨hh, g, dw, tc, ow⟩ := s1
  have hgt : hh.objs.size ≤ hh.objs.size + 1 := Nat.le_succ _
  have fr1 : H1 (hh.objs.size + 1) = none := I1.hok.fresh hgt
  have pr1 := q1 (hh.objs.size + 1) fr1
  have kp1 : ∀ b o, hh.get? b = some o → ((hh.push (PySem.W.kdv_tup us)).push (PySem.HandSPX.excO C hh.objs.size)).get? b = some o := fun b o e => Heap.get?_push_of_some _ (Heap.get?_push_of_some _ e)
  have ob1 : ((hh.push (PySem.W.kdv_tup us)).push (PySem.HandSPX.excO C hh.objs.size)).get? (hh.objs.size + 1) = some (PySem.HandSPX.excO C hh.objs.size) := by heap_get
  have Iv2 : Inv X pins σ (upd H1 (hh.objs.size + 1) (exo (hh.objs.size + 1) C none)) ⟨(hh.push (PySem.W.kdv_tup us)).push (PySem.HandSPX.excO C hh.objs.size), g, dw, tc, ow⟩ :=
    I1.laid (t' := tc) (a := hh.objs.size + 1) (o := exo (hh.objs.size + 1) C none) (h' := (hh.push (PySem.W.kdv_tup us)).push (PySem.HandSPX.excO C hh.objs.size)) kp1 hgt (exo_ok ob1)
  have rl2 : Vals (V.ref (hh.objs.size + 1) :: vs) (Value.ref (hh.objs.size + 1) :: us) := .cons rfl r1
  have ln1 : (Value.ref (hh.objs.size + 1) :: us).length = ps.length := by
    have e := rl2.length
    rw [F1.len _ _ _ _ pr1] at e
    exact e.symm
  have ln2 : us.length ≤ sizeLine := by
    rw [← Paired.length r1, sizeLine_eq]
    omega
  have b0 := hb ⟨(hh.push (PySem.W.kdv_tup us)).push (PySem.HandSPX.excO C hh.objs.size), g, dw, tc, ow⟩ (Value.ref (hh.objs.size + 1) :: us) Iv2.kIn (by rw [List.append_nil]; exact ln1)
  rw [List.append_nil] at b0
  refine wpAny_call (PySem.HandSPX.call_own F.excBase_ValueError (fun Y => PySem.HandSPX.refsVE_contains Y bm hmro) (I1.kIn _ _ hC) (PySem.W.looks_findIn I1.kIn iC) (fun self => PySem.W.bind_fn I1.kIn self tI) ln2
    (codeAny_mono (F1.run _ X.stack _ _ ⟨Value.ref (hh.objs.size + 1) :: us, []⟩ (Value.ref (hh.objs.size + 1) :: us) _ _ (fun _ _ _ => False) (hr.make C us []) (Iv2.env0.make C us []) b0 rl2 pr1) fun r s' hq' => ?_))
  cases r with
  | error er => exact hx pins σ _ _ er s' Iv2 hq'
  | ok fl =>
    cases fl with
    | ret u =>
      obtain ⟨v, H2, os2, bare2, un2, hok2, rv, ev, q2⟩ := hq'
      subst ev
      exact ⟨rv, .ref (hh.objs.size + 1), H2, Iv2.call' (ch := []) os2 un2 hok2 bare2 (fun b z => absurd z (by simp)), rfl, q2⟩
    | next => exact False.elim hq'
    | brk => exact False.elim hq'
    | cont => exact False.elim hq'
/-- err.f, err an error held as a value -/
def tXa (K : PySem.W.Frag) (f : Str) (te : TE) : TE := fun σ H Q => te σ H fun x H1 => ∃ (a C dx : Addr) (fs : List (Str × V)) (v : V), x = .ref a ∧ H1 a = some (exo a C (some dx)) ∧ H1 dx = some (exd dx fs) ∧ XfC K C ∧ PySem.W.findIn K (.ref C) f = some none ∧ fs.lookup f = some v ∧ Q v H1
theorem pe_xa {te : TE} {n : Str} (he : PE X e te) (hb : attributeBase e n X.env (eval e X.env) = eval e X.env := by rfl) : PE X (.Attribute e n pos) (tXa X.K n te) := by
  refine ⟨fun pins s σ H Q I h => ?_⟩
  refine attr_of hb (thn (he.run pins s σ H _ I h) fun u s1 hh => ?_)
  obtain ⟨x, H1, I1, rx, a, C, dx, fs, v, ex, ea, ed, T, hno, l, q⟩ := hh
  subst ex
  obtain rfl : u = Value.ref a := rx
  obtain ⟨t1, ho⟩ := exo_at I1.hok ea
  obtain ⟨mA, hns, hr⟩ := exd_at I1.hok ed
  obtain ⟨od, ho2, ln1⟩ := lookIn_ns hns
  obtain ⟨u, hu, ru⟩ := RelO.some_of (v := v) (o := mA n) (by rw [← l]; exact hr n)
  have J : PySem.W.InstAt s1.heap a _ C (some od) := ⟨ho, rfl, rfl, ho2⟩
  exact HandSPX.exc_get I1.kIn J T.ga T.gg T.exC (PySem.W.findObj_own T.hdC hno rfl (by rw [ln1, hu])) (handed_of ru) ⟨v, H1, I1.tok _, ru, q⟩
end
theorem ix_listK {X : Cx} {K : PySem.W.Frag} (h : X.K = K) : IxR X (rIxL K) := by
  subst h
  exact ix_list
theorem ix_tupK {X : Cx} {K : PySem.W.Frag} (h : X.K = K) : IxR X (rIxT K) := by
  subst h
  exact ix_tup
/-! several except clauses, some with names -/
/-- what is behind a suite with (slot i) or without a name -/
def goneD (oi : Option Nat) (D : Ends) : Ends := match oi with
  | none => D
  | some i => { nx := fun σ' H' => D.nx (σ'.set i none) H', rt := D.rt, bk := fun σ' H' => D.bk (σ'.set i none) H', ct := fun σ' H' => D.ct (σ'.set i none) H' }
def hadS (oi : Option Nat) (a : Addr) (σ : St) : St := match oi with
  | none => σ
  | some i => σ.set i (some (.ref a))
def wManyN (K : PySem.W.Frag) (Wout : WX) (D : Ends) : List (Value × Option Nat × (Addr → Value → Option Addr → TS)) → WX
  | [] => Wout
  | (c, oi, ts) :: r => fun cls d σ H => ∃ b, PySem.W.exmOne K cls c = some b ∧ (b = true → ∀ a, H a = none → ts a cls d (goneD oi D) (hadS oi a σ) H) ∧ (b = false → wManyN K Wout D r cls d σ H)
inductive HdsN (X : Cx) : List ExceptHandler → List (Value × Option Nat × (Addr → Value → Option Addr → TS)) → Prop
  | nil : HdsN X [] []
  | cons {x : Str} {c : Value} {ts : Addr → Value → Option Addr → TS} {b₀ : Stmt} {suite : List Stmt} {np pos' : Pos} {hds : List ExceptHandler} {l : List (Value × Option Nat × (Addr → Value → Option Addr → TS))} (hc : Names X x c)
      (hsu : ∀ (a : Addr) (oe : Obj) (cls : Value) (d : Option Addr) (pn : List (Addr × Obj)), Zc cls d oe → (∃ vs, oe.data = .fields vs) → PSs (X.suite a ((a, oe) :: pn)) (b₀ :: suite) (ts a cls d)) (r : HdsN X hds l) :
      HdsN X (.ExceptHandler (some (.Name x np)) none (b₀ :: suite) pos' :: hds) ((c, none, ts) :: l)
  | consN {x n : Str} {i : Nat} {c : Value} {ts : Addr → Value → Option Addr → TS} {b₀ : Stmt} {suite : List Stmt} {np pos' : Pos} {hds : List ExceptHandler} {l : List (Value × Option Nat × (Addr → Value → Option Addr → TS))} (hN : X.N.Nodup) (hi : X.N[i]? = some n) (hln : X.env.kindOf n = some .local) (hc : Names X x c)
      (hsu : ∀ (a : Addr) (oe : Obj) (cls : Value) (d : Option Addr) (pn : List (Addr × Obj)), Zc cls d oe → (∃ vs, oe.data = .fields vs) → PSs (X.suite a ((a, oe) :: pn)) (b₀ :: suite) (ts a cls d)) (r : HdsN X hds l) :
      HdsN X (.ExceptHandler (some (.Name x np)) (some n) (b₀ :: suite) pos' :: hds) ((c, some i, ts) :: l)
section
variable {X : Cx} {body : List Stmt} {h₀ : ExceptHandler} {hds : List ExceptHandler} {l : List (Value × Option Nat × (Addr → Value → Option Addr → TS))} {pos : Pos} {tb : WX → TS} {Wout : WX}
theorem ps_try_manyN (hs : X.stack = X.env :: X.outer) (hf : X.env.frame = some X.env.locals) (tk : Takes X Wout)
    (hb : ∀ (W : WX) (pn : List (Addr × Obj)) (xe : Value → Shared → Prop), Takes (X.tr pn xe) W → PassesOwn (model X.prog X.w) X.A X.env xe → PSs (X.tr pn xe) body (tb W))
    (hh : HdsN X (h₀ :: hds) l) : PS X (.Try body (h₀ :: hds) [] [] pos) (fun D σ H => tb (wManyN X.K Wout D l) D σ H) := by
  refine ⟨fun pins s σ H D I h => ?_⟩
  have ok := I.ok
  have frA : X.A.frames = some (X.env :: X.outer) := by rw [ok.frames, hs]
  refine wpAny_Try_except ?_
  refine wpAny_mono ((hb (wManyN X.K Wout D l) (X.pn ++ pins) (fun e s₁ => wpAny (model X.prog X.w) X.A (noteFrame e X.env) (fun _ s₂ => wpAny (model X.prog X.w) X.A (setFlight e none) (fun _ s₃ =>
    wpAny (model X.prog X.w) X.A (handleBy e X.env (h₀ :: hds)) (SP X pins D) X.xe s₃) X.xe s₂) X.xe s₁) (fun u s' xx => ?_) PassesOwn.looking).run [] s σ H D (I.toTry _) h) (fun f s1 back => ?_) (fun e s1 he => he)
  · -- the catch
    obtain ⟨a, B, sI, pins', σ', H', cls, d, rfl, J', nb, up, sky, na, os, ag, w⟩ := xx
    have J : Inv X pins σ' H' sI := J'.ofTry ok
    have skyE : Sky B (X.env :: X.outer) a (Zc cls d) X.env.locals s'.heap := by rw [← hs]; exact sky
    show wpAny (model X.prog X.w) X.A (noteFrame (.ref a) X.env) _ _ _
    refine Sky.land Zc.steady frA hf skyE fun h3 fz3 ut3 => ?_
    have Jn3 : Inv X pins σ' H' { s' with heap := h3 } := J.landed nb fz3.1 (up.trans ut3) os ag
    obtain ⟨ox3, xs3, ob3, zc3, dt3⟩ := fz3.there
    have aside : ∀ {h : Heap} {o : Obj} {vs : Array Value}, h.FunFrames B (X.env :: X.outer) → h.get? a = some o → o.data = .fields vs → a ∉ frs (X.env :: X.outer) := fun {h o vs} ff e dd hm => by
      obtain ⟨_, o', e', hnf⟩ := ff.mem hm
      rw [e] at e'; cases e'
      exact hnf _ dd
    have offF := aside fz3.2.2.1 ob3 dt3
    have offL : a ≠ X.env.locals := fun z => offF (List.mem_filterMap.mpr ⟨X.env, List.mem_cons_self, by rw [hf, z]⟩)
    have offS : a ∉ X.fs := fun hm => by
      obtain ⟨e, he, q⟩ := List.mem_filterMap.mp hm
      exact offF (List.mem_filterMap.mpr ⟨e, List.mem_cons_of_mem _ he, q⟩)
    have In3 := Jn3.suite ob3 dt3 na offL offS
    have go : ∀ {hds' : List ExceptHandler} {l' : List (Value × Option Nat × (Addr → Value → Option Addr → TS))}, HdsN X hds' l' → wManyN X.K Wout D l' cls d σ' H' →
        wpAny (model X.prog X.w) X.A (handleBy (.ref a) X.env hds') (SP X pins D) X.xe { s' with heap := h3 } := by
      intro hds' l' hk
      induction hk with
      | nil =>
        intro w
        refine wpAny_handleBy_nil ?_
        obtain ⟨k1, k2, k3, oe, vs, T, oT, ts', he, hz, hd, h1, hr⟩ := id fz3
        unfold PySem.passOn
        refine wpAny_bind (wpAny_field he hd h1 ?_)
        rw [if_neg (show ¬ ((Value.ref T == Value.none) = true) from by simp)]
        have fin : wpAny (model X.prog X.w) X.A (setFlight (.ref a) X.env.frame) (fun _ s4 => wpAny (model X.prog X.w) X.A (throw (.ref a) : Sem Flow) (SP X pins D) X.xe s4) X.xe { s' with heap := h3 } := by
          rw [hf]
          refine HandSPX.setFlight_upZ fz3 fun h4 hh4 ut4 => wpAny_throw (tk _ _ ?_)
          exact ⟨a, B, sI, pins, σ', H', cls, d, rfl, J, nb, (up.trans ut3).trans ut4, .inr (.inr (by rw [hs]; exact hh4)), na, os, ag, w⟩
        first
          | exact wpAny_bind (wpAny_pure (wpAny_bind fin))
          | exact wpAny_bind fin
      | @cons x c ts b₀ suite np pos' hds2 l2 hc hsu r ih =>
        intro w
        obtain ⟨b, hx1, yes, nay⟩ := w
        refine wpAny_handleBy_cons (codeAny_handlers_test ?_) (by intro q; cases q)
        have lkT : PySem.W.Looks (model X.prog X.w) h3 (typeOf (.ref a)) cls := fun A Q E s k q => wpAny_typeOf_ref (k _ _ ob3) (by rw [zc3.1]; exact q)
        have lkM := PySem.W.exm_one (M := model X.prog X.w) (Jn3.kIn) lkT hx1
        have test : ∀ {Q : Value → Shared → Prop} {E : Value → Shared → Prop}, Q c { s' with heap := h3 } → wpAny (model X.prog X.w) (X.A.mark (some (.ref a))) (eval (.Name x np) X.env) Q E { s' with heap := h3 } := fun {Q E} q => by
          obtain ⟨hg, hdbg, hm | ⟨hm, hv, hnn⟩⟩ := hc
          · exact ld_glob (X := X.suite a ((a, ox3) :: (X.pn ++ pins))) In3 hg hm q hdbg
          · exact ld_blt (X := X.suite a ((a, ox3) :: (X.pn ++ pins))) In3 hg hm hv q hnn hdbg
        refine test (lkM.here ?_)
        cases b with
        | true =>
          refine codeAny_handlers_suite ?_
          refine HandSPX.lands_againZ fz3 fun h4 fz4 ut4 => ?_
          have Jn4 : Inv X pins σ' H' { s' with heap := h4 } := J.landed nb fz4.1 ((up.trans ut3).trans ut4) os ag
          obtain ⟨ox4, xs4, ob4, zc4, dt4⟩ := fz4.there
          have In4 := Jn4.suite ob4 dt4 na offL offS
          refine wpAny_mono ((hsu a ox4 cls d (X.pn ++ pins) zc4 ⟨_, dt4⟩).run [] _ _ H' _ In4 (yes rfl a na)) (fun f t6 back => ?_) (fun _ _ z => False.elim z)
          cases f with
          | next =>
            obtain ⟨σb, Hb, Inb, qb⟩ := back
            exact ⟨_, _, Inb.unsuite ok, qb⟩
          | brk =>
            obtain ⟨σb, Hb, Inb, qb⟩ := back
            exact ⟨_, _, Inb.unsuite ok, qb⟩
          | cont =>
            obtain ⟨σb, Hb, Inb, qb⟩ := back
            exact ⟨_, _, Inb.unsuite ok, qb⟩
          | ret u =>
            obtain ⟨vb, σb, Hb, Inb, rb, qb⟩ := back
            exact ⟨_, _, _, Inb.unsuite ok, rb, qb⟩
        | false =>
          show wpAny _ X.A (handleBy (.ref a) X.env hds2) _ _ _
          exact ih (nay rfl)
      | @consN x n i c ts b₀ suite np pos' hds2 l2 hN hi hln hc hsu r ih =>
        intro w
        obtain ⟨b, hx1, yes, nay⟩ := w
        have hloc : Loc X.env.scope n := .inl hln
        refine wpAny_handleBy_cons (codeAny_handlers_test ?_) (by intro q; cases q)
        have lkT : PySem.W.Looks (model X.prog X.w) h3 (typeOf (.ref a)) cls := fun A Q E s k q => wpAny_typeOf_ref (k _ _ ob3) (by rw [zc3.1]; exact q)
        have lkM := PySem.W.exm_one (M := model X.prog X.w) (Jn3.kIn) lkT hx1
        have test : ∀ {Q : Value → Shared → Prop} {E : Value → Shared → Prop}, Q c { s' with heap := h3 } → wpAny (model X.prog X.w) (X.A.mark (some (.ref a))) (eval (.Name x np) X.env) Q E { s' with heap := h3 } := fun {Q E} q => by
          obtain ⟨hg, hdbg, hm | ⟨hm, hv, hnn⟩⟩ := hc
          · exact ld_glob (X := X.suite a ((a, ox3) :: (X.pn ++ pins))) In3 hg hm q hdbg
          · exact ld_blt (X := X.suite a ((a, ox3) :: (X.pn ++ pins))) In3 hg hm hv q hnn hdbg
        refine test (lkM.here ?_)
        cases b with
        | true =>
          refine codeAny_handlers_suite_as ?_
          refine HandSPX.lands_againZ fz3 fun h4 fz4 ut4 => ?_
          have Jn4 : Inv X pins σ' H' { s' with heap := h4 } := J.landed nb fz4.1 ((up.trans ut3).trans ut4) os ag
          obtain ⟨ox4, xs4, ob4, zc4, dt4⟩ := fz4.there
          have In4 := Jn4.suite ob4 dt4 na offL offS
          refine store_ok (X := X.suite a ((a, ox4) :: (X.pn ++ pins))) (v := .ref a) In4 hN hi hloc rfl (fun t5 In5 => ?_) (.inr hln)
          refine wpAny_mono ((hsu a ox4 cls d (X.pn ++ pins) zc4 ⟨_, dt4⟩).run [] t5 _ H' _ In5 (yes rfl a na)) (fun f t6 back => ?_) (fun _ _ z => False.elim z)
          have gone : ∀ {σb : St} {Hb : Hp} {Q : Shared → Prop}, Inv (X.suite a ((a, ox4) :: (X.pn ++ pins))) [] σb Hb t6 → (∀ s7, Inv X pins (σb.set i none) Hb s7 → Q s7) →
              wpAny (model X.prog X.w) X.A (do bindName X.env n .none; unbindBehindTheSuite X.env n pos') (fun _ s7 => Q s7) X.xe t6 := fun {σb Hb Q} Inb hq => gone_ok (Inb.unsuite ok) hN hi hln hq
          cases f with
          | next =>
            obtain ⟨σb, Hb, Inb, qb⟩ := back
            exact gone Inb fun s7 J7 => ⟨_, _, J7, qb⟩
          | brk =>
            obtain ⟨σb, Hb, Inb, qb⟩ := back
            exact gone Inb fun s7 J7 => ⟨_, _, J7, qb⟩
          | cont =>
            obtain ⟨σb, Hb, Inb, qb⟩ := back
            exact gone Inb fun s7 J7 => ⟨_, _, J7, qb⟩
          | ret u =>
            obtain ⟨vb, σb, Hb, Inb, rb, qb⟩ := back
            exact gone Inb fun s7 J7 => ⟨_, _, _, J7, rb, qb⟩
        | false =>
          show wpAny _ X.A (handleBy (.ref a) X.env hds2) _ _ _
          exact ih (nay rfl)
    exact go hh w
  · cases f with
    | next =>
      obtain ⟨σ', H', J', q⟩ := back
      exact wpAny_execs_nil ⟨σ', H', J'.ofTry ok, q⟩
    | brk =>
      obtain ⟨σ', H', J', q⟩ := back
      exact ⟨σ', H', J'.ofTry ok, q⟩
    | cont =>
      obtain ⟨σ', H', J', q⟩ := back
      exact ⟨σ', H', J'.ofTry ok, q⟩
    | ret u =>
      obtain ⟨v, σ', H', J', r, q⟩ := back
      exact ⟨v, σ', H', J'.ofTry ok, r, q⟩
end
end L2

namespace Pm
/-! ### forms and blocks -/
def form : Nat → List Nat
  | 0 => [0] | 1 => [1, 0] | 2 => [1, 1] | 3 => [1, 2, 1] | 4 => [1, 2, 2] | 5 => [1, 2, 1, 2] | 6 => [1, 2, 3, 2] | _ => [1, 2, 3, 0]
abbrev Bk := Nat × List Nat
structure Blk (ys : List Nat) (b : Bk) : Prop where
  w : b.1 < 8
  len : b.2.length = (form b.1).length
  sh : ∀ k, k < b.2.length → ys.getD (b.2.getD k 0) 0 = b.2.getD ((form b.1).getD k 0) 0
structure Built (ys : List Nat) (bs : List Bk) : Prop where
  blk : ∀ b ∈ bs, Blk ys b
  perm : (bs.flatMap (·.2)).Perm (List.range ys.length)
theorem form_len (w : Nat) : 0 < (form w).length := by
  unfold form
  split <;> decide
theorem form_lt (w k : Nat) (h : k < (form w).length) : (form w).getD k 0 < (form w).length := by
  unfold form at h ⊢
  split at h <;> (simp at h ⊢; rcases k with _ | _ | _ | _ | k <;> simp at h ⊢ <;> omega)
/-- the least of a list -/
def mn : List Nat → Nat
  | [] => 0
  | [a] => a
  | a :: b :: l => min a (mn (b :: l))
theorem mn_mem : ∀ {l : List Nat}, l ≠ [] → mn l ∈ l
  | [], h => absurd rfl h
  | [a], _ => by simp [mn]
  | a :: b :: l, _ => by
    have ih := mn_mem (l := b :: l) (by simp)
    unfold mn
    by_cases h : a ≤ mn (b :: l)
    · rw [Nat.min_eq_left h]; exact List.mem_cons_self ..
    · rw [Nat.min_eq_right (by omega)]; exact List.mem_cons_of_mem _ ih
theorem mn_le : ∀ {l : List Nat} {x : Nat}, x ∈ l → mn l ≤ x
  | [a], x, h => by
    rw [List.mem_singleton.mp h]
    exact Nat.le_refl _
  | a :: b :: l, x, h => by
    unfold mn
    rcases List.mem_cons.mp h with e | h
    · rw [e]; exact Nat.min_le_left _ _
    · exact Nat.le_trans (Nat.min_le_right _ _) (mn_le h)
theorem uniq : ∀ {bs : List Bk} {b c : Bk} {x : Nat}, (bs.flatMap (·.2)).Nodup → b ∈ bs → c ∈ bs → x ∈ b.2 → x ∈ c.2 → b = c
  | a :: bs, b, c, x, nd, hb, hc, xb, xc => by
    rw [List.flatMap_cons, List.nodup_append] at nd
    rcases List.mem_cons.mp hb with e1 | hb
    · rcases List.mem_cons.mp hc with e2 | hc
      · rw [e1, e2]
      · exact absurd rfl (nd.2.2 x (e1 ▸ xb) x (List.mem_flatMap.mpr ⟨c, hc, xc⟩))
    · rcases List.mem_cons.mp hc with e2 | hc
      · exact absurd rfl (nd.2.2 x (e2 ▸ xc) x (List.mem_flatMap.mpr ⟨b, hb, xb⟩))
      · exact uniq nd.2.1 hb hc xb xc
theorem nd_of : ∀ {bs : List Bk} {b : Bk}, (bs.flatMap (·.2)).Nodup → b ∈ bs → b.2.Nodup
  | a :: bs, b, nd, hb => by
    rw [List.flatMap_cons, List.nodup_append] at nd
    rcases List.mem_cons.mp hb with e1 | hb
    · rw [e1]; exact nd.1
    · exact nd_of nd.2.1 hb
def beta (bs : List Bk) (x : Nat) : Nat := match bs.find? (fun b => b.2.contains x) with
  | some b => mn b.2
  | none => x
section
variable {ys : List Nat} {bs : List Bk}
theorem Built.nd (B : Built ys bs) : (bs.flatMap (·.2)).Nodup := B.perm.nodup_iff.mpr List.nodup_range
theorem Built.lt (B : Built ys bs) {b : Bk} (hb : b ∈ bs) {x : Nat} (hx : x ∈ b.2) : x < ys.length :=
  List.mem_range.mp (B.perm.mem_iff.mp (List.mem_flatMap.mpr ⟨b, hb, hx⟩))
theorem Built.of (B : Built ys bs) {x : Nat} (hx : x < ys.length) : ∃ b ∈ bs, x ∈ b.2 := by
  obtain ⟨b, hb, h⟩ := List.mem_flatMap.mp (B.perm.mem_iff.mpr (List.mem_range.mpr hx))
  exact ⟨b, hb, h⟩
theorem Built.beta_of (B : Built ys bs) {b : Bk} (hb : b ∈ bs) {x : Nat} (hx : x ∈ b.2) : beta bs x = mn b.2 := by
  unfold beta
  cases h : bs.find? (fun b => b.2.contains x) with
  | none =>
    have := List.find?_eq_none.mp h b hb
    simp [hx] at this
  | some c =>
    have h1 := List.mem_of_find?_eq_some h
    have h2 := List.find?_some h
    have h3 : x ∈ c.2 := by simpa using h2
    rw [uniq B.nd hb h1 hx h3]
theorem Built.ne (B : Built ys bs) {b : Bk} (hb : b ∈ bs) : b.2 ≠ [] := fun z => by
  have h := (B.blk b hb).len
  have := form_len b.1
  rw [z] at h
  simp at h
  omega
theorem Built.mn_beta (B : Built ys bs) {b : Bk} (hb : b ∈ bs) : beta bs (mn b.2) = mn b.2 := B.beta_of hb (mn_mem (B.ne hb))
theorem Built.beta_le (B : Built ys bs) {x : Nat} (hx : x < ys.length) : beta bs x ≤ x := by
  obtain ⟨b, hb, h⟩ := B.of hx
  rw [B.beta_of hb h]
  exact mn_le h
theorem getD_mem {l : List Nat} {k : Nat} (h : k < l.length) : l.getD k 0 ∈ l := by
  rw [List.getD_eq_getElem?_getD, List.getElem?_eq_getElem h]
  exact List.getElem_mem h
theorem mem_getD {l : List Nat} {x : Nat} (h : x ∈ l) : ∃ k, k < l.length ∧ l.getD k 0 = x := by
  obtain ⟨k, hk, e⟩ := List.getElem_of_mem h
  exact ⟨k, hk, by rw [List.getD_eq_getElem?_getD, List.getElem?_eq_getElem hk]; exact e⟩
/-- what a record shows is of its block -/
theorem Built.shown (B : Built ys bs) {b : Bk} (hb : b ∈ bs) {x : Nat} (hx : x ∈ b.2) : ys.getD x 0 ∈ b.2 := by
  obtain ⟨k, hk, rfl⟩ := mem_getD hx
  have Q := B.blk b hb
  rw [Q.sh k hk]
  exact getD_mem (by rw [Q.len]; exact form_lt _ _ (by rw [← Q.len]; exact hk))
theorem Built.edge (B : Built ys bs) {x : Nat} (hx : x < ys.length) : ys.getD x 0 < ys.length ∧ beta bs (ys.getD x 0) = beta bs x := by
  obtain ⟨b, hb, h⟩ := B.of hx
  have h2 := B.shown hb h
  exact ⟨B.lt hb h2, by rw [B.beta_of hb h, B.beta_of hb h2]⟩
end
/-! ### the labels -/
def stepL (L : List Nat) (r nm : Nat) : List Nat := if min (L.getD r 0) (L.getD nm 0) = max (L.getD r 0) (L.getD nm 0) then L else L.map fun o => if o = max (L.getD r 0) (L.getD nm 0) then min (L.getD r 0) (L.getD nm 0) else o
def lab (ys : List Nat) : Nat → List Nat
  | 0 => List.range ys.length
  | i + 1 => stepL (lab ys i) i (ys.getD i 0)
structure Lab (ys : List Nat) (bs : List Bk) (i : Nat) (L : List Nat) : Prop where
  len : L.length = ys.length
  le : ∀ x, x < ys.length → L.getD x 0 ≤ x
  fx : ∀ x, x < ys.length → L.getD (L.getD x 0) 0 = L.getD x 0
  bl : ∀ x, x < ys.length → beta bs (L.getD x 0) = beta bs x
  ed : ∀ r, r < i → r < ys.length → L.getD r 0 = L.getD (ys.getD r 0) 0
theorem getD_map {L : List Nat} {f : Nat → Nat} {x : Nat} (h : x < L.length) : (L.map f).getD x 0 = f (L.getD x 0) := by
  rw [List.getD_eq_getElem?_getD, List.getElem?_map, List.getD_eq_getElem?_getD, List.getElem?_eq_getElem h]
  rfl
theorem getD_range {n x : Nat} (h : x < n) : (List.range n).getD x 0 = x := by
  rw [List.getD_eq_getElem?_getD, List.getElem?_range h]
  rfl
theorem lab_ok {ys : List Nat} {bs : List Bk} (B : Built ys bs) : ∀ i, i ≤ ys.length → Lab ys bs i (lab ys i)
  | 0, _ => ⟨List.length_range, fun x hx => by show (List.range _).getD x 0 ≤ x; rw [getD_range hx]; exact Nat.le_refl _,
      fun x hx => by show (List.range _).getD ((List.range _).getD x 0) 0 = (List.range _).getD x 0; rw [getD_range hx, getD_range hx],
      fun x hx => by show beta bs ((List.range _).getD x 0) = _; rw [getD_range hx], fun r h => absurd h (Nat.not_lt_zero _)⟩
  | i + 1, hi => by
    have ih := lab_ok B i (by omega)
    have hin : i < ys.length := by omega
    obtain ⟨hnm, hbe⟩ := B.edge hin
    show Lab ys bs (i + 1) (stepL (lab ys i) i (ys.getD i 0))
    generalize lab ys i = L at ih
    generalize hnmE : ys.getD i 0 = nm at hnm hbe
    unfold stepL
    have a1 := ih.fx i hin
    have b1 := ih.fx nm hnm
    have a2 := ih.le i hin
    have b2 := ih.le nm hnm
    have a3 := ih.bl i hin
    have b3 := ih.bl nm hnm
    generalize ha : L.getD i 0 = a at *
    generalize hb : L.getD nm 0 = b at *
    by_cases heq : min a b = max a b
    · rw [if_pos heq]
      refine ⟨ih.len, ih.le, ih.fx, ih.bl, fun r hr hrn => ?_⟩
      by_cases h : r = i
      · rw [h, ha, hnmE, hb]
        omega
      · exact ih.ed r (by omega) hrn
    · rw [if_neg heq]
      have hlow : L.getD (min a b) 0 = min a b := by
        by_cases h : a ≤ b
        · rw [Nat.min_eq_left h]; exact a1
        · rw [Nat.min_eq_right (by omega)]; exact b1
      have hbl : beta bs (min a b) = beta bs (max a b) := by
        by_cases h : a ≤ b
        · rw [Nat.min_eq_left h, Nat.max_eq_right h, a3, b3, hbe]
        · rw [Nat.min_eq_right (by omega), Nat.max_eq_left (by omega), a3, b3, hbe]
      have at_ : ∀ x, x < ys.length → (L.map fun o => if o = max a b then min a b else o).getD x 0 = if L.getD x 0 = max a b then min a b else L.getD x 0 := fun x hx => getD_map (by rw [ih.len]; exact hx)
      have hminlt : min a b < ys.length := by omega
      refine ⟨by rw [List.length_map]; exact ih.len, fun x hx => ?_, fun x hx => ?_, fun x hx => ?_, fun r hr hrn => ?_⟩
      · rw [at_ x hx]
        have := ih.le x hx
        split <;> omega
      · rw [at_ x hx]
        by_cases h : L.getD x 0 = max a b
        · rw [if_pos h, at_ _ hminlt, hlow, if_neg heq]
        · rw [if_neg h]
          have hl := ih.le x hx
          rw [at_ _ (by omega), ih.fx x hx, if_neg h]
      · rw [at_ x hx]
        by_cases h : L.getD x 0 = max a b
        · rw [if_pos h, hbl, ← h]; exact ih.bl x hx
        · rw [if_neg h]; exact ih.bl x hx
      · rw [at_ r hrn, at_ _ (B.edge hrn).1]
        by_cases h : r = i
        · rw [h, ha, hnmE, hb]
          by_cases hab : a ≤ b
          · rw [Nat.min_eq_left hab, Nat.max_eq_right hab]
            by_cases hq : a = b <;> simp [hq]
          · rw [Nat.min_eq_right (by omega), Nat.max_eq_left (by omega)]
            by_cases hq : b = a <;> simp [hq]
        · rw [ih.ed r (by omega) hrn]
theorem conn {w : Nat} {ms : List Nat} {f : Nat → Nat} (hl : ms.length = (form w).length) (h : ∀ k, k < ms.length → f (ms.getD k 0) = f (ms.getD ((form w).getD k 0) 0)) : ∀ k, k < ms.length → f (ms.getD k 0) = f (ms.getD 0 0) := by
  unfold form at hl h
  split at hl
  all_goals (simp only [List.length_cons, List.length_nil] at hl; intro k hk)
  all_goals (have h0 := h 0 (by omega); try have h1 := h 1 (by omega))
  all_goals (try have h2 := h 2 (by omega))
  all_goals (try have h3 := h 3 (by omega))
  all_goals (rcases k with _ | _ | _ | _ | k)
  all_goals first | omega | rfl | (simp at h0 h1 h2 h3 ⊢; omega) | (simp at h0 h1 h2 ⊢; omega) | (simp at h0 h1 ⊢; omega) | (simp at h0 ⊢; omega)
end Pm

namespace Pm
inductive Cs (g : Nat → Nat) : Nat → List Nat → Prop
  | free (a) : g a = a → Cs g 0 [a]
  | pair (a b) : g a = b → g b = a → Cs g 1 [a, b]
  | claim (a b) : g a = b → g b = b → Cs g 2 [a, b]
  | hook (c a b) : g c = a → g a = b → g b = a → Cs g 3 [c, a, b]
  | relay (c a b) : g c = a → g a = b → g b = b → Cs g 4 [c, a, b]
  | clamp (d a b c) : g d = a → g a = b → g b = a → g c = b → Cs g 5 [d, a, b, c]
  | trail (d c a b) : g d = c → g c = a → g a = b → g b = a → Cs g 6 [d, c, a, b]
  | wheel (a b c d) : g a = b → g b = c → g c = d → g d = a → Cs g 7 [a, b, c, d]
theorem Blk.cs {ys : List Nat} {b : Bk} (Q : Blk ys b) : Cs (fun x => ys.getD x 0) b.1 b.2 := by
  obtain ⟨w, ms⟩ := b
  obtain ⟨hw, hl, h⟩ := Q
  dsimp only at hw hl h
  match w, hw with
  | 0, _ => match ms, hl with | [a], _ => exact .free a (by simpa [form] using h 0 (by simp))
  | 1, _ => match ms, hl with | [a, b], _ => exact .pair a b (by simpa [form] using h 0 (by simp)) (by simpa [form] using h 1 (by simp))
  | 2, _ => match ms, hl with | [a, b], _ => exact .claim a b (by simpa [form] using h 0 (by simp)) (by simpa [form] using h 1 (by simp))
  | 3, _ => match ms, hl with | [a, b, c], _ => exact .hook a b c (by simpa [form] using h 0 (by simp)) (by simpa [form] using h 1 (by simp)) (by simpa [form] using h 2 (by simp))
  | 4, _ => match ms, hl with | [a, b, c], _ => exact .relay a b c (by simpa [form] using h 0 (by simp)) (by simpa [form] using h 1 (by simp)) (by simpa [form] using h 2 (by simp))
  | 5, _ => match ms, hl with | [a, b, c, d], _ => exact .clamp a b c d (by simpa [form] using h 0 (by simp)) (by simpa [form] using h 1 (by simp)) (by simpa [form] using h 2 (by simp)) (by simpa [form] using h 3 (by simp))
  | 6, _ => match ms, hl with | [a, b, c, d], _ => exact .trail a b c d (by simpa [form] using h 0 (by simp)) (by simpa [form] using h 1 (by simp)) (by simpa [form] using h 2 (by simp)) (by simpa [form] using h 3 (by simp))
  | 7, _ => match ms, hl with | [a, b, c, d], _ => exact .wheel a b c d (by simpa [form] using h 0 (by simp)) (by simpa [form] using h 1 (by simp)) (by simpa [form] using h 2 (by simp)) (by simpa [form] using h 3 (by simp))
structure Canon (b : Bk) : Prop where
  pair : b.1 = 1 → b.2.getD 0 0 < b.2.getD 1 0
  clamp : b.1 = 5 → b.2.getD 0 0 < b.2.getD 3 0
  wheel : b.1 = 7 → b.2.getD 0 0 = mn b.2
section
variable {ys : List Nat} {bs : List Bk}
theorem lab_end (B : Built ys bs) {x : Nat} (hx : x < ys.length) : (lab ys ys.length).getD x 0 = beta bs x := by
  have Q := lab_ok B ys.length (Nat.le_refl _)
  generalize lab ys ys.length = L at Q ⊢
  obtain ⟨b, hb, hxb⟩ := B.of hx
  have P := B.blk b hb
  have cn := conn (f := fun x => L.getD x 0) P.len fun k hk => by
    show L.getD (b.2.getD k 0) 0 = _
    have hm := B.lt hb (getD_mem hk)
    rw [Q.ed _ hm hm, P.sh k hk]
  have h0 : 0 < b.2.length := List.length_pos_iff.mpr (B.ne hb)
  have same : ∀ y, y ∈ b.2 → L.getD y 0 = L.getD (b.2.getD 0 0) 0 := fun y hy => by
    obtain ⟨k, hk, rfl⟩ := mem_getD hy
    exact cn k hk
  have hmn := mn_mem (B.ne hb)
  have e1 : L.getD x 0 = L.getD (mn b.2) 0 := by rw [same x hxb, same _ hmn]
  have h1 := Q.le (mn b.2) (B.lt hb hmn)
  have h2 := Q.bl x hx
  have h3 := Q.le x hx
  have h4 := B.beta_le (x := L.getD x 0) (by omega)
  have h5 := B.beta_of hb hxb
  omega
def grp (bs : List Bk) (n m : Nat) : List Nat := (List.range n).filter fun x => decide (beta bs x = m)
def roots (bs : List Bk) (n : Nat) : List Nat := (List.range n).filter fun x => decide (beta bs x = x)
theorem nodup_filter {l : List Nat} (p : Nat → Bool) (h : l.Nodup) : (l.filter p).Nodup := h.sublist List.filter_sublist
theorem grp_nd {n m : Nat} : (grp bs n m).Nodup := nodup_filter _ List.nodup_range
theorem grp_lt {n m : Nat} : (grp bs n m).Pairwise (· < ·) := List.Pairwise.filter _ List.pairwise_lt_range
theorem Built.mem_grp (B : Built ys bs) {b : Bk} (hb : b ∈ bs) {x : Nat} : x ∈ grp bs ys.length (mn b.2) ↔ x ∈ b.2 := by
  unfold grp
  rw [List.mem_filter, List.mem_range, decide_eq_true_eq]
  constructor
  · rintro ⟨h1, h2⟩
    obtain ⟨c, hc, hx⟩ := B.of h1
    rw [B.beta_of hc hx] at h2
    have e := uniq B.nd hc hb (x := mn b.2) (by rw [← h2]; exact mn_mem (B.ne hc)) (mn_mem (B.ne hb))
    exact e ▸ hx
  · exact fun h => ⟨B.lt hb h, B.beta_of hb h⟩
theorem Built.grp_perm (B : Built ys bs) {b : Bk} (hb : b ∈ bs) : (grp bs ys.length (mn b.2)).Perm b.2 :=
  (List.perm_ext_iff_of_nodup grp_nd (nd_of B.nd hb)).mpr fun x => B.mem_grp hb
theorem Built.roots_eq (B : Built ys bs) (hs : bs.Pairwise fun a b => mn a.2 < mn b.2) : roots bs ys.length = bs.map fun b => mn b.2 := by
  have s1 : (roots bs ys.length).Pairwise (· < ·) := List.Pairwise.filter _ List.pairwise_lt_range
  have s2 : (bs.map fun b => mn b.2).Pairwise (· < ·) := List.pairwise_map.mpr hs
  refine List.Perm.eq_of_pairwise (le := (· < ·)) (fun a b _ _ h1 h2 => by omega) s1 s2 ?_
  refine (List.perm_ext_iff_of_nodup (s1.imp fun h => by omega) (s2.imp fun h => by omega)).mpr fun x => ?_
  unfold roots
  rw [List.mem_filter, List.mem_range, decide_eq_true_eq, List.mem_map]
  constructor
  · rintro ⟨h1, h2⟩
    obtain ⟨b, hb, hx⟩ := B.of h1
    exact ⟨b, hb, by rw [← h2, B.beta_of hb hx]⟩
  · rintro ⟨b, hb, rfl⟩
    exact ⟨B.lt hb (mn_mem (B.ne hb)), B.mn_beta hb⟩
/-! ### one group's row -/
def path (b : Bk) : List Nat := if b.1 = 5 then b.2.take 3 else b.2
theorem filter_one {l : List Nat} {q : Nat → Bool} {x : Nat} (nd : l.Nodup) (hx : x ∈ l) (h1 : q x = true) (h2 : ∀ y ∈ l, q y = true → y = x) : l.filter q = [x] := by
  have nd2 := nodup_filter q nd
  have m : ∀ y, y ∈ l.filter q ↔ y = x := fun y => by
    rw [List.mem_filter]
    exact ⟨fun h => h2 y h.1 h.2, fun h => by rw [h]; exact ⟨hx, h1⟩⟩
  match hl : l.filter q with
  | [] => exact absurd ((m x).mpr rfl) (by rw [hl]; simp)
  | [a] => rw [(m a).mp (by rw [hl]; simp)]
  | a :: b :: r =>
    rw [hl] at nd2 m
    have ea := (m a).mp (by simp)
    have eb := (m b).mp (by simp)
    simp [ea, eb] at nd2
theorem mn_sing {a : Nat} : mn [a] = a := rfl
/-- the walk of a form -/
structure Walks (g : Nat → Nat) (p : List Nat) : Prop where
  pos : 0 < p.length
  nd : p.Nodup
  next : ∀ j, j + 1 < p.length → g (p.getD j 0) = p.getD (j + 1) 0
  back : g (p.getD (p.length - 1) 0) ∈ p
theorem Built.walks (B : Built ys bs) {b : Bk} (hb : b ∈ bs) : Walks (fun x => ys.getD x 0) (path b) := by
  have nd := nd_of B.nd hb
  have C := (B.blk b hb).cs
  obtain ⟨w, ms⟩ := b
  dsimp only at C nd
  unfold path
  dsimp only
  generalize (fun x => ys.getD x 0) = g at C
  cases C
  all_goals (simp at nd ⊢)
  all_goals (refine ⟨by simp, by simp; try simp [nd], fun j hj => ?_, by simp [*]⟩)
  all_goals (rcases j with _ | _ | _ | _ | j)
  all_goals first | (simp at hj; done) | (simp [*]; done) | (simp at hj ⊢; omega) | skip
theorem Built.left (B : Built ys bs) {b : Bk} (hb : b ∈ bs) : path b ++ (grp bs ys.length (mn b.2)).filter (fun x => !(path b).contains x) = b.2 := by
  have nd := nd_of B.nd hb
  have C := (B.blk b hb).cs
  have M : ∀ x, x ∈ grp bs ys.length (mn b.2) ↔ x ∈ b.2 := fun x => B.mem_grp hb
  have N : (grp bs ys.length (mn b.2)).Nodup := grp_nd
  generalize grp bs ys.length (mn b.2) = l at M N
  by_cases h5 : b.1 = 5
  · obtain ⟨w, ms⟩ := b
    dsimp only at h5 C nd M ⊢
    subst h5
    cases C
    rename_i d a b c h1 h2 h3 h4
    unfold path
    simp at nd ⊢
    rw [filter_one (x := c) N (by rw [M]; simp) (by simp; omega) fun y hy hq => ?_]
    rw [M] at hy
    simp at hy hq
    omega
  · unfold path
    rw [if_neg h5]
    have e : l.filter (fun x => !b.2.contains x) = [] := by
      rw [List.filter_eq_nil_iff]
      intro x hx
      have := (M x).mp hx
      simp [this]
    rw [e, List.append_nil]
/-- where the walk starts: at the first record that no other of the group shows, or at the first one -/
theorem Built.start (B : Built ys bs) {b : Bk} (hb : b ∈ bs) (K : Canon b) (T : List Nat)
    (hT : T = (grp bs ys.length (mn b.2)).filter (fun x => !((grp bs ys.length (mn b.2)).map fun y => ys.getD y 0).contains x)) :
    (T = [] → (grp bs ys.length (mn b.2)).head? = some (b.2.getD 0 0)) ∧ (T ≠ [] → T.head? = some (b.2.getD 0 0)) := by
  have nd := nd_of B.nd hb
  have C := (B.blk b hb).cs
  have M : ∀ x, x ∈ grp bs ys.length (mn b.2) ↔ x ∈ b.2 := fun x => B.mem_grp hb
  have sh : ∀ x, ((grp bs ys.length (mn b.2)).map fun y => ys.getD y 0).contains x = (b.2.map fun y => ys.getD y 0).contains x := fun x => by
    rw [Bool.eq_iff_iff, List.contains_iff_mem, List.contains_iff_mem, List.mem_map, List.mem_map]
    exact ⟨fun ⟨y, hy, e⟩ => ⟨y, (M y).mp hy, e⟩, fun ⟨y, hy, e⟩ => ⟨y, (M y).mpr hy, e⟩⟩
  have hT2 : T = (List.range ys.length).filter fun x => decide (beta bs x = mn b.2) && !(b.2.map fun y => ys.getD y 0).contains x := by
    rw [hT]
    unfold grp
    rw [List.filter_filter]
    refine List.filter_congr fun x hx => ?_
    have := sh x
    unfold grp at this
    rw [this, Bool.and_comm]
  have inB : ∀ x, x < ys.length → (decide (beta bs x = mn b.2) = true ↔ x ∈ b.2) := fun x hx => by
    rw [← M x]
    unfold grp
    rw [List.mem_filter, List.mem_range]
    exact ⟨fun h => ⟨hx, h⟩, fun h => h.2⟩
  have root : b.2.getD 0 0 = mn b.2 → (grp bs ys.length (mn b.2)).head? = some (b.2.getD 0 0) := fun e => by
    unfold grp
    rw [List.head?_filter, List.find?_range_eq_some, e]
    refine ⟨by rw [decide_eq_true_eq]; exact B.mn_beta hb, List.mem_range.mpr (B.lt hb (mn_mem (B.ne hb))), fun j hj => ?_⟩
    have hjn : j < ys.length := Nat.lt_trans hj (B.lt hb (mn_mem (B.ne hb)))
    have := B.beta_le hjn
    simp
    omega
  have tail : ∀ m0 : Nat, m0 ∈ b.2 → (b.2.map fun y => ys.getD y 0).contains m0 = false → (∀ j, j < m0 → j ∈ b.2 → (b.2.map fun y => ys.getD y 0).contains j = true) → T.head? = some m0 := fun m0 h1 h2 h3 => by
    rw [hT2, List.head?_filter, List.find?_range_eq_some]
    refine ⟨by rw [h2, (inB m0 (B.lt hb h1)).mpr h1]; rfl, List.mem_range.mpr (B.lt hb h1), fun j hj => ?_⟩
    have hjn : j < ys.length := Nat.lt_trans hj (B.lt hb h1)
    by_cases hjb : j ∈ b.2
    · rw [h3 j hj hjb]
      simp
    · have : decide (beta bs j = mn b.2) = false := by
        cases h : decide (beta bs j = mn b.2) with
        | false => rfl
        | true => exact absurd ((inB j hjn).mp h) hjb
      rw [this]
      rfl
  have none : (∀ x ∈ b.2, (b.2.map fun y => ys.getD y 0).contains x = true) → T = [] := fun h => by
    rw [hT2, List.filter_eq_nil_iff]
    intro x hx
    have hxn := List.mem_range.mp hx
    by_cases hxb : x ∈ b.2
    · rw [h x hxb]
      simp
    · intro z
      rw [Bool.and_eq_true] at z
      exact hxb ((inB x hxn).mp z.1)
  obtain ⟨w, ms⟩ := b
  dsimp only at *
  generalize hg : (fun y => ys.getD y 0) = g at C tail none
  clear hT hT2 sh
  cases C with
  | free a h1 =>
    have t := none (by simp [h1])
    exact ⟨fun _ => root rfl, fun h => absurd t h⟩
  | pair a b h1 h2 =>
    have t := none (by simp [h1, h2])
    have := K.pair rfl
    simp at this
    exact ⟨fun _ => root (by simp [mn]; omega), fun h => absurd t h⟩
  | wheel a b c d h1 h2 h3 h4 =>
    have t := none (by simp [h1, h2, h3, h4])
    exact ⟨fun _ => root (K.wheel rfl), fun h => absurd t h⟩
  | claim a b h1 h2 =>
    simp at nd
    have t := tail a (by simp) (by simp [h1, h2]; omega) (fun j hj hm => by simp at hm; simp [h1, h2]; omega)
    exact ⟨fun h => (by rw [h] at t; simp at t), fun _ => t⟩
  | hook c a b h1 h2 h3 =>
    simp at nd
    have t := tail c (by simp) (by simp [h1, h2, h3]; omega) (fun j hj hm => by simp at hm; simp [h1, h2, h3]; omega)
    exact ⟨fun h => (by rw [h] at t; simp at t), fun _ => t⟩
  | relay c a b h1 h2 h3 =>
    simp at nd
    have t := tail c (by simp) (by simp [h1, h2, h3]; omega) (fun j hj hm => by simp at hm; simp [h1, h2, h3]; omega)
    exact ⟨fun h => (by rw [h] at t; simp at t), fun _ => t⟩
  | clamp d a b c h1 h2 h3 h4 =>
    simp at nd
    have kk := K.clamp rfl
    simp at kk
    have t := tail d (by simp) (by simp [h1, h2, h3, h4]; omega) (fun j hj hm => by simp at hm; simp [h1, h2, h3, h4]; omega)
    exact ⟨fun h => (by rw [h] at t; simp at t), fun _ => t⟩
  | trail d c a b h1 h2 h3 h4 =>
    simp at nd
    have t := tail d (by simp) (by simp [h1, h2, h3, h4]; omega) (fun j hj hm => by simp at hm; simp [h1, h2, h3, h4]; omega)
    exact ⟨fun h => (by rw [h] at t; simp at t), fun _ => t⟩
end
end Pm

namespace L2
open PySem PySem.Spec PyProof.Rows
/-! ### a table of the text keyed by tuples of ints -/
def numK (ks : List Nat) : NestedKey := .tup (ks.map fun k : Nat => NestedKey.num (k : Int))
/-- at a, in the written part: a table of the given keys and texts -/
def TabK (P : Program) (w : World) (K : PySem.W.Frag) (a : Addr) (kvs : List (List Nat × Str)) : Prop := (a == sysModules) = false ∧
  ∃ ts : List Tok, ∀ h : Heap, K.In h → h.DictKeyed (nestedKind P w) a ((kvs.zip ts).map fun x => (numK x.1.1, Value.str x.1.2 x.2)) ∧ ts.length = kvs.length
theorem numK_depth : ∀ ks : List Nat, (numK ks).depth ≤ 8 := fun ks => by
  have h : ∀ l : List Nat, NestedKey.depthAll (l.map fun k : Nat => NestedKey.num (k : Int)) ≤ 1 := fun l => by
    induction l with
    | nil => simp [NestedKey.depthAll]
    | cons a l ih =>
      simp only [List.map_cons, NestedKey.depthAll, NestedKey.depth]
      omega
  have := h ks
  unfold numK
  simp only [NestedKey.depth]
  omega
theorem numAll_of {h : Heap} : ∀ {ks : List Nat} {us : List Value}, Vals (ks.map fun k : Nat => V.int (k : Int)) us → NestedAll h (ks.map fun k : Nat => NestedKey.num (k : Int)) us
  | [], _, r => by cases r; exact .nil
  | k :: ks, _, r => by
    cases r with
    | cons r1 r2 =>
      obtain ⟨t, e⟩ := r1
      rw [e]
      exact .cons (.int _ t) (numAll_of r2)
/-- d.get(t) of such a table, the key there -/
def tTabGet (P : Program) (w : World) (K : PySem.W.Frag) (td te : TE) : TE := fun σ H Q => td σ H fun x H1 => ∃ (a : Addr) (kvs : List (List Nat × Str)), x = .ref a ∧ TabK P w K a kvs ∧ te σ H1 fun y H2 => ∃ (p : Addr) (ks : List Nat) (z : Str), y = .ref p ∧ H2 p = some (.tup (ks.map fun k : Nat => V.int (k : Int))) ∧
  (∃ i, kvs[i]? = some (ks, z) ∧ ∀ (j : Nat) (q : List Nat × Str), j < i → kvs[j]? = some q → q.1 ≠ ks) ∧ Q (.str z) H2
theorem numK_inj {a b : List Nat} (h : numK a = numK b) : a = b := by
  unfold numK at h
  injection h with h
  have g : ∀ {l m : List Nat}, (l.map fun k : Nat => NestedKey.num (k : Int)) = (m.map fun k : Nat => NestedKey.num (k : Int)) → l = m := by
    intro l
    induction l with
    | nil =>
      intro m e
      cases m with
      | nil => rfl
      | cons _ _ => cases e
    | cons a l ih =>
      intro m e
      cases m with
      | nil => cases e
      | cons b m =>
        rw [List.map_cons, List.map_cons] at e
        injection e with e1 e2
        injection e1 with e1
        have : a = b := by omega
        rw [this, ih e2]
  exact g h
theorem tab_find {ks : List Nat} {z : Str} : ∀ {kvs : List (List Nat × Str)} {ts : List Tok} {i : Nat}, ts.length = kvs.length → kvs[i]? = some (ks, z) → (∀ (j : Nat) (q : List Nat × Str), j < i → kvs[j]? = some q → q.1 ≠ ks) →
    ∃ t : Tok, valueAt ((kvs.zip ts).map fun x => (numK x.1.1, Value.str x.1.2 x.2)) (numK ks) = some (Value.str z t)
  | [], _, i, _, h, _ => by simp at h
  | _ :: _, [], _, hl, _, _ => by simp at hl
  | (k0, z0) :: kvs, t0 :: ts, 0, _, h, _ => by
    have e := Option.some.inj h
    cases e
    exact ⟨t0, by simp [valueAt]⟩
  | (k0, z0) :: kvs, t0 :: ts, i + 1, hl, h, hn => by
    have ne : k0 ≠ ks := hn 0 (k0, z0) (Nat.succ_pos _) rfl
    have ne2 : ¬ numK k0 = numK ks := fun e => ne (numK_inj e)
    obtain ⟨t, e⟩ := tab_find (ks := ks) (z := z) (kvs := kvs) (ts := ts) (i := i) (by simpa using hl) (by simpa using h) fun j q hj hq => hn (j + 1) q (by omega) (by simpa using hq)
    refine ⟨t, ?_⟩
    unfold valueAt at e ⊢
    rw [List.zip_cons_cons, List.map_cons, List.find?_cons_of_neg (by simpa using ne2)]
    exact e
theorem pe_tabGet {X : Cx} {o e : Expr} {td te : TE} {apos cpos : Pos} (hu : X.A.units + 64 < cLine) (ho : PE X o td) (he : PE X e te) (m : M1 X o "get" apos e cpos) : PE X (.Call (.Attribute o "get" apos) [e] [] cpos) (tTabGet X.prog X.w X.K td te) := by
  refine ⟨fun pins s σ H Q I h => ?_⟩
  refine wpAny_Call_method m.base m.few m.line PySem.F.plainAttrs_dict PySem.F.slot_dict_get PySem.F.type_dict_get (thn (ho.run pins s σ H _ I h) fun u s1 ⟨x, H1, I1, rx, a, kvs, ex, ⟨hsm, ts, hT⟩, q1⟩ => ?_)
  subst ex
  obtain rfl : u = Value.ref a := rx
  obtain ⟨hD, _⟩ := hT _ I1.kIn
  have hD' := hD
  obtain ⟨xs, ⟨ob, es, ep, hob, hcl, hdat, _⟩, _⟩ := hD'
  refine ⟨hD.typeIs, fun b q => by cases q; exact ⟨ob, hob, hcl.2.1⟩, ?_⟩
  rw [m.trees]
  refine Calls.callWith_builtin rfl (Calls.evalArgs_plain (Calls.spliced_cons (thn (he.run pins s1 σ H1 _ I1 q1) fun iv s2 ⟨y, H2, I2, ry, p, ks, z, ey, hp, ⟨i, hi, hlt⟩, q2⟩ => Calls.spliced_nil ?_)))
  subst ey
  obtain rfl : iv = Value.ref p := ry
  obtain ⟨_, its, rv, ot, h1, h2, n, h3⟩ := (show ObjOk X.prog X.w H2 s2.heap p (.tup (ks.map fun k : Nat => V.int (k : Int))) from I2.hok p _ hp)
  obtain ⟨hD2, hlen⟩ := hT _ I2.kIn
  obtain ⟨t, ht⟩ := tab_find hlen hi hlt
  have hk : (nestedKind X.prog X.w).is s2.heap (numK ks) p := ⟨.tup h1 h2 h3 (by simpa using numAll_of (h := s2.heap) rv), numK_depth ks⟩
  refine get_keyed (knd := nestedKind X.prog X.w) (show X.A.in1.units + 8 < cLine by show X.A.units + 1 + 8 < cLine; omega) hk hsm hD2 ?_
  rw [ht]
  exact ⟨.str z, H2, I2.tok _, ⟨t, rfl⟩, q2⟩
/-! ### list(d.values()), list(d.keys()) -/
def tListVals (te : TE) : TE := fun σ H Q => te σ H fun x H1 => ∃ (d : Addr) (kvs : List (Key × V)), x = .ref d ∧ H1 d = some (.dK kvs) ∧ ∀ p, H1 p = none → Q (.ref p) (upd H1 p (.lst (kvs.map (·.2))))
def tListKeys (te : TE) : TE := fun σ H Q => te σ H fun x H1 => ∃ (d : Addr) (kvs : List (Key × V)), x = .ref d ∧ H1 d = some (.dK kvs) ∧ ∀ p, H1 p = none → Q (.ref p) (upd H1 p (.lst (kvs.map fun kv => kV kv.1)))
theorem vals_items {P : Nat → Value → Prop} : ∀ {xs : List V} {us : List Value} (k : Nat), us.length = xs.length → (∀ j v, us[j]? = some v → P (k + j) v) → (∀ j x v, xs[j]? = some x → P (k + j) v → RelV x v) → Vals xs us
  | [], [], _, _, _, _ => .nil
  | [], _ :: _, _, h, _, _ => by simp at h
  | _ :: _, [], _, h, _, _ => by simp at h
  | x :: xs, u :: us, k, h, h1, h2 => .cons (h2 0 x u rfl (h1 0 u rfl)) (vals_items (P := P) (k + 1) (by simpa using h) (fun j v e => by
      have := h1 (j + 1) v (by simpa using e)
      rw [show k + (j + 1) = k + 1 + j by omega] at this
      exact this) fun j y v e p => h2 (j + 1) y v (by simpa using e) (by rw [show k + (j + 1) = k + 1 + j by omega]; exact p))
section
variable {X : Cx} {e : Expr} {te : TE} {p apos cpos pos : Pos}
theorem pe_listVals (hc : X.calm = true) (he : PE X e te) (hg : Gl X "list") (hm : X.mg "list" = none) (hbase : attributeBase e "values" X.env (eval e X.env) = eval e X.env := by rfl) (hline : (apos.endLine == cpos.line) = true := by rfl)
    (hs : starEach [.Call (.Attribute e "values" apos) [] [] cpos] X.env = (false, eval (.Call (.Attribute e "values" apos) [] [] cpos) X.env) :: starEach [] X.env := by rfl) :
    PE X (.Call (.Name "list" p) [.Call (.Attribute e "values" apos) [] [] cpos] [] pos) (tListVals te) := by
  refine ⟨fun pins s σ H Q I hq => ?_⟩
  refine wpAny_Call_Name_kw (ld_blt I hg hm (by decide +kernel : bootBuiltins "list" = some (.type "list")) ?_)
  refine PyProof.Rows.callWith_type1 ?_ hs rfl
  rw [hs]
  show wpAny _ _ (spliced ((false, eval (.Call (.Attribute e "values" apos) [] [] cpos) X.env) :: backTo pos (starEach [] X.env))) _ _ s
  refine Calls.spliced_cons ?_
  refine wpAny_Call_method (T := "dict") (id := "dict.values") hbase rfl hline F.plainAttrs_dict F.slot_dict_values F.type_dict_values (thn (he.run pins s σ H _ I hq) fun u s1 ⟨x, H1, I1, rx, d, kvs, ex, hd, q⟩ => ?_)
  subst ex
  obtain rfl : u = Value.ref d := rx
  obtain ⟨hz, hs0, vs, kv, hdo⟩ := I1.hok d _ hd
  obtain ⟨ep, hat⟩ := hdo.dictAt
  have lk : kvs.length = vs.length := Paired.length kv
  refine ⟨hdo.typeIs, hdo.mapOf.noDict, ?_⟩
  show wpAny _ _ (callWith cpos (.builtin "dict.values") [.ref d] [] []) _ X.xe s1
  refine method_meetsIn F.slot_dict_values F.entry_dict_values rfl (PySem.evalArgs_none ⟨rfl, hdo.typeIs, F.args_dict_values_1 _, _, meets_dict_values (mixKind X.prog X.w) d hs0, ⟨vs, hdo⟩, ?_⟩)
  refine Calls.spliced_nil ?_
  refine PySem.W.kdl_call (PySem.W.kdl_values (knd := mixKind X.prog X.w) (kvs := vs) (ep := ep) (r := s1.heap.objs.size)) (I1.ok.hd hc) ⟨⟨_, Heap.get?_push_size _ rfl, rfl, rfl⟩, hat.push _⟩ (by omega) fun h' tk acc c hk hS hI => ?_
  have keep : ∀ b o, s1.heap.get? b = some o → h'.get? b = some o := fun b o z => hk b o (Heap.get?_push_of_some _ z)
  have hl : acc.toList.length = (kvs.map (·.2)).length := by rw [Array.length_toList, List.length_map, hI.1]; omega
  have rv : Vals (kvs.map (·.2)) acc.toList := vals_items (P := fun i v => ∃ k, vs[i]? = some (k, v)) 0 hl (fun j v z => by rw [Nat.zero_add]; exact hI.2 j v (by rw [← Array.getElem?_toList]; exact z)) fun j y v z ⟨k, w'⟩ => by
    rw [Nat.zero_add] at w'
    obtain ⟨q0, g1, g2⟩ : ∃ q0, kvs[j]? = some q0 ∧ y = q0.2 := by
      rw [List.getElem?_map] at z
      cases h : kvs[j]? with
      | none => rw [h] at z; cases z
      | some q0 => rw [h] at z; exact ⟨q0, rfl, (Option.some.inj z).symm⟩
    obtain ⟨pk, e2, e3⟩ := LiI.paired_get kv g1
    rw [w'] at e2
    cases e2
    rw [g2]
    exact e3.2
  refine ⟨.ref _, upd H1 _ (.lst (kvs.map (·.2))), I1.laid (t' := tk) keep (Nat.le_succ _ |> fun z => by rw [Heap.size_push]; exact z) ⟨by rw [List.length_map]; omega, acc.toList, c, rv, by simpa using hS⟩, rfl, q _ (I1.hok.fresh (by rw [Heap.size_push]; exact Nat.le_succ _))⟩
theorem pe_listKeys (hc : X.calm = true) (he : PE X e te) (hg : Gl X "list") (hm : X.mg "list" = none) (hbase : attributeBase e "keys" X.env (eval e X.env) = eval e X.env := by rfl) (hline : (apos.endLine == cpos.line) = true := by rfl)
    (hs : starEach [.Call (.Attribute e "keys" apos) [] [] cpos] X.env = (false, eval (.Call (.Attribute e "keys" apos) [] [] cpos) X.env) :: starEach [] X.env := by rfl) :
    PE X (.Call (.Name "list" p) [.Call (.Attribute e "keys" apos) [] [] cpos] [] pos) (tListKeys te) := by
  refine ⟨fun pins s σ H Q I hq => ?_⟩
  refine wpAny_Call_Name_kw (ld_blt I hg hm (by decide +kernel : bootBuiltins "list" = some (.type "list")) ?_)
  refine PyProof.Rows.callWith_type1 ?_ hs rfl
  rw [hs]
  show wpAny _ _ (spliced ((false, eval (.Call (.Attribute e "keys" apos) [] [] cpos) X.env) :: backTo pos (starEach [] X.env))) _ _ s
  refine Calls.spliced_cons ?_
  refine wpAny_Call_method (T := "dict") (id := "dict.keys") hbase rfl hline F.plainAttrs_dict F.slot_dict_keys F.type_dict_keys (thn (he.run pins s σ H _ I hq) fun u s1 ⟨x, H1, I1, rx, d, kvs, ex, hd, q⟩ => ?_)
  subst ex
  obtain rfl : u = Value.ref d := rx
  obtain ⟨hz, hs0, vs, kv, hdo⟩ := I1.hok d _ hd
  obtain ⟨ep, hat⟩ := hdo.dictAt
  have lk : kvs.length = vs.length := Paired.length kv
  refine ⟨hdo.typeIs, hdo.mapOf.noDict, ?_⟩
  show wpAny _ _ (callWith cpos (.builtin "dict.keys") [.ref d] [] []) _ X.xe s1
  refine method_meetsIn F.slot_dict_keys F.entry_dict_keys rfl (PySem.evalArgs_none ⟨rfl, hdo.typeIs, F.args_dict_keys_1 _, _, PySem.W.kdl_meets_keys (mixKind X.prog X.w) d hs0, ⟨vs, hdo⟩, ?_⟩)
  refine Calls.spliced_nil ?_
  refine PySem.W.kdl_call (PySem.W.kdl_keys (knd := mixKind X.prog X.w) (kvs := vs) (ep := ep) (r := s1.heap.objs.size)) (I1.ok.hd hc) ⟨⟨_, Heap.get?_push_size _ rfl, rfl, rfl⟩, hat.push _⟩ (by omega) fun h' tk acc c hk hS hI => ?_
  have keep : ∀ b o, s1.heap.get? b = some o → h'.get? b = some o := fun b o z => hk b o (Heap.get?_push_of_some _ z)
  have hl : acc.toList.length = (kvs.map fun kv => kV kv.1).length := by rw [Array.length_toList, List.length_map, hI.1]; omega
  have rv : Vals (kvs.map fun kv => kV kv.1) acc.toList := vals_items (P := fun i v => ∃ k x, vs[i]? = some (k, x) ∧ (mixKind X.prog X.w).is k v = true) 0 hl (fun j v z => by rw [Nat.zero_add]; exact hI.2 j v (by rw [← Array.getElem?_toList]; exact z)) fun j y v z ⟨k, x, w', w2⟩ => by
    rw [Nat.zero_add] at w'
    obtain ⟨q0, g1, g2⟩ : ∃ q0, kvs[j]? = some q0 ∧ y = kV q0.1 := by
      rw [List.getElem?_map] at z
      cases h : kvs[j]? with
      | none => rw [h] at z; cases z
      | some q0 => rw [h] at z; exact ⟨q0, rfl, (Option.some.inj z).symm⟩
    obtain ⟨pk, e2, e3⟩ := LiI.paired_get kv g1
    rw [w'] at e2
    cases e2
    rw [g2]
    rw [e3.1]
    exact relV_key (show keyIs k v = true from w2)
  refine ⟨.ref _, upd H1 _ (.lst (kvs.map fun kv => kV kv.1)), I1.laid (t' := tk) keep (Nat.le_succ _ |> fun z => by rw [Heap.size_push]; exact z) ⟨by rw [List.length_map]; omega, acc.toList, c, rv, by simpa using hS⟩, rfl, q _ (I1.hok.fresh (by rw [Heap.size_push]; exact Nat.le_succ _))⟩
end
end L2

namespace SrtO
open PySem PyProof.Rows PySem.W
/-- a tuple of two ints and an object -/
def IsRow (h : Heap) (v : Value) (x : Int) : Prop := ∃ a o t y u c n, v = .ref a ∧ h.get? a = some o ∧ o.cls = .type "tuple" ∧ o.data = .seq #[.int x t, .int y u, .ref c] n
theorem IsRow.keeps {h h' : Heap} {v : Value} {x : Int} (p : IsRow h v x) (k : ∀ b o, h.get? b = some o → o.cls = .type "tuple" → h'.get? b = some o) : IsRow h' v x := by
  obtain ⟨a, o, t, y, u, c, n, e, ho, hc, hd⟩ := p
  exact ⟨a, o, t, y, u, c, n, e, k _ _ ho hc, hc, hd⟩
theorem row_firsts {h : Heap} : ∀ {vs : List Value}, (∀ v ∈ vs, ∃ x, IsRow h v x) → ∃ fs : List Value, PySem.W.KatTups h vs fs ∧ fs.length = vs.length ∧ ∀ f ∈ fs, ∃ x t, f = Value.int x t
  | [], _ => ⟨[], PySem.W.KatTups.nil, rfl, fun _ hm => by simp at hm⟩
  | v :: vs, hv => by
    obtain ⟨fs, h1, h2, h3⟩ := row_firsts (h := h) (vs := vs) fun w hw => hv w (List.mem_cons_of_mem _ hw)
    obtain ⟨x, a, o, t, y, u, c, n, e, ho, hc, hd⟩ := hv v List.mem_cons_self
    subst e
    refine ⟨.int x t :: fs, .cons ho hc hd rfl h1, by simp [h2], fun f hf => ?_⟩
    rcases List.mem_cons.mp hf with e | hf
    · exact ⟨x, t, e⟩
    · exact h3 f hf
theorem swo_key (k : Value → Int) : Swo fun v u => decide (k v < k u) := by
  refine ⟨fun x y h => ?_, fun x y z h1 h2 => ?_⟩
  · have a := of_decide_eq_true h
    exact decide_eq_false (by omega)
  · have a := of_decide_eq_false h1
    have b := of_decide_eq_false h2
    exact decide_eq_false (by omega)
section
variable {prog : Program} {w : World} {A : Around} {E : Value → Shared → Prop} {s : Shared}
theorem row_cmp {vs : List Value} {k : Value → Int} (hp : ∀ v ∈ vs, IsRow s.heap v (k v)) (hi : ∀ v ∈ vs, ∀ u ∈ vs, k v = k u → v = u) : Cmp prog w A s (tuples' true) (fun p => p.1 ∈ vs) (lt2 fun v u => decide (k v < k u)) := by
  intro p q hm hm'
  have h1 := hp _ hm
  have h2 := hp _ hm'
  have h3 := hi _ hm _ hm'
  show wpAny (model prog w) A (keyLt' (tuples' true) p.1 q.1) (fun r s' => s' = s ∧ r = decide (k p.1 < k q.1)) (fun _ _ => False) s
  generalize k p.1 = x at h1 h3 ⊢
  generalize k q.1 = x' at h2 h3 ⊢
  obtain ⟨a, o, t, y, u, c, n, e, ho, hc, hd⟩ := h1
  obtain ⟨a', o', t', y', u', c', n', e', ho', hc', hd'⟩ := h2
  rw [e, e'] at h3 ⊢
  refine PySem.W.kat_lt ho hd ho' hd' ?_
  show PySem.W.KatLex prog w A true (decide (3 < 3)) _ [(.int x t, .int x' t'), (.int y u, .int y' u'), (.ref c, .ref c')] 0 s
  refine PySem.W.kat_cons (SeqAt.EqAt.int_int x t x' t' prog w _ _ ?_)
  refine PySem.W.kat_go (fun e1 => ?_) (fun e1 => ?_)
  · have ex : x = x' := by simpa using e1
    have ea : a = a' := Value.ref.inj (h3 ex)
    subst ea
    rw [ho] at ho'
    have eo := Option.some.inj ho'
    subst eo
    rw [hd] at hd'
    injection hd' with ed _
    have ey : y = y' := by
      have z := congrArg (fun a : Array Value => a[1]?) ed
      simp at z
      exact z.1
    have ec : c = c' := by
      have z := congrArg (fun a : Array Value => a[2]?) ed
      simpa using z
    subst ec
    refine PySem.W.kat_yes (PySem.W.kat_cons (SeqAt.EqAt.int_int y u y' u' prog w _ _ ?_))
    refine PySem.W.kat_go (fun e2 => ?_) (fun e2 => ?_)
    · refine PySem.W.kat_yes (PySem.W.kat_cons (SeqAt.EqAt.same (.ref c) prog w _ _ ?_))
      refine PySem.W.kat_go (fun _ => ?_) (fun z => nomatch z)
      refine PySem.W.kat_yes (PySem.W.kat_nil ⟨rfl, ?_⟩)
      rw [ex]
      exact (decide_eq_false (by omega)).symm
    · exact absurd ey (by simpa using e2)
  · have ex : ¬ x = x' := by simpa using e1
    exact PySem.W.kat_no (oneLt_int ⟨rfl, rfl⟩)
theorem rows_sortableO {a : Addr} {vs : List Value} {k : Value → Int} (h0 : 0 < vs.length) (hp : ∀ v ∈ vs, IsRow s.heap v (k v)) (hi : ∀ v ∈ vs, ∀ u ∈ vs, k v = k u → v = u) (ha : ∀ o, s.heap.get? a = some o → o.cls ≠ .type "tuple") : SortableO prog w A s a vs fun v u => decide (k v < k u) := by
  intro h' keep
  have hp' : ∀ v ∈ vs, IsRow h' v (k v) := fun v hm => (hp v hm).keeps fun b o e c => keep b o (fun z => by subst z; exact ha o e c) e
  obtain ⟨fs, h1, h2, h3⟩ := row_firsts fun v hm => ⟨_, hp' v hm⟩
  refine ⟨tuples' true, fun Q E hq => ?_, row_cmp hp' hi⟩
  refine PySem.W.kat_kind (T := .type "int") h1 (by omega) (fun f hm => ?_) (by rfl) ?_
  · obtain ⟨x, t, rfl⟩ := h3 f hm
    exact PySem.W.Looks.now
  · have e : (Value.type "int" != Value.type "tuple") = true := by first | decide +kernel | rfl | decide
    rw [e]
    exact hq
theorem sorted_rowsO {l : Addr} {vs : List Value} {k : Value → Int} {Q : Value → Shared → Prop} (hl : s.heap.IsList l vs.toArray) (hz : vs.length ≤ sizeLine) (hp : ∀ v ∈ vs, IsRow s.heap v (k v)) (hi : ∀ v ∈ vs, ∀ u ∈ vs, k v = k u → v = u)
    (h : ∀ (h' : Heap) (d : Addr) (out : List Value), Srtd (fun v u => decide (k v < k u)) out → Stb (fun v u => decide (k v < k u)) out vs → (∀ b o, s.heap.get? b = some o → h'.get? b = some o) → s.heap.objs.size ≤ d → (∃ n, h'.get? d = some (seqObj "list" out.toArray n)) → Q (.ref d) { s with heap := h' }) :
    wpAny (model prog w) A (call (.builtin "sorted") [.ref l]) Q E s := by
  refine sorted_ord (swo_key k) hl hz (fun h2 h₁ a ha kk => ?_) fun out hs hb => ?_
  · refine rows_sortableO (s := { s with heap := h₁ }) (by omega) (fun v hm => (hp v hm).keeps fun b o e _ => (kk b o e).2) hi fun o e => ?_
    have e' : some o = some (seqObj "list" vs.toArray 0) := e.symm.trans ha
    cases e'
    intro c
    exact absurd (Value.type.inj c) (by decide)
  · exact h _ _ out hs hb (fun b o e => sortedAll_old e) (Nat.le_succ _) (sortedAll_at s.heap vs out.toArray)
end
end SrtO
namespace L2
open PySem PySem.Spec PyProof.Rows
def rSortedR (K : PySem.W.Frag) : List V → Hp → VK → Prop := fun vs H Q => ∃ (a : Addr) (rs : List Addr) (k : Addr → Int), vs = [V.ref a] ∧ SqL K H a (rs.map V.ref) ∧ (∀ r ∈ rs, ∃ (y : Int) (c : Addr), H r = some (.tup [.int (k r), .int y, .ref c])) ∧
  (∀ r ∈ rs, ∀ r' ∈ rs, k r = k r' → r = r') ∧ ∀ (rs' : List Addr) (p : Addr), rs'.Perm rs → rs'.Pairwise (fun a b => k a ≤ k b) → H p = none → Q (.ref p) (upd H p (.lst (rs'.map V.ref)))
theorem vals_refs_eq : ∀ {rs : List Addr} {us : List Value}, Vals (rs.map V.ref) us → us = rs.map Value.ref
  | [], _, r => by cases r; rfl
  | a :: rs, _, r => by
    cases r with
    | cons r1 r2 =>
      rw [vals_refs_eq r2]
      cases r1
      rfl
def addrV : Value → Addr
  | .ref a => a
  | _ => 0
theorem cr_sortedR {X : Cx} : CallR X (.builtin "sorted") (rSortedR X.K) := by
  intro pins s σ H vs us Q I r h
  obtain ⟨a, rs, k, rfl, hs, hx, hi, q⟩ := h
  obtain ⟨its, rv, hl, hz⟩ := I.list hs
  obtain ⟨u, rfl, ru⟩ := vals1 r
  obtain rfl : u = Value.ref a := ru
  have ei := vals_refs_eq rv
  subst ei
  refine SrtO.sorted_rowsO (k := fun u => k (addrV u)) hl.isList (by rw [List.length_map] at *; exact hz) (fun v hv => ?_) (fun v hv u hu e => ?_) fun h' d out h1 h2 kp hd hn => ?_
  · obtain ⟨t, ht, rfl⟩ := List.mem_map.mp hv
    obtain ⟨y, c, e⟩ := hx t ht
    obtain ⟨_, its2, r2, o, ho, hc, n, hdt⟩ := (show ObjOk X.prog X.w H s.heap t (.tup [.int (k t), .int y, .ref c]) from I.hok _ _ e)
    cases r2 with
    | cons a1 r2 =>
      cases r2 with
      | cons a2 r2 =>
        cases r2 with
        | cons a3 r2 =>
          cases r2
          obtain ⟨t1, rfl⟩ := a1
          obtain ⟨t2, rfl⟩ := a2
          cases a3
          exact ⟨t, o, t1, y, t2, c, n, rfl, ho, hc, hdt⟩
  · obtain ⟨t, ht, rfl⟩ := List.mem_map.mp hv
    obtain ⟨t', ht', rfl⟩ := List.mem_map.mp hu
    rw [hi t ht t' ht' e]
  · obtain ⟨n, hn⟩ := hn
    have hp := h2.perm
    have eo : out = (out.map addrV).map Value.ref := by
      rw [List.map_map]
      have : ∀ u ∈ out, Value.ref (addrV u) = u := fun u hu => by
        obtain ⟨t, _, rfl⟩ := List.mem_map.mp (hp.mem_iff.mp hu)
        rfl
      conv => lhs; rw [← List.map_id out]
      exact List.map_congr_left fun u hu => (this u hu).symm
    have hp2 : (out.map addrV).Perm rs := by
      have z := hp.map addrV
      rw [List.map_map] at z
      have id : (rs.map (addrV ∘ Value.ref)) = rs := by
        conv => rhs; rw [← List.map_id rs]
        rfl
      rw [id] at z
      exact z
    have hs2 : (out.map addrV).Pairwise (fun a b => k a ≤ k b) := by
      rw [List.pairwise_map]
      refine List.Pairwise.imp (fun {a b} h => ?_) h1
      have := of_decide_eq_false h
      omega
    refine ⟨.ref d, upd H d (.lst ((out.map addrV).map V.ref)), I.laid (t' := s.toks) kp hd ⟨?_, out, n, ?_, hn⟩, rfl, q _ d hp2 hs2 (I.hok.fresh hd)⟩
    · rw [List.length_map, hp2.length_eq]
      rw [List.length_map] at hz
      exact hz
    · rw [eo]
      have g : ∀ l : List Addr, Vals (l.map V.ref) (l.map Value.ref) := fun l => by
        induction l with
        | nil => exact .nil
        | cons a l ih => exact .cons rfl ih
      rw [← eo]
      conv => arg 2; rw [eo]
      exact g _
/-- list.index within a comprehension -/
theorem pe_indexK {X : Cx} {K : PySem.W.Frag} (h : X.K = K) {o e : Expr} {to te : TE} {apos cpos : Pos} (p : PE X (.Call (.Attribute o "index" apos) [e] [] cpos) (tBM X.K "list" (rIndex X.K) to (tCons te tNil))) : PE X (.Call (.Attribute o "index" apos) [e] [] cpos) (tBM K "list" (rIndex K) to (tCons te tNil)) := by
  subst h
  exact p
theorem op_notInK {X : Cx} {K : PySem.W.Frag} (h : X.K = K) : OpR X (compareOp .NotIn) (rIn K true) := by
  subst h
  exact op_notIn_seq
end L2

namespace L2
open PySem PySem.Spec PyProof.Rows
section
variable {X : Cx}
/-- a name of the def's own, on the line of the comprehension: stored within its frame -/
theorem swd_true {kx vx : Expr} {gs : List Comprehension} {scope : Scope} {pos py : Pos} {y : Str} {l : Nat} {env : Env} (e1 : env.scope.kind = .function) (e2 : env.scope.names.lookup y = some .local) (e3 : (py.line == pos.line) = true)
    (e4 : (scope.names.any fun (n, k) => n == y && (k == .local || k == .cell)) = false) : swapsWith (.DictComp kx vx gs scope pos) (some (.Name y py)) l env = pure true := by
  have a1 : env.kindOf y = some .local := e2
  have a2 : env.blockKind = .function := (by unfold Env.blockKind; rw [e1]; rfl)
  unfold swapsWith
  simp only [a2, a1, e4, Expr.pos, e3]
  rfl
/-- y = {k: v for x in xs} -/
theorem ps_setDc {i : Nat} {y : Str} {py pos spos : Pos} {kx vx tg iter : Expr} {ifs : List Expr} {scope : Scope} {own : List (Str × Nat)} {wi : TI} {g : TG} {tt : TT} {tk tv : TE} (calm : X.calm = true) (nd : X.N.Nodup) (at_y : X.N[i]? = some y) (loc : X.env.scope.names.lookup y = some .local)
    (sw : swapsWith (.DictComp kx vx [⟨tg, iter, ifs, 0⟩] scope pos) (some (.Name y py)) spos.line X.env = pure true) (walk : PI X tg iter wi) (ok : BlkOk X.N X.env.scope scope own)
    (rg : ∀ (s : Shared) (H : Hp) (C : Addr) (cl : List (Str × Addr)) (fp : List Addr), PG (X.blk s H scope (compEnvC scope cl C X.env) fp) tg g)
    (rt : ∀ (s : Shared) (H : Hp) (C : Addr) (cl : List (Str × Addr)) (fp : List Addr), PTs (X.blk s H scope (compEnvC scope cl C X.env) fp) ifs tt)
    (rk : ∀ (s : Shared) (H : Hp) (C : Addr) (cl : List (Str × Addr)) (fp : List Addr), PE (X.blk s H scope (compEnvC scope cl C X.env) fp) kx tk)
    (rv : ∀ (s : Shared) (H : Hp) (C : Addr) (cl : List (Str × Addr)) (fp : List Addr), PE (X.blk s H scope (compEnvC scope cl C X.env) fp) vx tv)
    (fold : ∀ x, foldedSetIterable iter X.env x = pure x := by intro _; rfl) :
    PS X (.Assign [.Name y py] (.DictComp kx vx [⟨tg, iter, ifs, 0⟩] scope pos) spos) (tAsg (tDc wi g tt tk tv (own.map (·.2))) (gName i)) := by
  constructor
  intro pins s σ H D I q
  have q : tDc wi g tt tk tv (own.map (·.2)) σ H (fun x H1 => gName i x σ H1 D.nx) := q
  rw [exec_Assign_Name_used _ _ _ _ sw]
  apply wpAny_bind
  apply wpAny_standAt
  apply wpAny_bind
  show wpAny _ X.A (do let _ ← comprehension (.DictComp kx vx [⟨tg, iter, ifs, 0⟩] scope pos) scope X.env (firstIterPos [⟨tg, iter, ifs, 0⟩] pos) newDict false (eval iter X.env) (some (assign (.Name y py) X.env))) _ _ s
  apply wpAny_bind
  refine thn (dc_core (Qf := fun _ s' => SP X pins D .next s') calm nd I walk ok rg rt rk rv fold q ?_) fun _ _ z => wpAny_pure (wpAny_pure z)
  intro d c t n H2 J nx ns fr
  show wpAny _ _ (assign (.Name y py) X.env (.ref d)) _ _ _
  refine wpAny_assign_Name (store_ok2 (v := V.ref d) J nd at_y (.inl loc) rfl ?_ (.inr loc))
  rintro u JU ⟨b, same, which⟩
  obtain ⟨r0, r1, r2, r3, r4, r5⟩ := fr
  have far : c ≠ b := by
    cases which with
    | inl z => exact z ▸ r1
    | inr z => exact fun e => r4 y b z e.symm
  exact ⟨n, ns.sameBut same far, fun _ rest => ⟨_, H2, JU.turned (t' := u.toks) (fun a o ha e => (rest.2 a ha).trans e) r0 r1 r3 r4 r5, nx⟩⟩
end
end L2

namespace SrtO
open PySem PyProof.Rows Srt
section
variable {prog : Program} {w : World} {A : Around} {E : Value → Shared → Prop} {s : Shared}
/-- the heap with the items of a tuple in a new list -/
def gath (h : Heap) (its : List Value) : Heap := (h.push (seqObj "list" #[] 0)).update h.objs.size (Obj.mapSeq (· ++ its.toArray))
theorem gath_at (h : Heap) (its : List Value) : ∃ k, (gath h its).get? h.objs.size = some (seqObj "list" its.toArray k) := by
  have e := get?_update_seq (c := "list") (xs := #[]) (n := 0) (Heap.get?_push_size h rfl) (· ++ its.toArray)
  rw [Array.empty_append] at e
  exact ⟨_, e⟩
theorem gath_old {h : Heap} {its : List Value} {b : Addr} {o : Obj} (e : h.get? b = some o) : (gath h its).get? b = some o := by
  unfold gath
  rw [Heap.get?_update_ne _ _ _ _ (Nat.ne_of_lt (Heap.lt_size e))]
  exact Heap.get?_push_of_some _ e
theorem gath_size (h : Heap) (its : List Value) : (gath h its).objs.size = h.objs.size + 1 := by
  unfold gath
  rw [Heap.size_update, size_push']
theorem gather_tup {t : Addr} {o : Obj} {its : List Value} {k : Nat} {Q : List Value → Shared → Prop} (there : s.heap.get? t = some o) (cls : o.cls = .type "tuple") (dat : o.data = .seq its.toArray k) (few : its.length ≤ sizeLine)
    (next : Q its { s with heap := gath s.heap its }) : wpAny (model prog w) A (collect (.ref t)) Q E s := by
  have there' : (s.heap.push (seqObj "list" #[] 0)).get? t = some o := Heap.get?_push_of_some _ there
  have new0 : (s.heap.push (seqObj "list" #[] 0)).get? s.heap.objs.size = some (seqObj "list" #[] 0) := Heap.get?_push_size _ rfl
  unfold collect
  apply wpAny_bind
  refine wpAny_runValue (codeAny_builtin entry_proto_collect' ?_)
  show wpAny _ _ (newList [] >>= fun l => again (.builtin "list.__iadd__" ⟨[l, .ref t], []⟩)) _ _ s
  apply wpAny_bind
  refine wpAny_newList (wpAny_pure ⟨Code.quiet_builtin _ (by decide +kernel), codeAny_builtin entry_list_iadd' ?_⟩)
  show wpAny _ _ (Builtin.List.listExtendWith (.ref s.heap.objs.size) (.ref t) (.ref s.heap.objs.size)) _ _ { s with heap := s.heap.push (seqObj "list" #[] 0) }
  unfold Builtin.List.listExtendWith
  apply wpAny_bind
  refine wpAny_typeOf (T := "tuple") ⟨o, there', cls⟩ ?_
  have isT : (Value.type "tuple" == Value.type "tuple") = true := by rfl
  rw [if_pos (by rw [isT]; simp)]
  refine wpAny_bind (listItems_at there' dat ?_)
  refine wpAny_bind (listItems_at new0 rfl ?_)
  rw [if_neg (by simp)]
  refine wpAny_bind (listUpdate_at new0 rfl ?_ (Nat.zero_le _) (by show (#[] ++ its.toArray).size ≤ sizeLine + 1; simp only [Array.size_append, List.size_toArray, List.length_nil]; omega))
  refine wpAny_pure ?_
  obtain ⟨k2, e⟩ := gath_at s.heap its
  show wpAny (model prog w) A (do
      let o ← load s.heap.objs.size
      match o.data with
      | .seq xs _ => pure xs.toList
      | _ => unsupported "internal:collect") Q E { s with heap := gath s.heap its }
  exact wpAny_bind (wpAny_load e (wpAny_pure next))
/-- sorted(t), t a tuple of ints -/
theorem sorted_tupI {t : Addr} {o : Obj} {its : List Value} {ns : List Int} {k : Nat} {Q : Value → Shared → Prop} (I : IntsAre its ns) (there : s.heap.get? t = some o) (cls : o.cls = .type "tuple") (dat : o.data = .seq its.toArray k) (few : its.length ≤ sizeLine)
    (next : ∀ (out : List Value) (h' : Heap) (e : Nat), Srtd ltIv out → Stb ltIv out its → (∀ b u, s.heap.get? b = some u → h'.get? b = some u) → h'.get? (s.heap.objs.size + 1) = some (seqObj "list" out.toArray e) → Q (.ref (s.heap.objs.size + 1)) { s with heap := h' }) :
    wpAny (model prog w) A (call (.builtin "sorted") [.ref t]) Q E s := by
  refine Calls.call_function_entry kind_sorted plain_sorted entry_sorted (args_sorted1 _) ?_
  unfold Builtin.«sorted»
  refine wpAny_bind (m := checkCount "sorted" 1 1 _) (wpAny_pure ?_)
  refine wpAny_bind (gather_tup there cls dat few ?_)
  refine wpAny_bind (wpAny_newList ?_ few)
  show wpAny _ _ _ _ _ { s with heap := (gath s.heap its).push (seqObj "list" its.toArray 0) }
  have at_l : ((gath s.heap its).push (seqObj "list" its.toArray 0)).get? (gath s.heap its).objs.size = some (seqObj "list" its.toArray 0) := Heap.get?_push_size _ rfl
  refine wpAny_bind (wpAny_holding (wpAny_call_entry slot_list_sort ⟨_, at_l, rfl⟩ entry_list_sort (list_sort_ord swo_int at_l few (fun two => ints_sortable I two) fun out h1 h2 => ⟨_, rfl, ?_⟩) (args_list_sort _)))
  obtain ⟨e, he⟩ := sortedHeap_at (vs := its) (out := out.toArray) at_l
  rw [gath_size] at he ⊢
  refine wpAny_pure ⟨_, rfl, next out _ e h1 h2 (fun b u z => ?_) he⟩
  have lt : b < s.heap.objs.size := Heap.lt_size z
  rw [sortedHeap_old (Nat.ne_of_lt (Nat.lt_succ_of_lt lt)) (by rw [size_push', gath_size]; exact Nat.lt_succ_of_lt (Nat.lt_succ_of_lt lt))]
  exact Heap.get?_push_of_some _ (gath_old z)
end
end SrtO
namespace L2
open PySem PySem.Spec PyProof.Rows
def rSortedTI (K : PySem.W.Frag) : List V → Hp → VK → Prop := fun vs H Q => ∃ (a : Addr) (ns : List Int), vs = [V.ref a] ∧ SqT K H a (ns.map V.int) ∧ ∀ (ns' : List Int) (p : Addr), ns'.Perm ns → ns'.Pairwise (· ≤ ·) → H p = none → Q (.ref p) (upd H p (.lst (ns'.map V.int)))
theorem cr_sortedTI {X : Cx} : CallR X (.builtin "sorted") (rSortedTI X.K) := by
  intro pins s σ H vs us Q I r h
  obtain ⟨a, ns, rfl, hs, q⟩ := h
  obtain ⟨its, rv, ⟨o, ho, hc, k, hd⟩, hz⟩ := I.tuple hs
  rw [Vals.ref1 r]
  have hz' : ns.length ≤ sizeLine := by
    rw [List.length_map] at hz
    exact hz
  refine SrtO.sorted_tupI rv.ints ho hc hd (by rw [← rv.length]; exact hz) fun out h' e h1 h2 old new => ?_
  obtain ⟨k1, k2, k3⟩ := SrtO.ints_out rv.ints h1 h2
  exact ⟨.ref _, upd H (s.heap.objs.size + 1) (.lst ((out.map SrtO.iv).map V.int)), I.laid (t' := s.toks) old (Nat.le_succ _) ⟨by rw [List.length_map, k2.length_eq]; exact hz', out, e, vals_of_ints k1, new⟩, rfl, q _ _ k2 k3 (I.hok.fresh (Nat.le_succ _))⟩
end L2

namespace L2
open PySem PySem.Spec PyProof.Rows
section
variable {X : Cx} {st : Stmt} {rest : List Stmt} {t : TS}
/-- a statement behind which nothing is ever run -/
def tStop (t : TS) : TS := fun D σ H => t { D with nx := fun _ _ => False } σ H
theorem pss_stop (h1 : PS X st t) : PSs X (st :: rest) (tStop t) := by
  refine ⟨fun pins s σ H D I h => ?_⟩
  refine wpAny_execs_cons (thn (h1.run pins s σ H { D with nx := fun _ _ => False } I h) fun f s1 q => ?_)
  cases f with
  | next =>
    obtain ⟨σ', H', I', q⟩ := q
    exact False.elim q
  | ret v => exact q
  | brk => exact q
  | cont => exact q
end
end L2

namespace L2
open PySem PySem.Spec PyProof.Rows
/-- d.get(t) of a written table, whether the key is there or not -/
def tTabLook (P : Program) (w : World) (K : PySem.W.Frag) (td te : TE) : TE := fun σ H Q => td σ H fun x H1 => ∃ (a : Addr) (kvs : List (List Nat × Str)), x = .ref a ∧ TabK P w K a kvs ∧ te σ H1 fun y H2 => ∃ (p : Addr) (ks : List Nat), y = .ref p ∧ H2 p = some (.tup (ks.map fun k : Nat => V.int (k : Int))) ∧
  (∀ q, (kvs.find? fun q => decide (q.1 = ks)) = some q → Q (.str q.2) H2) ∧ ((kvs.find? fun q => decide (q.1 = ks)) = none → Q .non H2)
theorem tab_look {ks : List Nat} : ∀ {kvs : List (List Nat × Str)} {ts : List Tok}, ts.length = kvs.length →
    (∀ q, (kvs.find? fun q => decide (q.1 = ks)) = some q → ∃ t : Tok, valueAt ((kvs.zip ts).map fun x => (numK x.1.1, Value.str x.1.2 x.2)) (numK ks) = some (Value.str q.2 t)) ∧
    ((kvs.find? fun q => decide (q.1 = ks)) = none → valueAt ((kvs.zip ts).map fun x => (numK x.1.1, Value.str x.1.2 x.2)) (numK ks) = none)
  | [], ts, _ => ⟨fun q h => by simp at h, fun _ => by simp [valueAt]⟩
  | _ :: _, [], hl => by simp at hl
  | (k0, z0) :: kvs, t0 :: ts, hl => by
    have ih := tab_look (ks := ks) (kvs := kvs) (ts := ts) (by simpa using hl)
    by_cases c : k0 = ks
    · subst c
      refine ⟨fun q h => ?_, fun h => ?_⟩
      · rw [List.find?_cons_of_pos (by simp)] at h
        cases Option.some.inj h
        exact ⟨t0, by simp [valueAt]⟩
      · rw [List.find?_cons_of_pos (by simp)] at h
        cases h
    · have ne2 : ¬ numK k0 = numK ks := fun e => c (numK_inj e)
      rw [List.find?_cons_of_neg (by simpa using c)]
      unfold valueAt at ih ⊢
      rw [List.zip_cons_cons, List.map_cons, List.find?_cons_of_neg (by simpa using ne2)]
      exact ih
theorem pe_tabLook {X : Cx} {o e : Expr} {td te : TE} {apos cpos : Pos} (hu : X.A.units + 64 < cLine) (ho : PE X o td) (he : PE X e te) (m : M1 X o "get" apos e cpos) : PE X (.Call (.Attribute o "get" apos) [e] [] cpos) (tTabLook X.prog X.w X.K td te) := by
  refine ⟨fun pins s σ H Q I h => ?_⟩
  refine wpAny_Call_method m.base m.few m.line PySem.F.plainAttrs_dict PySem.F.slot_dict_get PySem.F.type_dict_get (thn (ho.run pins s σ H _ I h) fun u s1 ⟨x, H1, I1, rx, a, kvs, ex, ⟨hsm, ts, hT⟩, q1⟩ => ?_)
  subst ex
  obtain rfl : u = Value.ref a := rx
  obtain ⟨hD, _⟩ := hT _ I1.kIn
  have hD' := hD
  obtain ⟨xs, ⟨ob, es, ep, hob, hcl, hdat, _⟩, _⟩ := hD'
  refine ⟨hD.typeIs, fun b q => by cases q; exact ⟨ob, hob, hcl.2.1⟩, ?_⟩
  rw [m.trees]
  refine Calls.callWith_builtin rfl (Calls.evalArgs_plain (Calls.spliced_cons (thn (he.run pins s1 σ H1 _ I1 q1) fun iv s2 ⟨y, H2, I2, ry, p, ks, ey, hp, q2, q3⟩ => Calls.spliced_nil ?_)))
  subst ey
  obtain rfl : iv = Value.ref p := ry
  obtain ⟨_, its, rv, ot, h1, h2, n, h3⟩ := (show ObjOk X.prog X.w H2 s2.heap p (.tup (ks.map fun k : Nat => V.int (k : Int))) from I2.hok p _ hp)
  obtain ⟨hD2, hlen⟩ := hT _ I2.kIn
  obtain ⟨f1, f2⟩ := tab_look (ks := ks) hlen
  have hk : (nestedKind X.prog X.w).is s2.heap (numK ks) p := ⟨.tup h1 h2 h3 (by simpa using numAll_of (h := s2.heap) rv), numK_depth ks⟩
  refine get_keyed (knd := nestedKind X.prog X.w) (show X.A.in1.units + 8 < cLine by show X.A.units + 1 + 8 < cLine; omega) hk hsm hD2 ?_
  cases hf : kvs.find? fun q => decide (q.1 = ks) with
  | some q =>
    obtain ⟨t, ht⟩ := f1 q hf
    rw [ht]
    exact ⟨.str q.2, H2, I2.tok _, ⟨t, rfl⟩, q2 q hf⟩
  | none =>
    rw [f2 hf]
    exact ⟨.non, H2, I2.tok _, rfl, q3 hf⟩
end L2

/-! exceptions whose context is known to be None: raised by defs, caught where the suite calls defs -/
namespace L2N
open PySem PySem.Spec PyProof.Rows L2
theorem takes0N {X : Cx} : Takes X (fun _ _ _ _ => False) := fun _ _ x => by
  obtain ⟨a, B, sI, pins, σ, H, cls, d, e, I, nb, up, sky, na, os, ag, w⟩ := x
  exact False.elim w
section
variable {X : Cx} {e : Expr} {es : List Expr} {ta : TA} {p pos : Pos}
/-- raise X(e, ..), own __init__: the new exception has no context -/
theorem pmk_oexN {CX : CXT} {x : Str} {C fI : Addr} {k : Nat} {fd : FuncData} {ps : List Str} {sp : Sp} (T : OexC X.K C) (iC : PySem.W.findIn X.K (.ref C) "__init__" = some (some (.ref fI))) (tI : PySem.W.typeIn X.K (.ref fI) = some (.type "function"))
    (F1 : FnOk X.prog X.w X.K X.mg X.base CX k fI fd ps sp) (hr : Room (k + 1) X.A) (hb : Binds X.K fd ps []) (hx : Passes CX X (fun _ _ _ => False)) (hg : Gl X x) (hm : X.mg x = some (.ref C)) (ha : PA X (e :: es) ta)
    (hdb : (x == ("__debug__" : Str)) = false := by decide) (he : starEach (e :: es) X.env = (false, eval e X.env) :: starEach es X.env := by rfl) (hpl : (backTo pos (starEach es X.env)).any (·.1) = false := by rfl) :
    PMk X (.Call (.Name x p) (e :: es) [] pos) (tMkO C sp [] ta) := by
  intro pins s σ H Q I h
  obtain ⟨c1, c2, c3, c4, c5, c6, c7, c8, c9, d0, d1, d2, d3, d4, d5, hC, hbm⟩ := T.cls
  refine wpAny_Call_Name_kw (ld_glob I hg hm ?_ hdb)
  refine PySem.W.callWith_K (h₀ := X.base) I.ok.mod.kin T.kC (thn (ha.run pos pins s σ H _ I h) fun us s1 ⟨vs, H1, I1, r1, hz, q1⟩ => ⟨I1.kIn, ?_⟩) he hpl
  show wpAny _ _ (call (.ref C) us) _ _ _
  obtain ⟨h1, g1, w1, k1, o1⟩ := s1
  have up1 : h1.objs.size ≤ h1.objs.size + 1 := Nat.le_succ _
  have fr : H1 (h1.objs.size + 1) = none := I1.hok.fresh up1
  have pr := q1 (h1.objs.size + 1) fr
  rw [List.append_nil] at pr
  have kp : ∀ b o, h1.get? b = some o → ((h1.push (PySem.W.kdv_tup us)).push (PySem.HandSPX.excO C h1.objs.size)).get? b = some o := fun b o z => Heap.get?_push_of_some _ (Heap.get?_push_of_some _ z)
  have ob : ((h1.push (PySem.W.kdv_tup us)).push (PySem.HandSPX.excO C h1.objs.size)).get? (h1.objs.size + 1) = some (PySem.HandSPX.excO C h1.objs.size) := by heap_get
  have J : Inv X pins σ (upd H1 (h1.objs.size + 1) (exo (h1.objs.size + 1) C none)) ⟨(h1.push (PySem.W.kdv_tup us)).push (PySem.HandSPX.excO C h1.objs.size), g1, w1, k1, o1⟩ :=
    I1.laid (t' := k1) (a := h1.objs.size + 1) (o := exo (h1.objs.size + 1) C none) (h' := (h1.push (PySem.W.kdv_tup us)).push (PySem.HandSPX.excO C h1.objs.size)) kp up1 (exo_ok ob)
  have rl : Vals (V.ref (h1.objs.size + 1) :: vs) (Value.ref (h1.objs.size + 1) :: us) := .cons rfl r1
  have ln : (Value.ref (h1.objs.size + 1) :: us).length = ps.length := by
    have z := rl.length
    rw [F1.len _ _ _ _ pr] at z
    exact z.symm
  have few : us.length ≤ sizeLine := by
    rw [← Paired.length r1, sizeLine_eq]
    omega
  have bd := hb ⟨(h1.push (PySem.W.kdv_tup us)).push (PySem.HandSPX.excO C h1.objs.size), g1, w1, k1, o1⟩ (Value.ref (h1.objs.size + 1) :: us) J.kIn (by rw [List.append_nil]; exact ln)
  rw [List.append_nil] at bd
  refine wpAny_call (PySem.HandSPX.call_own F.excBase_ValueError (fun Y => PySem.HandSPX.refsVE_contains Y c5 hbm) (I1.kIn _ _ hC) (PySem.W.looks_findIn I1.kIn iC) (fun self => PySem.W.bind_fn I1.kIn self tI) few
    (codeAny_mono (F1.run _ X.stack _ _ ⟨Value.ref (h1.objs.size + 1) :: us, []⟩ (Value.ref (h1.objs.size + 1) :: us) _ _ (fun _ _ _ => False) (hr.make C us []) (J.env0.make C us []) bd rl pr) fun r s' hq => ?_))
  cases r with
  | error er => exact hx pins σ _ _ er s' J hq
  | ok fl =>
    cases fl with
    | ret u =>
      obtain ⟨v, H2, os2, bare2, un2, hok2, rv, ev, d, fs, ea, ed, hd1, q2⟩ := hq
      subst ev
      obtain ⟨h2, g2, w2, k2, o2⟩ := s'
      obtain ⟨t0, G, JG, kG, ge, hoe, na⟩ := mk_end0 (d2 := w2) (t2 := k2) I1 up1 kp un2 hok2 os2 bare2 ea ed hd1
      exact ⟨rv, h1.objs.size + 1, _, _, ⟨G, g2, w2, k2, o2⟩, _, .ref C, some d, rfl, JG, kG, ge, hoe, ⟨rfl, rfl, fun vs hv => by cases hv; rfl⟩, rfl, rfl, na, rfl, bare2, raises_own T.exC T.tyC, q2⟩
    | next => exact False.elim hq
    | brk => exact False.elim hq
    | cont => exact False.elim hq
variable {C : Addr} {bmB : List Value} {B newId initId : String} {x : Str}
/-- raise X(), no own __init__ -/
theorem pmk_own0N (F : ExcBaseFacts B newId initId bmB) (q : PySem.W.excIn X.K C bmB newId = true) (gC : X.mg x = some (.ref C)) (kC : PySem.W.keepIn X.K (.ref C) = true) (r : Raises X (.ref C)) (hg : Gl X x)
    (hdb : (x == ("__debug__" : Str)) = false := by decide) : PMk X (.Call (.Name x p) [] [] pos) (fun _ H Q => Q (.ref C) none H) := by
  intro pins s σ H Q I h
  refine wpAny_Call_Name_kw (ld_glob I hg gC ?_ hdb)
  refine PySem.W.callWith_K0 I.kIn kC ?_
  obtain ⟨bm, N, nm, qn, bs, hdct, sn, sub, ab, col, dd, k0, k1, k2, k3, k5, mN, hC, hN, hni, T⟩ := exc_obj I.kIn q
  refine wpAny_call_exc_subT F T hC hN hni (fun h' e hm => ?_) (Nat.zero_le _)
  exact mk_of I hm r h (I.hok.gone hm.new)
end
end L2N
namespace L2
open PySem PySem.Spec PyProof.Rows
section
variable {P : Program} {w : World} {K : PySem.W.Frag} {mg : Str → Option Value} {base : Heap}
/-- a def that may raise, what it raises has no context -/
theorem Fun.okN {x qual : Str} {st : Stmt} {f : Addr} {fd : FuncData} {N ps : List Str} {k : Nat} {sp : Sp} (F : Fun K x qual st f fd) (S : FnScope N ps (defScope st)) (len : ∀ vs H Q E, sp vs H Q E → vs.length = ps.length)
    (hbody : ∀ (cdv : Value) (A : Around) (outer : List Env) (s : Shared) (H : Hp) (vs : List V) (Q : VK) (E : XK), Room k (A.deeper (envOfC qual (defScope st) s.heap.objs.size f cdv)) → sp vs H Q E →
      ∃ t, PSs (cxOf (L2N.CX P w) P w K mg base N qual (defScope st) f cdv A outer s H E) (defBody st) t ∧ t { nx := fun _ H' => Q .non H', rt := Q } (start N vs) H) : FnOk P w K mg base (L2N.CX P w) (k + 1) f fd ps sp := by
  obtain ⟨oc, od, kV, doc, pm, an, cdv, ct, osl, rfl, lk, hcd⟩ := F.ex
  exact fn_of lk hcd S len fun A outer s H vs Q E hr hsp => hbody cdv A outer s H vs Q E hr hsp
/-- a def called where an exception is handled, lets none out -/
theorem Fun.okH {x qual : Str} {st : Stmt} {f : Addr} {fd : FuncData} {N ps : List Str} {k : Nat} {sp : Sp} (F : Fun K x qual st f fd) (S : FnScope N ps (defScope st)) (len : ∀ vs H Q E, sp vs H Q E → vs.length = ps.length)
    (hbody : ∀ (cdv : Value) (A : Around) (outer : List Env) (s : Shared) (H : Hp) (vs : List V) (Q : VK) (E : XK) (p : Addr × Obj), L2H.Hot1 A p → L2H.RoomH k (A.deeper (envOfC qual (defScope st) s.heap.objs.size f cdv)) → sp vs H Q E →
      ∃ t, PSs (L2H.cxH CX0 P w K mg base N qual (defScope st) f cdv A outer s H E p).nox (defBody st) t ∧ t { nx := fun _ H' => Q .non H', rt := Q } (start N vs) H) : L2H.FnH P w K mg base CX0 (k + 1) f fd ps sp := by
  obtain ⟨oc, od, kV, doc, pm, an, cdv, ct, osl, rfl, lk, hcd⟩ := F.ex
  refine L2H.fn_ofH lk hcd S len fun A outer s H vs Q E p hot hr hsp => ?_
  obtain ⟨t, h, q⟩ := hbody cdv A outer s H vs Q E p hot hr hsp
  exact ⟨t, h.nox, q⟩
end
/-- within a suite: the exception that is handled has no context -/
theorem hot_suite {X : Cx} {a : Addr} {oe : Obj} {cls : Value} {d : Option Addr} {pn : List (Addr × Obj)} (hz : L2N.Zn cls d oe) (hf : ∃ vs, oe.data = .fields vs) : L2H.HotC (X.suite a ((a, oe) :: pn)) := by
  obtain ⟨vs, hv⟩ := hf
  exact ⟨(a, oe), ⟨rfl, vs, hv, hz.2.2 vs hv⟩, List.mem_cons_self⟩
end L2
namespace L2
open PySem PySem.Spec PyProof.Rows
/-- nothing is let out -/
theorem passH0 {X : Cx} (E : St → XK) : ∀ σ, PassesAt CX0 X σ (E σ) := fun _ _ _ _ _ _ _ z => False.elim z
theorem call_isiQ {X : Cx} {K : PySem.W.Frag} (h : X.K = K) : CallR X (.builtin "isinstance") (rIsi K) := by
  subst h
  exact call_isi
theorem call_lenK {X : Cx} {K : PySem.W.Frag} (h : X.K = K) : CallR X (.builtin "len") (fun xs H Q => ∃ p ys, xs = [.ref p] ∧ (SqL K H p ys ∨ SqT K H p ys) ∧ Q (.int ys.length) H) := by
  subst h
  exact call_len_seq
end L2

/-! min, max, len(set(..)) of a tuple of ints -/
namespace MmT
open PySem PyProof.Rows
theorem keep_old {s : Shared} {o : Obj} {h' : Heap} (hk : ∀ b u, b ∉ [s.heap.objs.size] → (s.heap.push o).get? b = some u → h'.get? b = some u) : ∀ b u, s.heap.get? b = some u → h'.get? b = some u := fun b u e => by
  refine hk b u (fun hm => ?_) (Heap.get?_push_of_some _ e)
  have := Heap.lt_size e
  rw [List.mem_singleton.mp hm] at this
  exact Nat.lt_irrefl _ this
theorem ints_arr {its : List Value} {ns : List Int} (hi : IntsAre its ns) : ∃ xs : Array (Int × Tok), its.toArray = intItems xs ∧ (xs.toList.map (·.1)) = ns := by
  obtain ⟨xs, e⟩ := hi.allInts.items
  have hn : numsOf (intItems xs).toList = ns := by
    rw [← e]
    exact hi.numsOf
  rw [nums_intItems] at hn
  exact ⟨xs, e, hn⟩
section
variable {prog : Program} {w : World} {A : Around} {E : Value → Shared → Prop} {s : Shared}
theorem min_tup {t : Addr} {its : List Value} {ns : List Int} {Q : Value → Shared → Prop} (calm : A.handled = none) (there : s.heap.IsTuple t its.toArray) (hi : IntsAre its ns) (some_ : 0 < ns.length)
    (next : ∀ (h' : Heap) (tk : Nat) (m : Int) (u : Tok), (∀ b o, s.heap.get? b = some o → h'.get? b = some o) → m ∈ ns → (∀ y ∈ ns, m ≤ y) → Q (.int m u) { s with heap := h', toks := tk }) :
    wpAny (model prog w) A (call (.builtin "min") [.ref t]) Q E s := by
  obtain ⟨xs, e1, e2⟩ := ints_arr hi
  subst e2
  rw [e1] at there
  have pos : 0 < xs.size := by simpa using some_
  have tb : t < s.heap.objs.size := by
    obtain ⟨o, ho, _⟩ := there
    exact Heap.lt_size ho
  refine call_min_walk (wpAny_pyIter_tuple there ?_)
  refine ⟨_, [_, t], [_], _, _, _, _, rfl, Walks.tuple (A := A.in1) calm _ t (Nat.ne_of_lt tb) (intItems xs), ⟨⟨_, Heap.get?_push_size _ rfl, rfl, rfl⟩, there.push _⟩, fun c hc => ?_, by simpa [intItems] using pos, CmpOf.ints_lt (numAt xs) (fun _ _ => intItems_at), fun v h' tk hP hk => ?_⟩
  · show c < (s.heap.push _).objs.size
    rw [Heap.size_push]
    rcases List.mem_cons.mp hc with rfl | hc
    · exact Nat.lt_succ_self _
    · rw [List.mem_singleton.mp hc]
      exact Nat.lt_succ_of_lt tb
  · have hP' : (intItems xs)[argBest (fun i j => decide (numAt xs i < numAt xs j)) (xs.size - 1)]? = some v := by simpa [intItems] using hP
    obtain ⟨u, rfl⟩ := intItems_at hP'
    obtain ⟨b1, b2⟩ := argBest_lt (numAt xs) (xs.size - 1)
    refine next h' tk _ u (keep_old hk) ?_ fun y hy => ?_
    · rw [numAt_eq]
      exact PySem.getD_mem (by rw [List.length_map, Array.length_toList]; omega)
    · obtain ⟨j, hj, rfl⟩ := mem_getD hy
      rw [List.length_map, Array.length_toList] at hj
      rw [← numAt_eq]
      exact b2 j (by omega)
theorem max_tup {t : Addr} {its : List Value} {ns : List Int} {Q : Value → Shared → Prop} (calm : A.handled = none) (there : s.heap.IsTuple t its.toArray) (hi : IntsAre its ns) (some_ : 0 < ns.length)
    (next : ∀ (h' : Heap) (tk : Nat) (m : Int) (u : Tok), (∀ b o, s.heap.get? b = some o → h'.get? b = some o) → m ∈ ns → (∀ y ∈ ns, y ≤ m) → Q (.int m u) { s with heap := h', toks := tk }) :
    wpAny (model prog w) A (call (.builtin "max") [.ref t]) Q E s := by
  obtain ⟨xs, e1, e2⟩ := ints_arr hi
  subst e2
  rw [e1] at there
  have pos : 0 < xs.size := by simpa using some_
  have tb : t < s.heap.objs.size := by
    obtain ⟨o, ho, _⟩ := there
    exact Heap.lt_size ho
  refine call_max_walk (wpAny_pyIter_tuple there ?_)
  refine ⟨_, [_, t], [_], _, _, _, _, rfl, Walks.tuple (A := A.in1) calm _ t (Nat.ne_of_lt tb) (intItems xs), ⟨⟨_, Heap.get?_push_size _ rfl, rfl, rfl⟩, there.push _⟩, fun c hc => ?_, by simpa [intItems] using pos, CmpOf.ints_gt (numAt xs) (fun _ _ => intItems_at), fun v h' tk hP hk => ?_⟩
  · show c < (s.heap.push _).objs.size
    rw [Heap.size_push]
    rcases List.mem_cons.mp hc with rfl | hc
    · exact Nat.lt_succ_self _
    · rw [List.mem_singleton.mp hc]
      exact Nat.lt_succ_of_lt tb
  · have hP' : (intItems xs)[argBest (fun i j => decide (numAt xs i > numAt xs j)) (xs.size - 1)]? = some v := by simpa [intItems] using hP
    obtain ⟨u, rfl⟩ := intItems_at hP'
    obtain ⟨b1, b2⟩ := argBest_gt (numAt xs) (xs.size - 1)
    refine next h' tk _ u (keep_old hk) ?_ fun y hy => ?_
    · rw [numAt_eq]
      exact PySem.getD_mem (by rw [List.length_map, Array.length_toList]; omega)
    · obtain ⟨j, hj, rfl⟩ := mem_getD hy
      rw [List.length_map, Array.length_toList] at hj
      rw [← numAt_eq]
      exact b2 j (by omega)
end
/-- a list without doubles has as many members as another of the same members exactly if that one has no doubles -/
theorem sub_perm : ∀ {L ns : List Int}, L.Nodup → (∀ x ∈ L, x ∈ ns) → L.length = ns.length → L.Perm ns
  | [], ns, _, _, h => by
    rw [List.length_eq_zero_iff.mp h.symm]
  | x :: L, ns, nd, sub, h => by
    have hx := sub x (List.mem_cons_self ..)
    have nd' := List.nodup_cons.mp nd
    have ih := sub_perm (L := L) (ns := ns.erase x) nd'.2 (fun y hy => (List.mem_erase_of_ne (fun z => nd'.1 (by rw [← z]; exact hy))).mpr (sub y (List.mem_cons_of_mem _ hy))) (by
      rw [List.length_erase_of_mem hx]
      simp at h
      omega)
    exact (List.Perm.cons x ih).trans (List.perm_cons_erase hx).symm
theorem sub_len : ∀ {L ns : List Int}, L.Nodup → (∀ x ∈ L, x ∈ ns) → L.length ≤ ns.length
  | [], _, _, _ => Nat.zero_le _
  | x :: L, ns, nd, sub => by
    have hx := sub x (List.mem_cons_self ..)
    have nd' := List.nodup_cons.mp nd
    have ih := sub_len (L := L) (ns := ns.erase x) nd'.2 fun y hy => (List.mem_erase_of_ne (fun z => nd'.1 (by rw [← z]; exact hy))).mpr (sub y (List.mem_cons_of_mem _ hy))
    have := List.length_erase_of_mem hx
    have hp : 0 < ns.length := List.length_pos_of_mem hx
    show L.length + 1 ≤ ns.length
    omega
theorem count_nd {L ns : List Int} (nd : L.Nodup) (m : ∀ x, x ∈ L ↔ x ∈ ns) : L.length = ns.length ↔ ns.Nodup :=
  ⟨fun h => (sub_perm nd (fun x hx => (m x).mp hx) h).nodup_iff.mp nd, fun h => Nat.le_antisymm (sub_len nd fun x hx => (m x).mp hx) (sub_len h fun x hx => (m x).mpr hx)⟩
end MmT
namespace L2
open PySem PySem.Spec PyProof.Rows
section
variable {X : Cx}
def rMinT (K : PySem.W.Frag) : List V → Hp → VK → Prop := fun vs H Q => ∃ (a : Addr) (ns : List Int), vs = [V.ref a] ∧ SqT K H a (ns.map V.int) ∧ 0 < ns.length ∧ ∀ m, m ∈ ns → (∀ y ∈ ns, m ≤ y) → Q (.int m) H
def rMaxT (K : PySem.W.Frag) : List V → Hp → VK → Prop := fun vs H Q => ∃ (a : Addr) (ns : List Int), vs = [V.ref a] ∧ SqT K H a (ns.map V.int) ∧ 0 < ns.length ∧ ∀ m, m ∈ ns → (∀ y ∈ ns, y ≤ m) → Q (.int m) H
theorem tup_is {h : Heap} {t : Addr} {its : List Value} (p : ∃ o : Obj, h.get? t = some o ∧ o.cls = .type "tuple" ∧ ∃ k, o.data = .seq its.toArray k) : h.IsTuple t its.toArray := by
  obtain ⟨o, h1, h2, k, h3⟩ := p
  exact ⟨o, h1, h2, k, h3⟩
theorem cr_minT (calm : X.calm = true) : CallR X (.builtin "min") (rMinT X.K) := by
  intro pins s σ H vs us Q I r h
  obtain ⟨a, ns, rfl, hs, pos, q⟩ := h
  obtain ⟨its, rv, ⟨o, ho, hc, k, hd⟩, hz⟩ := I.tuple hs
  rw [Vals.ref1 r]
  exact MmT.min_tup (I.ok.hd calm) ⟨o, ho, hc, k, hd⟩ rv.ints pos fun h' tk m u keep hm hl => ⟨.int m, H, I.kept keep, ⟨u, rfl⟩, q m hm hl⟩
theorem cr_maxT (calm : X.calm = true) : CallR X (.builtin "max") (rMaxT X.K) := by
  intro pins s σ H vs us Q I r h
  obtain ⟨a, ns, rfl, hs, pos, q⟩ := h
  obtain ⟨its, rv, ⟨o, ho, hc, k, hd⟩, hz⟩ := I.tuple hs
  rw [Vals.ref1 r]
  exact MmT.max_tup (I.ok.hd calm) ⟨o, ho, hc, k, hd⟩ rv.ints pos fun h' tk m u keep hm hl => ⟨.int m, H, I.kept keep, ⟨u, rfl⟩, q m hm hl⟩
/-- len(set(t)), t a tuple of ints: how many there are tells whether there are doubles -/
def tLenSetT (K : PySem.W.Frag) (ta : TE) : TE := fun σ H Q => ta σ H fun x H1 => ∃ (l : Addr) (ns : List Int), x = .ref l ∧ SqT K H1 l (ns.map V.int) ∧ ns.length ≤ 1000 ∧ ∀ c : Nat, c ≤ ns.length → (c = ns.length ↔ ns.Nodup) → Q (.int (c : Int)) H1
theorem pe_lenSetT {a : Expr} {ta : TE} {p p2 q pos : Pos} (calm : X.calm = true) (g1 : Gl X "len") (m1 : X.mg "len" = none) (g2 : Gl X "set") (m2 : X.mg "set" = none) (ha : PE X a ta)
    (na : starEach [a] X.env = (false, eval a X.env) :: starEach [] X.env := by rfl) : PE X (.Call (.Name "len" p) [.Call (.Name "set" p2) [a] [] q] [] pos) (tLenSetT X.K ta) := by
  refine ⟨fun pins s σ H Q I hw => ?_⟩
  refine Call_ (ld_blt I g1 m1 PySem.boot_len ?_)
  refine PyProof.Rows.callWith_builtin1 (PyProof.Rows.args_cons ?_ rfl) rfl rfl
  refine Call_ (ld_blt I g2 m2 PyProof.Rows.boot_set ?_)
  refine PyProof.Rows.callWith_type1 (PyProof.Rows.args_cons (thn (ha.run pins s σ H _ I hw) fun v s1 ⟨x, H1, I1, r1, z1⟩ => PyProof.Rows.args_nil ?_) na) na rfl
  obtain ⟨l, ns, rfl, hq, few, z1⟩ := z1
  cases r1
  obtain ⟨its, rv, ⟨o, ho, hc, k, hd⟩, hz⟩ := I1.tuple hq
  refine call_set_tupI ns (I1.ok.hd calm) ⟨o, ho, hc, k, hd⟩ (by simpa using rv.ints) (by unfold scanBound; omega) fun h' tk c hS hc' keep => ?_
  refine PyProof.Rows.args_nil ?_
  obtain ⟨o2, es, ep, t2, h1, h2, h3, _, h5, h6, _, h8, h9, _⟩ := hS
  have I2 : Inv X pins σ H1 { s1 with heap := h', toks := tk } := I1.kept keep
  have m : ∀ x, x ∈ es.toList.map keyOf ↔ x ∈ ns := fun x => by
    rw [← h6 x]
    exact decide_eq_true_iff
  have cnt := MmT.count_nd h5 m
  rw [List.length_map, Array.length_toList, h9] at cnt
  exact call_len_set h1 h2 h3 h8 (by omega) ⟨.int (c : Int), H1, I2.tok _, ⟨_, by rw [h9]⟩, z1 c hc' cnt⟩
end
end L2

/-! enumerate of a tuple; calls in a try's body; isinstance of an exception without a dict -/
namespace EnT
open PySem
/-- the iterator of the tuple t, and the enumerate object over the iterator at i, both as they are made -/
def itO (t : Addr) : Obj := { cls := .type "tuple_iterator", data := .fields #[.ref t, .int 0 0] }
def enO (i : Addr) : Obj := { cls := .type "enumerate", data := .fields #[.none, .bool false, .ref i, rawInt 0, .none, .none] }
def made (g : Heap) (t : Addr) : Heap := (g.push (itO t)).push (enO g.objs.size)
theorem made_top (g : Heap) (t : Addr) : (g.push (itO t)).objs.size = g.objs.size + 1 := Heap.size_push ..
theorem made_en (g : Heap) (t : Addr) : (made g t).get? (g.objs.size + 1) = some (enO g.objs.size) :=
  made_top g t ▸ Heap.get?_push_size (g.push (itO t)) (o := enO g.objs.size) rfl
theorem made_it (g : Heap) (t : Addr) : (made g t).get? g.objs.size = some (itO t) := Heap.get?_push_of_some _ (Heap.get?_push_size _ rfl)
theorem made_old (g : Heap) (t b : Addr) (o : Obj) (h : g.get? b = some o) : (made g t).get? b = some o :=
  Heap.get?_push_of_some _ (Heap.get?_push_of_some _ h)
/-- what enumerate's __new__ does with a tuple -/
theorem new_does (t : Addr) (vs : Array Value) : Meets (Builtin.«enumerate.__new__» ⟨[.type "enumerate", .ref t], []⟩)
    (fun _ R s => s.heap.IsTuple t vs ∧ R (.ok (.ret (.ref (s.heap.objs.size + 1)))) { s with heap := made s.heap t }) :=
  Meets.of_wp fun P w A R s there => by
    cases s with
    | mk g gl dw tc ow =>
      obtain ⟨isT, goal⟩ := there
      rw [← made_top g t] at goal
      have sub1 := sub_enumerate
      have mk_it : ∀ {A1 : Around} {E1 Q1 : Value → Shared → Prop}, Q1 (.ref g.objs.size) ⟨g.push (itO t), gl, dw, tc, ow⟩ → wpAny (model P w) A1 (pyIter (.ref t)) Q1 E1 ⟨g, gl, dw, tc, ow⟩ :=
        fun q => wpAny_pyIter_tuple isT q
      wp_walk using mk_it
      refine wpAny_stack_any fun _ => wpAny_pure ?_
      split
      · next cls _ _ _ _ _ =>
        by_cases same : (cls == Value.type "enumerate") = true
        · rw [same]
          wp_walk using mk_it
          exact ⟨_, rfl, goal⟩
        · rw [Bool.eq_false_iff.mpr same]
          wp_walk using mk_it
          exact ⟨_, rfl, goal⟩
      · wp_walk using mk_it
        exact ⟨_, rfl, goal⟩
end EnT
namespace EnT
open PySem PySem.Spec PyProof.Rows L2
theorem call_does {P : Program} {w : World} {A : Around} {E Q : Value → Shared → Prop} {s : Shared} {t : Addr} {vs : Array Value} (isT : s.heap.IsTuple t vs) (goal : Q (.ref (s.heap.objs.size + 1)) { s with heap := made s.heap t }) :
    wpAny (model P w) A (call (.type "enumerate") [.ref t]) Q E s := by
  have top : Shared.TypeIs { s with heap := made s.heap t } (.ref (s.heap.objs.size + 1)) "enumerate" := ⟨_, made_en s.heap t, rfl⟩
  have done : (fun (_ : Around) (R : Result → Shared → Prop) (z : Shared) => z.heap.IsTuple t vs ∧ R (.ok (.ret (.ref (z.heap.objs.size + 1)))) { z with heap := made z.heap t }) A.in1
      (wants (fun obj z => z.TypeIs obj "enumerate" ∧ Q obj z) E) s := ⟨isT, top, goal⟩
  exact callType_new F.called_enumerate (by decide) (F.typeCall_enumerate_1 _) (F.newCall_enumerate_1 _) (fun o => F.args_object_init_2 o _)
    F.entry_enumerate_new (new_does t vs) done
theorem tup_ne {h : Heap} {i t : Addr} {n : Nat} {vs : Array Value} (a : h.IsTupleIter i t n) (b : h.IsTuple t vs) : t ≠ i := by
  intro same
  subst same
  obtain ⟨u, hu, cu, _⟩ := a
  obtain ⟨v, hv, cv, _⟩ := b
  cases hu.symm.trans hv
  exact absurd (Value.type.inj (cu.symm.trans cv)) (by decide)
theorem en_ne {h : Heap} {e i t : Addr} {c : Int} {old : Value} {vs : Array Value} (a : IsEnum h e i c old) (b : h.IsTuple t vs) : e ≠ t := by
  intro same
  subst same
  obtain ⟨v, hv, cv, _⟩ := b
  cases (show h.get? e = _ from a).symm.trans hv
  exact absurd (Value.type.inj cv) (by decide)
/-- what the enumerate object at e walks with: its tuple at t, the iterator at i -/
def Stands (e i t : Addr) (n : Nat) (h : Heap) : Prop := (∃ old, IsEnum h e i ((n : Nat) : Int) old) ∧ h.IsTupleIter i t n ∧ e ≠ i
/-- the tuple at t, each item behind its number in a new pair -/
def ItN (K : PySem.W.Frag) (t : Addr) : It where
  go := fun n H => ∃ xs x, SqT K H t xs ∧ xs[n]? = some x
  yld := fun n H v H2 => ∃ p x, v = .ref p ∧ H p = none ∧ H2 = upd H p (.tup [.int (n : Nat), x]) ∧ ∀ xs, SqT K H t xs → xs[n]? = some x
  stop := fun n H => ∃ xs : List V, SqT K H t xs ∧ xs.length = n
theorem turns {P : Program} {w : World} {K : PySem.W.Frag} {es : List Expr} {kk : Nat} {ps : Pos} (e i t : Addr) : Turn P w K (.Tuple es kk ps) (ItN K t) [e, i] e (Stands e i t) := by
  constructor
  · exact List.mem_cons_self
  · rintro n h ⟨⟨old, a⟩, ⟨u, hu, cu, du⟩, ne⟩ b hb
    rcases List.mem_cons.mp hb with rfl | hb
    · exact ⟨_, a, fun v q => by cases q⟩
    · rw [List.mem_singleton.mp hb]
      exact ⟨u, hu, fun v q => by rw [du] at q; cases q⟩
  · rintro n h h2 ⟨⟨old, a⟩, b, ne⟩ kp
    exact ⟨⟨old, kp e List.mem_cons_self _ a⟩, b.at fun o q => kp i (List.mem_cons_of_mem _ List.mem_cons_self) o q, ne⟩
  · rintro X rfl rfl rfl calm n pins s σ H E I apart ⟨⟨old, a⟩, b, ne⟩ ⟨xs, x, tx, hx⟩
    obtain ⟨vs, rel, isT, _⟩ := I.tuple tx
    have isT := tup_is isT
    obtain ⟨v, hv, rv⟩ := rel.get hx
    have hv2 : vs.toArray[n]? = some v := by rw [List.getElem?_toArray]; exact hv
    have lt := (Array.getElem?_eq_some_iff.mp hv2).1
    have away : e ∉ [i, t] := fun z => by
      rcases List.mem_cons.mp z with z | z
      · exact ne z
      · exact en_ne a isT (List.mem_singleton.mp z)
    have drawn := Draws.tuple (prog := X.prog) (w := X.w) (A := X.A.in1) (I.ok.hd calm) i t (tup_ne b isT) vs.toArray
    have W := WalksT.enumerateD drawn e ne away List.mem_cons_self
    refine W.item n s _ E lt ⟨⟨old, a⟩, b, isT⟩ ?_
    rintro p ws h1 tk ⟨tok, v2, g, rfl⟩ up there mid kp1
    cases hv2.symm.trans g
    refine ⟨_, rfl, W.go es kk ps n p { s with heap := h1, toks := tk } _ E mid ?_⟩
    rintro h2 ⟨⟨old2, a2⟩, b2, _⟩ kp2
    obtain ⟨op, hop, cp, c1, dp⟩ := there
    have free : H p = none := I.hok.fresh up
    have made : ObjOk X.prog X.w (upd H p (.tup [.int (n : Nat), x])) h2 p (.tup [.int (n : Nat), x]) := by
      refine ⟨?_, [.int n tok, v], .cons ⟨tok, rfl⟩ (.cons rv .nil), op, kp2 p op (W.apart n p h1 mid) hop, cp, c1, dp⟩
      show 2 ≤ sizeLine
      decide
    have I2 := I.turnedNew (t' := tk) (fun c o nc q => kp2 c o nc (kp1 c o nc q)) apart up made
    refine ⟨.ref p, _, I2, rfl, ⟨p, x, rfl, free, rfl, fun ys ty => by rw [I.tuple_inj ty tx]; exact hx⟩, ⟨⟨old2, a2⟩, b2, ne⟩, fun c hc => ?_⟩
    rw [upd_ne fun z => by
      obtain ⟨o, ho, _⟩ : ∃ o, s.heap.get? c = some o ∧ True := by
        rcases List.mem_cons.mp hc with rfl | hc
        · exact ⟨_, a, trivial⟩
        · rw [List.mem_singleton.mp hc]
          obtain ⟨o, ho, _⟩ := b
          exact ⟨o, ho, trivial⟩
      have := Heap.lt_size ho
      rw [z] at this
      exact absurd up (Nat.not_le.mpr this)]
    exact (apart c hc).1
  · rintro X rfl rfl rfl calm n pins s σ H E I apart ⟨⟨old, a⟩, b, ne⟩ ⟨xs, tx, len⟩
    obtain ⟨vs, rel, isT, _⟩ := I.tuple tx
    have isT := tup_is isT
    have away : e ∉ [i, t] := fun z => by
      rcases List.mem_cons.mp z with z | z
      · exact ne z
      · exact en_ne a isT (List.mem_singleton.mp z)
    have drawn := Draws.tuple (prog := X.prog) (w := X.w) (A := X.A.in1) (I.ok.hd calm) i t (tup_ne b isT) vs.toArray
    have W := WalksT.enumerateD drawn e ne away List.mem_cons_self
    have eq : n = vs.toArray.size := by rw [← len, rel.length, List.size_toArray]
    subst eq
    exact W.done s _ E ⟨⟨old, a⟩, b, isT⟩ fun h2 tk kp => ⟨rfl, I.turnedL kp apart⟩
  · rintro A n s Q E ⟨⟨old, a⟩, _⟩ goal
    exact wpAny_pyIter_enum a goal
def iNum (K : PySem.W.Frag) (ta : TA) : TI := fun σ H R => ta σ H fun vs H1 => ∃ t xs, vs = [.ref t] ∧ SqT K H1 t xs ∧ R (ItN K t) H1
theorem pi_enumT {X : Cx} {e : Expr} {ta : TA} {p pos tpos : Pos} {es : List Expr} {kk : Nat} (g : Gl X "enumerate") (free : X.mg "enumerate" = none) (arg : PA X [e] ta) (one : starEach [e] X.env = [(false, eval e X.env)] := by rfl) :
    PI X (.Tuple es kk tpos) (.Call (.Name "enumerate" p) [e] [] pos) (iNum X.K ta) := by
  constructor
  intro pins s σ H R I had
  refine Call_ (ld_blt I g free boot_enumerate ?_)
  refine PyProof.Rows.callWith_type1 ?_ one rfl
  refine thn (arg.run pos pins s σ H _ I had) ?_
  rintro us s1 ⟨vs, H1, I1, rel, t, xs, rfl, tx, goal⟩
  obtain ⟨u, rfl, ru⟩ := vals1 rel
  cases (show u = Value.ref t from ru)
  obtain ⟨ws, _, isT, _⟩ := I1.tuple tx
  refine call_does (tup_is isT) (wpAny_pyIter_enum (made_en s1.heap t) ?_)
  have I2 : Inv X pins σ H1 { s1 with heap := made s1.heap t } := I1.kept (t' := s1.toks) fun b o q => made_old s1.heap t b o q
  refine ⟨_, _, _, _, H1, rfl, I2, turns (s1.heap.objs.size + 1) s1.heap.objs.size t, ⟨⟨.none, made_en s1.heap t⟩, ⟨_, made_it s1.heap t, rfl, rfl⟩, Nat.succ_ne_self _⟩, fun b hb => ?_, goal⟩
  have up : s1.heap.objs.size ≤ b := by
    rcases List.mem_cons.mp hb with rfl | hb
    · exact Nat.le_succ _
    · rw [List.mem_singleton.mp hb]
      exact Nat.le_refl _
  exact I1.fpOk up (I1.hok.fresh up)
theorem walk_enumT {K : PySem.W.Frag} {t : Addr} {xs : List V} : Walk (ItN K t) xs.length (fun H => SqT K H t xs) (YPair (fun n => some (.int (n : Nat))) (fun n => xs[n]?)) where
  goes := fun n _ lt q => ⟨xs, xs[n], q, List.getElem?_eq_getElem lt⟩
  stops := fun _ q => ⟨xs, q, rfl⟩
  yields := fun n _ _ _ _ q y => by
    obtain ⟨p, x, a, b, c, d⟩ := y
    exact ⟨p, .int (n : Nat), x, a, b, c, rfl, d xs q⟩
end EnT
namespace L2
open PySem PySem.Spec PyProof.Rows
/-- isinstance(e, c), e the exception that the suite holds, with a dict or without -/
def rIsS2 (K : PySem.W.Frag) (a : Addr) (cls : Value) (d : Option Addr) : List V → Hp → VK → Prop := fun xs H Q => ∃ (C : Addr) (c : V) (u : Value) (b : Bool), xs = [.ref a, c] ∧ cls = .ref C ∧ (d = none ∨ ∃ dd fs, d = some dd ∧ H dd = some (.xd fs)) ∧
  ExcC K C ∧ ClsV c u ∧ PySem.W.kitOne K (.ref C) u = some b ∧ Q (.bl b) H
theorem call_isS2 {X : Cx} {K : PySem.W.Frag} {a : Addr} {cls : Value} {d : Option Addr} {oe : Obj} {pn : List (Addr × Obj)} (hK : X.K = K) (hz : Zc cls d oe) (hf : ∃ vs, oe.data = .fields vs) : CallR (X.suite a ((a, oe) :: pn)) (.builtin "isinstance") (rIsS2 K a cls d) := by
  rintro pins s σ H _ us Q I rel ⟨C, c, u, b, rfl, rfl, kind, D, isC, ans, goal⟩
  rcases kind with rfl | ⟨dd, fs, rfl, there⟩
  · have E : CallR (X.suite a ((a, oe) :: pn)) (.builtin "isinstance") (rIsE X.K C a) := call_isE (hK ▸ D) hz hf
    exact E pins s σ H _ us Q I rel ⟨c, u, b, rfl, fun v q => isC.eq q, hK ▸ ans, goal⟩
  · exact call_isS hK hz hf pins s σ H _ us Q I rel ⟨C, dd, fs, c, u, b, rfl, rfl, rfl, there, D, isC, ans, goal⟩
theorem call_tuple_ofK {X : Cx} {K : PySem.W.Frag} (h : X.K = K) : CallR X (.type "tuple") (fun xs H Q => ∃ p ys, xs = [.ref p] ∧ ((SqL K H p ys ∧ ∀ l, H l = none → Q (.ref l) (upd H l (.tup ys))) ∨ (SqT K H p ys ∧ Q (.ref p) H))) := by
  subst h
  exact call_tuple_of
theorem call_list_ofK {X : Cx} {K : PySem.W.Frag} (h : X.K = K) : CallR X (.type "list") (fun xs H Q => ∃ p ys, xs = [.ref p] ∧ (SqL K H p ys ∨ SqT K H p ys) ∧ ∀ l, H l = none → Q (.ref l) (upd H l (.lst ys))) := by
  subst h
  exact call_list_of
end L2
namespace RZ
open PySem PySem.Spec PyProof.Rows L2
theorem walk_zipT {K : PySem.W.Frag} {a b : Addr} {xs ys : List V} {n : Nat} (hn : n = min xs.length ys.length) : Walk (ItzT K a b) n (fun H => SqT K H a xs ∧ SqT K H b ys) (YPair (fun i => xs[i]?) (fun i => ys[i]?)) where
  goes := fun i _ lt q => ⟨xs, ys, xs[i]'(by omega), ys[i]'(by omega), q.1, q.2, List.getElem?_eq_getElem _, List.getElem?_eq_getElem _⟩
  stops := fun _ q => ⟨xs, ys, q.1, q.2, by omega⟩
  yields := fun i _ _ _ _ q y => by
    obtain ⟨p, x, z, a1, a2, a3, a4, a5⟩ := y
    exact ⟨p, x, z, a1, a2, a3, a4 xs q.1, a5 ys q.2⟩
end RZ

/-! defs with a star parameter and keyword-only ones behind it, called with keywords -/
namespace StK
open PySem PySem.Spec PyProof.Rows L2 StX
/-- a def called with values and with keywords named ks, told of the values alone -/
def FnK (P : Program) (w : World) (K : PySem.W.Frag) (mg : Str → Option Value) (base : Heap) (CX : CXT) (k : Nat) (f : Addr) (ks : List Str) (sp : List V → List V → Hp → VK → XK → Prop) : Prop :=
  ∀ (A : Around) (outer : List Env) (s : Shared) (H : Hp) (us ws : List Value) (vs zs : List V) (Q : VK) (E : XK),
    Room k A → Env0 P w K mg base A outer s H → Vals vs us → Vals zs ws → zs.length = ks.length → sp vs zs H Q E →
      codeAny (model P w) A (.call (.ref f) ⟨us, ks.zip ws⟩) (CR CX outer P w H s Q E) s
section
variable {CX : CXT} {P : Program} {w : World} {K : PySem.W.Frag} {mg : Str → Option Value} {base : Heap} {k n : Nat} {f : Addr} {name qual : Str} {params : Arguments} {body : List Stmt} {scope : Scope} {dV kV doc pm cdv ct oc : Value} {an od : Option Addr}
  {osl : Array (Option Value)} {N ps ks : List Str} {sp : Sp}
theorem FnK.mono {j : Nat} {q : List V → List V → Hp → VK → XK → Prop} (F : FnK P w K mg base CX j f ks q) (h : j ≤ k) : FnK P w K mg base CX k f ks q :=
  fun A outer s H us ws vs zs Q E room => F A outer s H us ws vs zs Q E (room.mono h)
/-- def f(a, .., *v, k): n values ahead, the rest in a new tuple, each keyword written -/
theorem fn_starK {pv : Str} (at_ : K.lookup f = some ⟨oc, od, .func (PySem.W.fnOf name qual params body scope dV kV doc pm an cdv ct), osl⟩) (code : PySem.W.codeIn K cdv qual = true) (S : FnScope N (ps ++ [pv]) scope) (up : CXUp CX) (hps : ps.length = n + ks.length)
    (bind : ∀ us rest ws : List Value, us.length = n → ws.length = ks.length → bindArgs (PySem.W.fnOf name qual params body scope dV kV doc pm an cdv ct) ⟨us ++ rest, ks.zip ws⟩ = (newTuple rest >>= fun t => pure (ps.zip (us ++ ws) ++ [(pv, t)])))
    (run : ∀ (A : Around) (outer : List Env) (s : Shared) (H : Hp) (vs : List V) (Q : VK) (E : XK), Room k (A.deeper (envOfC qual scope s.heap.objs.size f cdv)) → sp vs H Q E →
      ∃ t, PSs (cxOf CX P w K mg base N qual scope f cdv A outer s H E) body t ∧ t { nx := fun _ H' => Q .non H', rt := Q } (start N vs) H) :
    FnK P w K mg base CX (k + 1) f ks (fun vs zs H Q E => ∃ hd rest, vs = hd ++ rest ∧ hd.length = n ∧ rest.length ≤ sizeLine ∧ ∀ p, H p = none → sp ((hd ++ zs) ++ [V.ref p]) (upd H p (.tup rest)) Q E) := by
  rintro A outer s H us ws vs zs Q E room env rv rz lz ⟨hd, rest, rfl, lh, small, goes⟩
  obtain ⟨u1, u2, rfl, r1, r2⟩ := vals_split rv
  have free : H s.heap.objs.size = none := env.hok.fresh (Nat.le_refl _)
  have l1 : u1.length = n := r1.length.symm.trans lh
  have lw : ws.length = ks.length := rz.length.symm.trans lz
  have few : u2.length ≤ sizeLine := by
    rw [← r2.length]
    exact small
  let here : Obj := { cls := .type "tuple", data := .seq u2.toArray }
  refine run_bnd at_ code S room env (G := fun xs G => ∃ p, H p = none ∧ xs = (hd ++ zs) ++ [V.ref p] ∧ G = upd H p (.tup rest)) (fun A' Ex Q' told => ?_) ?_
  · rw [bind u1 u2 ws l1 lw]
    refine wpAny_bind (wpAny_newTuple (wpAny_pure ?_) few)
    have laid : ObjOk P w (upd H s.heap.objs.size (.tup rest)) (s.heap.push here) s.heap.objs.size (.tup rest) := ⟨small, u2, r2, _, Heap.get?_push_size _ rfl, rfl, _, rfl⟩
    have un : Un (frs outer) [] H (upd H s.heap.objs.size (.tup rest)) s.heap (s.heap.push here) := un_laid free
    have len : ((hd ++ zs) ++ [V.ref s.heap.objs.size]).length = (ps ++ [pv]).length := by
      rw [List.length_append, List.length_append, List.length_append, lh, lz, hps]
      rfl
    have got := told _ _ ((hd ++ zs) ++ [V.ref s.heap.objs.size]) ((u1 ++ ws) ++ [Value.ref s.heap.objs.size]) (env0_laid env laid) un rfl
      (fun e s' => up outer s H _ _ E e s' un (fun b o q => Heap.get?_push_of_some _ q) rfl) ((r1.append rz).append (.cons rfl .nil)) len ⟨_, free, rfl, rfl⟩
    have cut : ps.length = (u1 ++ ws).length := by rw [List.length_append, l1, lw, hps]
    rw [List.zip_append cut] at got
    exact got
  · rintro s2 _ _ ⟨p, hp, rfl, rfl⟩ room'
    exact run A outer s2 _ _ Q E room' (goes p hp)
end
section
variable {X : Cx} {CX : CXT} {k : Nat} {f : Addr} {ks : List Str} {q : List V → List V → Hp → VK → XK → Prop} {E : XK} {x : Str} {p pos : Pos} {e : Expr} {es : List Expr} {kws : List Keyword} {t tk : TA}
def tCallFK (q : List V → List V → Hp → VK → XK → Prop) (n : Nat) (E : XK) (t tk : TA) : TE := fun σ H Q => t σ H fun vs H1 => tk σ H1 fun zs H2 => zs.length = n ∧ q vs zs H2 Q E
/-- f(e, .., k = v) of such a def -/
theorem pe_callFK (F : FnK X.prog X.w X.K X.mg X.base CX k f ks q) (room : Room k X.A) (gl : Gl X x) (there : X.mg x = some (.ref f)) (kp : PySem.W.keepIn X.K (.ref f) = true) (pass : Passes CX X E)
    (ha : PA X (e :: es) t) (hk : PK X kws tk) (each : (backToKw pos (keywordEach kws X.env)).all (·.1.isSome) = true := by rfl) (names : (backToKw pos (keywordEach kws X.env)).filterMap (·.1) = ks := by rfl)
    (nd : (x == ("__debug__" : Str)) = false := by decide) (st : starEach (e :: es) X.env = (false, eval e X.env) :: starEach es X.env := by rfl)
    (pl : ((backTo pos (starEach (e :: es) X.env)).any (·.1) || (backToKw pos (keywordEach kws X.env)).any (·.1.isNone)) = false := by rfl) :
    PE X (.Call (.Name x p) (e :: es) kws pos) (tCallFK q ks.length E t tk) := by
  refine ⟨fun pins s σ H Q I h => wpAny_Call_Name_kw (ld_glob I gl there ?_ nd)⟩
  refine PySem.W.callWith_KW (h₀ := X.base) I.ok.mod.kin kp each (thn (ha.run pos pins s σ H _ I h) ?_) pl st
  rintro us s1 ⟨vs, H1, I1, r, g1⟩
  refine thn (hk.run pos pins s1 σ H1 _ I1 g1) ?_
  rintro ws s2 ⟨zs, H2, I2, rz, lz, g2⟩
  refine ⟨I2.kIn, ?_⟩
  rw [names]
  refine wpAny_call (codeAny_mono (F X.A X.stack s2 H2 us ws vs zs Q E room I2.env0 r rz lz g2) fun out s' h' => ?_)
  match out, h' with
  | .error e, h' => exact pass pins σ H2 s2 e s' I2 h'
  | .ok (.ret u), h' => exact I2.after h'
  | .ok .next, h' => exact h'.elim
  | .ok .brk, h' => exact h'.elim
  | .ok .cont, h' => exact h'.elim
end
end StK

/-! an own object made within an except suite; a class that a local name holds, called with keywords -/
namespace MkH
open PySem PySem.Spec PyProof.Rows L2 L2H
section
variable {X : Cx} {CX : CXT} {k : Nat} {f C : Addr} {fd : FuncData} {ps : List Str} {sp : Sp} {x : Str} {p pos : Pos} {dvs : List V} {ds : List Value}
/-- C(): all that __init__ takes has defaults -/
theorem pe_make0H (M : Mk X.K C f) (F : FnH X.prog X.w X.K X.mg X.base CX k f fd ps sp) (room : RoomH (k + 1) X.A) (hot : HotC X) (b : Binds X.K fd ps ds) (d : Vals dvs ds) (pass : Passes CX X (fun _ _ _ => False)) (g : Gl X x) (m : X.mg x = some (.ref C))
    (nodebug : (x == ("__debug__" : Str)) = false := by decide) : PE X (.Call (.Name x p) [] [] pos) (tMake C sp dvs (fun _ _ _ => False) tNil) := by
  constructor
  intro pins s σ H Q I had
  obtain ⟨pn, h1, mem⟩ := hot
  refine wpAny_Call_Name_kw (ld_glob I g m ?_ nodebug)
  refine PySem.W.callWith_K0 I.kIn M.kp ?_
  have free : ∀ c, s.heap.objs.size ≤ c → H c = none := fun c le => I.hok.fresh le
  have had1 := had (s.heap.objs.size + 1) s.heap.objs.size (free _ (Nat.le_succ _)) (free _ (Nat.le_refl _)) (Nat.ne_of_lt (Nat.lt_succ_self _))
  have I2 := Inv.made I (C := C)
  have rel : Vals (V.ref (s.heap.objs.size + 1) :: ([] ++ dvs)) (Value.ref (s.heap.objs.size + 1) :: ([] ++ ds)) := .cons rfl d
  have len : ([Value.ref (s.heap.objs.size + 1)] ++ ds).length = ps.length := by
    rw [← F.len _ _ _ _ had1]
    exact rel.length.symm
  have at2 := I2.pin pn (List.mem_append_left _ mem)
  refine wpAny_call (make_map (f := f) I.kIn M.makes M.init (beq_iff_eq.mp M.fn) (codeAny_mono (F.run _ X.stack _ _ ⟨[Value.ref (s.heap.objs.size + 1)], []⟩ ([Value.ref (s.heap.objs.size + 1)] ++ ds) _ _ (fun _ _ _ => False) pn
    (RoomH.make room C [] []) ⟨h1.1, h1.2⟩ ⟨at2.1, at2.2.1, fun z => ?_, at2.2.2.2.2⟩ (I2.env0.make C [] []) (b _ [Value.ref (s.heap.objs.size + 1)] I2.kIn len) rel had1) fun r s2 told => ?_))
  · rcases List.mem_cons.mp (I2.stkSub pn.1 z) with z | z
    · exact at2.2.2.1 z
    · exact at2.2.2.2.1 z
  · match r, told with
    | .error e, told => exact pass pins σ _ _ e s2 I2 told
    | .ok (.ret u), told =>
      obtain ⟨v, H2, I3, ru, rfl, q⟩ := I2.after told
      exact ⟨ru, V.ref (s.heap.objs.size + 1), H2, I3, rfl, q⟩
    | .ok .next, told => exact told.elim
    | .ok .brk, told => exact told.elim
    | .ok .cont, told => exact told.elim
end
section
variable {X : Cx} {CX : CXT} {k i : Nat} {f C : Addr} {fd : FuncData} {ps ks : List Str} {sp : Sp} {E : XK} {x : Str} {p pos : Pos} {kws : List Keyword} {tk : TA} {gb : List Value → List Value → List Value} {gV : List V → List V → List V}
/-- the i-th slot holds the class C: name(k = v, ..) -/
def tMakeL (i : Nat) (C : Addr) (m : Nat) (sp : Sp) (gV : List V → List V → List V) (E : XK) (tk : TA) : TE := fun σ H Q => σ[i]? = some (some (.ref C)) ∧ tMakeK C 0 m sp gV E tNil tk σ H Q
theorem pe_makeL (M : Mk X.K C f) (F : FnOk X.prog X.w X.K X.mg X.base CX k f fd ps sp) (room : Room (k + 1) X.A) (at_ : X.N[i]? = some x) (vis : Vis X.env.scope x) (b : KBn X.K fd ps 1 ks gb gV) (pass : Passes CX X E) (kw : PK X kws tk)
    (hall : (backToKw pos (keywordEach kws X.env)).all (·.1.isSome) = true := by rfl) (hks : (backToKw pos (keywordEach kws X.env)).filterMap (·.1) = ks := by rfl) (d1 : (x == ("__debug__" : Str)) = false := by decide) (d2 : (x == ("__classdict__" : Str)) = false := by decide)
    (star : ((backTo pos (starEach [] X.env)).any (·.1) ||
      (backToKw pos (keywordEach kws X.env)).any (·.1.isNone)) = false := by rfl) :
    PE X (.Call (.Name x p) [] kws pos) (tMakeL i C ks.length sp gV E tk) := by
  constructor
  rintro pins s σ H Q I ⟨slot, had⟩
  refine wpAny_Call_Name_kw (thn ((pe_var (pos := p) at_ vis d1 d2).run pins s σ H (fun v G => v = .ref C ∧ G = H) I ⟨.ref C, slot, rfl, rfl⟩) ?_)
  rintro u s1 ⟨v, G, I1, rv, rfl, rfl⟩
  cases (show u = Value.ref C from rv)
  refine PySem.W.callWith_KW0 (h₀ := X.base)
    I.ok.mod.kin M.kp hall ?_ star
  refine thn (kw.run pos pins s1 σ G _ I1 had) ?_
  rintro ws s2 ⟨zs, G2, I2, rz, l1, l2, q⟩
  rw [hks]
  exact ⟨I2.kIn, run_makeK (us := []) (vs := []) M F room b pass I2 .nil rz rfl l2 q⟩
end
end MkH

/-! calls of methods that may raise: what they raise goes on -/
namespace MkS
open PySem PySem.Spec PyProof.Rows L2
section
variable {X : Cx} {CX : CXT} {k : Nat} {f C : Addr} {fd : FuncData} {ps : List Str} {sp : Sp} {E : L2.St → XK} {m : Str} {pos apos : Pos} {e o : Expr} {es : List Expr} {ta : TE} {t : TA} {pl : Sem Bool}
/-- o.m(e, ..) -/
theorem pe_methS (he : PE X o ta) (c : Cls X.K C) (hm : Meth X.K C m f) (F : FnOk X.prog X.w X.K X.mg X.base CX k f fd ps sp) (room : Room k X.A) (b : Binds X.K fd ps []) (pass : ∀ σ, PassesAt CX X σ (E σ)) (ha : PA X (e :: es) t)
    (one : starEach (e :: es) X.env = (false, eval e X.env) :: starEach es X.env := by rfl) (more : (backTo pos (starEach es X.env)).any (·.1) = false := by rfl)
    (road : eval (.Call (.Attribute o m apos) (e :: es) [] pos) X.env = (do
      let it ← eval o X.env
      standAt apos.atName
      let (fn, self) ← holding [it] (getMethod it m pl)
      callWith pos fn self (backTo pos (starEach (e :: es) X.env)) (backToKw pos (keywordEach [] X.env))) := by rfl) :
    PE X (.Call (.Attribute o m apos) (e :: es) [] pos) (L2H.tMethH C m sp E ta t) := by
  constructor
  intro pins s σ H Q I had
  refine PySem.W.methodCall_KW (pl := pl) (thn (he.run pins s σ H _ I had) ?_) road
  rintro u s1 ⟨x, H1, I1, ru, a, dx, fs, rfl, at_, no, q⟩
  cases (show u = Value.ref a from ru); skip
  refine getmeth_ok I1 at_ c hm no (PySem.W.callWith_K (first := [.ref a]) (h₀ := X.base) I.ok.mod.kin hm.kp (thn (ha.run pos pins s1 σ H1 _ I1 q) ?_) one more)
  rintro us s2 ⟨vs, H2, I2, r, q2⟩
  exact ⟨I2.kIn, run_fnS (us := .ref a :: us) (vs := .ref a :: vs) F room b (pass σ) I2 (.cons rfl r) q2⟩
end
section
variable {X : Cx} {CX : CXT} {k n : Nat} {f C : Addr} {fd : FuncData} {ps ks : List Str} {sp : Sp} {E : L2.St → XK} {x : Str} {p pos : Pos} {kws : List Keyword} {tk : TA} {gb : List Value → List Value → List Value} {gV : List V → List V → List V}
/-- a new object by keywords, its __init__ may raise -/
theorem run_makeS {pins : List (Addr × Obj)} {σ : L2.St} {H : Hp} {s : Shared} {Q : VK} {ws : List Value} {zs : List V} (M : Mk X.K C f) (F : FnOk X.prog X.w X.K X.mg X.base CX k f fd ps sp) (room : Room (k + 1) X.A) (b : KBn X.K fd ps 1 ks gb gV) (pass : PassesAt CX X σ (E σ))
    (I : Inv X pins σ H s) (rz : Vals zs ws) (lz : zs.length = ks.length)
    (had : ∀ c dx, H c = none → H dx = none → dx ≠ c → sp (gV [.ref c] zs) (upd (upd H dx (.own c)) c (.ins C dx [])) (fun v G => v = .non ∧ Q (.ref c) G) (E σ)) :
    wpAny (model X.prog X.w) X.A (call (.ref C) [] (ks.zip ws)) (EP X pins σ Q) X.xe s := by
  have free : ∀ c, s.heap.objs.size ≤ c → H c = none := fun c le => I.hok.fresh le
  have had1 := had (s.heap.objs.size + 1) s.heap.objs.size (free _ (Nat.le_succ _)) (free _ (Nat.le_refl _)) (Nat.ne_of_lt (Nat.lt_succ_self _))
  have I2 := Inv.made I (C := C)
  have self : Vals [V.ref (s.heap.objs.size + 1)] [Value.ref (s.heap.objs.size + 1)] := .cons rfl .nil
  refine wpAny_call (make_map (f := f) I.kIn M.makes M.init (beq_iff_eq.mp M.fn) (codeAny_mono (F.run _ X.stack _ _ ⟨[Value.ref (s.heap.objs.size + 1)], ks.zip ws⟩ (gb [Value.ref (s.heap.objs.size + 1)] ws) _ _ (E σ) (room.make C [] (ks.zip ws))
    (I2.env0.make C [] (ks.zip ws)) (b.to _ _ ws I2.kIn rfl (rz.length.symm.trans lz)) (b.rel self rz) had1) fun r s2 told => ?_))
  match r, told with
  | .error e, told => exact pass pins _ _ e s2 I2 told
  | .ok (.ret u), told =>
    obtain ⟨v, G, I3, ru, rfl, q⟩ := I2.after told
    exact ⟨ru, V.ref (s.heap.objs.size + 1), G, I3, rfl, q⟩
  | .ok .next, told => exact told.elim
  | .ok .brk, told => exact told.elim
  | .ok .cont, told => exact told.elim
/-- C(k = v, ..) -/
def tMakeS (C : Addr) (m : Nat) (sp : Sp) (gV : List V → List V → List V) (E : L2.St → XK) (tk : TA) : TE := fun σ H Q => tk σ H fun zs G => zs.length = m ∧ ∀ c dx, G c = none → G dx = none → dx ≠ c →
  sp (gV [.ref c] zs) (upd (upd G dx (.own c)) c (.ins C dx [])) (fun v G2 => v = .non ∧ Q (.ref c) G2) (E σ)
theorem pe_makeS (M : Mk X.K C f) (F : FnOk X.prog X.w X.K X.mg X.base CX k f fd ps sp) (room : Room (k + 1) X.A) (g : Gl X x) (m : X.mg x = some (.ref C)) (b : KBn X.K fd ps 1 ks gb gV) (pass : ∀ σ, PassesAt CX X σ (E σ)) (kw : PK X kws tk)
    (hall : (backToKw pos (keywordEach kws X.env)).all (·.1.isSome) = true := by rfl) (hks : (backToKw pos (keywordEach kws X.env)).filterMap (·.1) = ks := by rfl) (nodebug : (x == ("__debug__" : Str)) = false := by decide)
    (star : ((backTo pos (starEach [] X.env)).any (·.1) ||
      (backToKw pos (keywordEach kws X.env)).any (·.1.isNone)) = false := by rfl) :
    PE X (.Call (.Name x p) [] kws pos) (tMakeS C ks.length sp gV E tk) := by
  constructor
  intro pins s σ H Q I had
  refine wpAny_Call_Name_kw (ld_glob I g m ?_ nodebug)
  refine PySem.W.callWith_KW0 (h₀ := X.base) I.ok.mod.kin M.kp hall (thn (kw.run pos pins s σ H _ I had) ?_) star
  rintro ws s2 ⟨zs, G2, I2, rz, lz, q⟩
  rw [hks]
  exact ⟨I2.kIn, run_makeS M F room b (pass σ) I2 rz lz q⟩
end
end MkS

/-! a call of a class method that may raise -/
namespace MkS
open PySem PySem.Spec PyProof.Rows L2 ClX
section
variable {X : Cx} {CX : CXT} {k : Nat} {C p g : Addr} {mc : Value} {fd : FuncData} {ps : List Str} {sp : Sp} {E : L2.St → XK} {m : Str} {pos apos : Pos} {o e : Expr} {es : List Expr} {to : TE} {t : TA} {pl : Sem Bool}
def tCMethS (C : Addr) (sp : Sp) (E : L2.St → XK) (to : TE) (t : TA) : TE := fun σ H Q => to σ H fun x G => x = .ref C ∧ t σ G fun zs G2 => sp (.ref C :: zs) G2 Q (E σ)
/-- K.m(e, ..) -/
theorem pe_cmethS (he : PE X o to) (r : CRead X.K C mc) (c : CMet X.K C mc m p g) (F : FnOk X.prog X.w X.K X.mg X.base CX k g fd ps sp) (room : Room k X.A) (b : Binds X.K fd ps []) (pass : ∀ σ, PassesAt CX X σ (E σ)) (ha : PA X (e :: es) t)
    (one : starEach (e :: es) X.env = (false, eval e X.env) :: starEach es X.env := by rfl) (more : (backTo pos (starEach es X.env)).any (·.1) = false := by rfl)
    (road : eval (.Call (.Attribute o m apos) (e :: es) [] pos) X.env = (do
      let it ← eval o X.env
      standAt apos.atName
      let (fn, self) ← holding [it] (getMethod it m pl)
      callWith pos fn self (backTo pos (starEach (e :: es) X.env)) (backToKw pos (keywordEach [] X.env))) := by rfl) :
    PE X (.Call (.Attribute o m apos) (e :: es) [] pos) (tCMethS C sp E to t) := by
  constructor
  intro pins s σ H Q I had
  refine PySem.W.methodCall_KW (pl := pl) (thn (he.run pins s σ H _ I had) ?_) road
  rintro u s1 ⟨x, G, I1, ru, rfl, q⟩
  cases (show u = Value.ref C from ru)
  refine getmethcm_ok I1 r c ?_
  intro s2 I2
  refine callwith_cm I2 (base_none I1 (Nat.le_refl _)) c.fi (thn (ha.run pos _ s2 σ G _ I2 q) ?_) one more
  rintro us s3 ⟨zs, G2, I3, rz, q2⟩
  refine ⟨⟨pin_at I3, I3.kIn⟩, ?_⟩
  have both : Vals (V.ref C :: zs) (Value.ref C :: us) := .cons rfl rz
  have len : (Value.ref C :: us).length = ps.length := both.length.symm.trans (F.len _ _ _ _ q2)
  have args := b s3 (.ref C :: us) I3.kIn (by rw [List.append_nil]; exact len)
  rw [List.append_nil] at args
  have z : wpAny (model X.prog X.w) X.A (call (.ref s1.heap.objs.size) us) (EP X ((s1.heap.objs.size, PySem.W.methodObj (.ref g) (.ref C)) :: pins) σ Q) X.xe s3 := by
    refine wpAny_call (PySem.W.method_call (pin_at I3) (codeAny_mono (F.run X.A X.stack s3 G2 ⟨.ref C :: us, []⟩ (.ref C :: us) (.ref C :: zs) Q (E σ) room I3.env0 args both q2) ?_))
    intro r s4 told
    match r, told with
    | .error e, told => exact pass σ _ _ _ e s4 I3 told
    | .ok (.ret u), told => exact I3.after told
    | .ok .next, told => exact told.elim
    | .ok .brk, told => exact told.elim
    | .ok .cont, told => exact told.elim
  exact thn z fun _ _ told => unpinE told
end
end MkS

/-! more calls that may raise: a method without arguments, a class in a local name; a def with defaults where an exception is handled -/
namespace MkS
open PySem PySem.Spec PyProof.Rows L2
section
variable {X : Cx} {CX : CXT} {k : Nat} {f C : Addr} {fd : FuncData} {ps : List Str} {sp : Sp} {E : L2.St → XK} {m : Str} {pos apos : Pos} {o : Expr} {ta : TE} {pl : Sem Bool}
/-- o.m() -/
def tMethS0 (C : Addr) (m : Str) (sp : Sp) (E : L2.St → XK) (ta : TE) : TE := fun σ H Q => ta σ H fun x H1 => ∃ a dx fs, x = .ref a ∧ H1 a = some (.ins C dx fs) ∧ fs.lookup m = none ∧ sp [.ref a] H1 Q (E σ)
theorem pe_methS0 (he : PE X o ta) (c : Cls X.K C) (hm : Meth X.K C m f) (F : FnOk X.prog X.w X.K X.mg X.base CX k f fd ps sp) (room : Room k X.A) (b : Binds X.K fd ps []) (pass : ∀ σ, PassesAt CX X σ (E σ))
    (road : eval (.Call (.Attribute o m apos) [] [] pos) X.env = (do
      let it ← eval o X.env
      standAt apos.atName
      let (fn, self) ← holding [it] (getMethod it m pl)
      callWith pos fn self (backTo pos (starEach [] X.env)) (backToKw pos (keywordEach [] X.env))) := by rfl) :
    PE X (.Call (.Attribute o m apos) [] [] pos) (tMethS0 C m sp E ta) := by
  constructor
  intro pins s σ H Q I had
  refine PySem.W.methodCall_KW (pl := pl) (thn (he.run pins s σ H _ I had) ?_) road
  rintro u s1 ⟨x, H1, I1, ru, a, dx, fs, rfl, at_, no, q⟩
  cases (show u = Value.ref a from ru); skip
  refine getmeth_ok I1 at_ c hm no (PySem.W.callWith_K0 (first := [.ref a]) I1.kIn hm.kp ?_)
  exact run_fnS (us := [.ref a]) (vs := [.ref a]) F room b (pass σ) I1 (.cons rfl .nil) q
end
section
variable {X : Cx} {CX : CXT} {k i : Nat} {f C : Addr} {fd : FuncData} {ps ks : List Str} {sp : Sp} {E : L2.St → XK} {x : Str} {p pos : Pos} {kws : List Keyword} {tk : TA} {gb : List Value → List Value → List Value} {gV : List V → List V → List V}
/-- the i-th slot holds the class C: name(k = v, ..), its __init__ may raise -/
def tMakeLS (i : Nat) (C : Addr) (m : Nat) (sp : Sp) (gV : List V → List V → List V) (E : L2.St → XK) (tk : TA) : TE := fun σ H Q => σ[i]? = some (some (.ref C)) ∧ tMakeS C m sp gV E tk σ H Q
theorem pe_makeLS (M : Mk X.K C f) (F : FnOk X.prog X.w X.K X.mg X.base CX k f fd ps sp) (room : Room (k + 1) X.A) (at_ : X.N[i]? = some x) (vis : Vis X.env.scope x) (b : KBn X.K fd ps 1 ks gb gV) (pass : ∀ σ, PassesAt CX X σ (E σ)) (kw : PK X kws tk)
    (hall : (backToKw pos (keywordEach kws X.env)).all (·.1.isSome) = true := by rfl) (hks : (backToKw pos (keywordEach kws X.env)).filterMap (·.1) = ks := by rfl) (d1 : (x == ("__debug__" : Str)) = false := by decide) (d2 : (x == ("__classdict__" : Str)) = false := by decide)
    (star : ((backTo pos (starEach [] X.env)).any (·.1) ||
      (backToKw pos (keywordEach kws X.env)).any (·.1.isNone)) = false := by rfl) :
    PE X (.Call (.Name x p) [] kws pos) (tMakeLS i C ks.length sp gV E tk) := by
  constructor
  rintro pins s σ H Q I ⟨slot, had⟩
  refine wpAny_Call_Name_kw (thn ((pe_var (pos := p) at_ vis d1 d2).run pins s σ H (fun v G => v = .ref C ∧ G = H) I ⟨.ref C, slot, rfl, rfl⟩) ?_)
  rintro u s1 ⟨v, G, I1, rv, rfl, rfl⟩
  cases (show u = Value.ref C from rv)
  refine PySem.W.callWith_KW0 (h₀ := X.base)
    I.ok.mod.kin M.kp hall ?_ star
  refine thn (kw.run pos pins s1 σ G _ I1 had) ?_
  rintro ws s2 ⟨zs, G2, I2, rz, lz, q⟩
  rw [hks]
  exact ⟨I2.kIn, run_makeS M F room b (pass σ) I2 rz lz q⟩
end
end MkS
namespace L2
open PySem PySem.Spec PyProof.Rows
section
variable {P : Program} {w : World} {K : PySem.W.Frag} {mg : Str → Option Value} {base : Heap}
/-- a def with defaults called where an exception is handled, lets none out -/
theorem FunD.okH {x qual : Str} {params : Arguments} {body : List Stmt} {scope : Scope} {dvs : List V} {kws : List (Str × V)} {f : Addr} {fd : FuncData} {N ps : List Str} {k : Nat} {sp : Sp} (F : FunD K x qual params body scope dvs kws f fd) (S : FnScope N ps scope) (len : ∀ vs H Q E, sp vs H Q E → vs.length = ps.length)
    (walk : ∀ (cdv : Value) (A : Around) (outer : List Env) (s : Shared) (H : Hp) (vs : List V) (Q : VK) (E : XK) (p : Addr × Obj), L2H.Hot1 A p → L2H.RoomH k (A.deeper (envOfC qual scope s.heap.objs.size f cdv)) → sp vs H Q E →
      ∃ t, PSs (L2H.cxH CX0 P w K mg base N qual scope f cdv A outer s H E p).nox body t ∧ t { nx := fun _ H' => Q .non H', rt := Q } (start N vs) H) : L2H.FnH P w K mg base CX0 (k + 1) f fd ps sp := by
  obtain ⟨oc, od, dV, kV, doc, pm, an, cdv, ct, osl, rfl, lk, hcd, _, _⟩ := F.ex
  refine L2H.fn_ofH lk hcd S len fun A outer s H vs Q E p hot hr hsp => ?_
  obtain ⟨t, h, q⟩ := walk cdv A outer s H vs Q E p hot hr hsp
  exact ⟨t, h.nox, q⟩
/-- no keyword written: as if called by position with the defaults -/
theorem KBn.binds {fd : FuncData} {ps : List Str} {gb : List Value → List Value → List Value} {gV : List V → List V → List V} {ds : List Value} (b : KBn K fd ps 1 [] gb gV) (h : ∀ u, gb [u] [] = u :: ds) (hl : ps.length = ds.length + 1) : Binds K fd ps ds := by
  intro s us X l
  have e : us.length = 1 := by
    rw [List.length_append] at l
    omega
  match us, e with
  | [u], _ =>
    have z := b.to s [u] [] X rfl rfl
    rw [h u] at z
    exact z
end
end L2
namespace L2
open PySem PySem.Spec PyProof.Rows
theorem ix_kdictK {X : Cx} {K : PySem.W.Frag} {w : World} (h : X.K = K) (hw : X.w = w) : IxR X (rIxD K w) := by
  subst h
  subst hw
  exact ix_kdict
end L2
namespace L2
open PySem PySem.Spec PyProof.Rows
theorem pe_fldK {X : Cx} {K : PySem.W.Frag} {e : Expr} {f : Str} {pos : Pos} {ta : TE} (h : X.K = K) (it : PE X e ta) (hb : attributeBase e f X.env (eval e X.env) = eval e X.env) : PE X (.Attribute e f pos) (tFld K ta f) := by
  subst h
  exact pe_fld it hb
end L2

/-! == and repr of an instance with its own __eq__, __repr__ -/
namespace OwI
open PySem PySem.Spec PyProof.Rows L2
theorem stands {X : Cx} {pins : List (Addr × Obj)} {σ : L2.St} {H : Hp} {s : Shared} {a C dx : Addr} {fs : List (Str × V)} (I : Inv X pins σ H s) (e : H a = some (.ins C dx fs)) : ∃ o od, PySem.W.InstAt s.heap a o C (some od) := by
  obtain ⟨mA, O, _⟩ := ins_get I.hok e
  obtain ⟨od, J, _⟩ := O.look
  exact ⟨_, od, J⟩
/-- x op y, x an instance of the class at C whose def for op is at g, y an instance of the same class -/
def rOwnI (K : PySem.W.Frag) (C : Addr) (sp : Sp) (E : XK) : R2 := fun x y H Q => ∃ a dx fs b dy gs, x = .ref a ∧ y = .ref b ∧ H a = some (.ins C dx fs) ∧ H b = some (.ins C dy gs) ∧ PySem.W.notFirst K C (.ref C) = true ∧ sp [x, y] H Q E
section
variable {X : Cx} {CX : CXT} {C g : Addr} {n : Nat} {sp : Sp} {E : XK}
theorem op_ownI {op : CmpOp} (road : ∀ a b, compareOp op a b = richCompare op a b) (own : PySem.W.findIn X.K (.ref C) (cmpInfo op).2.1 = some (some (.ref g))) (isf : PySem.W.isFn X.K (.ref g) = true) (F : FnR X.prog X.w X.K X.mg X.base CX n g sp)
    (room : Room n X.A) (pass : Passes CX X E) : OpR X (compareOp op) (rOwnI X.K C sp E) := by
  rintro pins s σ H _ _ v u Q I rv ru ⟨a, dx, fs, b, dy, gs, rfl, rfl, ha, hb, nf, had⟩
  cases (show v = Value.ref a from rv)
  cases (show u = Value.ref b from ru)
  obtain ⟨o, od, J⟩ := stands I ha
  obtain ⟨o2, od2, J2⟩ := stands I hb
  obtain ⟨m, fr⟩ := I.fr
  rw [road]
  refine PySem.W.cmp_K (op := op) (tb := .ref C) room.units0 fr I.ok.mod.kin J J2.type nf own isf ?_
  refine wpAny_mono (wpAny_call (run_fnR (us := [.ref a, .ref b]) (vs := [.ref a, .ref b]) F room pass I (.cons rfl (.cons rfl .nil)) had)) ?_ fun _ _ z => z
  rintro w z ⟨y, G, I2, ry, q⟩
  exact SlX.cmpback ry ⟨y, G, I2, ry, q⟩
/-- repr(x), x an instance of the class at C with its own __repr__ at g -/
def rReprI (C : Addr) (sp : Sp) (E : XK) : List V → Hp → VK → Prop := fun xs H Q => ∃ a dx fs, xs = [.ref a] ∧ H a = some (.ins C dx fs) ∧ sp [.ref a] H (fun y G => ∃ t : Str, y = .str t ∧ Q y G) E
theorem call_reprI (own : PySem.W.findIn X.K (.ref C) "__repr__" = some (some (.ref g))) (isf : PySem.W.isFn X.K (.ref g) = true) (F : FnR X.prog X.w X.K X.mg X.base CX n g sp) (room : Room (n + 1) X.A) (pass : Passes CX X E) : CallR X (.builtin "repr") (rReprI C sp E) := by
  rintro pins s σ H _ us Q I rel ⟨a, dx, fs, rfl, ha, had⟩
  obtain ⟨u, rfl, ru⟩ := vals1 rel
  cases (show u = Value.ref a from ru); skip
  obtain ⟨o, od, J⟩ := stands I ha
  obtain ⟨m, fr⟩ := I.fr
  have room1 : Room n X.A.in1 := Room.in1 room
  refine PySem.W.repr_K room1.units0 fr I.ok.mod.kin J own isf ?_
  refine wpAny_mono (wpAny_call (SlX.run_at (us := [.ref a]) (ws := [.ref a]) F room1 I.env0.in1 pass I (.cons rfl .nil) had)) ?_ fun _ _ z => z
  rintro w z ⟨y, G, I2, ry, t, rfl, q⟩
  obtain ⟨tk, rfl⟩ := (show ∃ tk, w = Value.str t tk from ry)
  exact ⟨.str t, G, I2, ⟨tk, rfl⟩, q⟩
end
end OwI

namespace Pv
open PySem L2
/-! ### error classes -/
def veM (M : Addr) : List Value := [.ref M, .type "ValueError", .type "Exception", .type "BaseException", .type "object"]
structure ErrK (K : PySem.W.Frag) (mg : Str → Option Value) (M C : Addr) (x : Str) : Prop where
  g : mg x = some (.ref C)
  k : PySem.W.keepIn K (.ref C) = true
  l : ∃ nm q N bs sn sub ab col dd k0 k1 k2 k3 k5, K.lookup C = some (excClassObj nm q C N bs (veM M) true sn sub ab col dd k0 k1 k2 k3 k5 "ValueError.__new__")
  sa : PySem.W.findIn K (.ref C) "__setattr__" = some (some (.builtin "object.__setattr__"))
  ga : PySem.W.findIn K (.ref C) "__getattribute__" = some (some (.builtin "BaseException.__getattribute__"))
  gg : PySem.W.findIn K (.ref C) "__getattr__" = some none
  ca : PySem.W.findIn K (.ref C) "__class__" = some (some (.builtin "object.__class__"))
structure ErrM (K : PySem.W.Frag) (mg : Str → Option Value) (M : Addr) : Prop where
  g : mg "MendError" = some (.ref M)
  l : ∃ nm q N bs bm sn sub ab col dd k0 k1 k2 k3 k5, K.lookup M = some (excClassObj nm q M N bs bm true sn sub ab col dd k0 k1 k2 k3 k5 "ValueError.__new__")
structure ErrF (K : PySem.W.Frag) (C I : Addr) (qual f : Str) (st : Stmt) : Prop where
  i : PySem.W.findIn K (.ref C) "__init__" = some (some (.ref I))
  t : PySem.W.typeIn K (.ref I) = some (.type "function")
  nf : PySem.W.findIn K (.ref C) f = some none
  fn : ∃ fd, Fun K "__init__" qual st I fd
section
variable {K : PySem.W.Frag} {mg : Str → Option Value} {M C D : Addr} {x : Str}
theorem ErrK.ty (E : ErrK K mg M C x) : PySem.W.typeIn K (.ref C) = some (.type "type") := by
  obtain ⟨nm, q, N, bs, sn, sub, ab, col, dd, k0, k1, k2, k3, k5, h⟩ := E.l
  show (K.lookup C).map (·.cls) = _
  rw [h]
  rfl
theorem ErrM.ty (E : ErrM K mg M) : PySem.W.typeIn K (.ref M) = some (.type "type") := by
  obtain ⟨nm, q, N, bs, bm, sn, sub, ab, col, dd, k0, k1, k2, k3, k5, h⟩ := E.l
  show (K.lookup M).map (·.cls) = _
  rw [h]
  rfl
theorem ErrM.cls (E : ErrM K mg M) : (PySem.W.clsIn K M).isSome = true := by
  obtain ⟨nm, q, N, bs, bm, sn, sub, ab, col, dd, k0, k1, k2, k3, k5, h⟩ := E.l
  unfold PySem.W.clsIn
  rw [h]
  rfl
theorem ErrK.mro (E : ErrK K mg M C x) (v : Value) : PySem.W.mroIn K C v = some ((Value.ref C :: veM M).contains v) := by
  obtain ⟨nm, q, N, bs, sn, sub, ab, col, dd, k0, k1, k2, k3, k5, h⟩ := E.l
  unfold PySem.W.mroIn PySem.W.clsIn
  rw [h]
  rfl
theorem ErrK.cls (E : ErrK K mg M C x) : (PySem.W.clsIn K C).isSome = true := by
  obtain ⟨nm, q, N, bs, sn, sub, ab, col, dd, k0, k1, k2, k3, k5, h⟩ := E.l
  unfold PySem.W.clsIn
  rw [h]
  rfl
theorem ErrK.hd (E : ErrK K mg M C x) : PySem.W.hasDictIn K C = true := by
  obtain ⟨nm, q, N, bs, sn, sub, ab, col, dd, k0, k1, k2, k3, k5, h⟩ := E.l
  unfold PySem.W.hasDictIn PySem.W.clsIn
  rw [h]
  rfl
theorem ErrK.sub (E : ErrK K mg M C x) : PySem.W.subIn K (.ref C) (.type "BaseException") = some true := by
  show PySem.W.mroIn K C _ = _
  rw [E.mro]
  simp [veM]
theorem ErrK.xfc (E : ErrK K mg M C x) : XfC K C := ⟨E.ga, E.gg, E.sub, E.hd⟩
theorem ErrK.oex (E : ErrK K mg M C x) : OexC K C := by
  obtain ⟨nm, q, N, bs, sn, sub, ab, col, dd, k0, k1, k2, k3, k5, h⟩ := E.l
  exact ⟨⟨nm, q, N, bs, veM M, sn, sub, ab, col, dd, k0, k1, k2, k3, k5, h, rfl⟩, E.sa, E.sub, E.ty, E.k⟩
theorem ErrK.exc (E : ErrK K mg M C x) (cn : PySem.W.specialIn K (.builtin "object.__class__") "__get__" = some (some (.builtin "getset_descriptor.__get__"))) (ct : PySem.W.takesIn K (.builtin "object.__class__") = some true) : ExcC K C :=
  ⟨E.ga, E.gg, E.sub, E.hd, E.ca, cn, ct, by rw [E.mro]; simp [veM]⟩
theorem kitCls_ref {t : Value} (h1 : (PySem.W.clsIn K D).isSome = true) (h2 : PySem.W.typeIn K (.ref D) = some (.type "type")) : PySem.W.kitCls K t (.ref D) = PySem.W.subIn K t (.ref D) := by
  show (if ((PySem.W.clsIn K D).isSome && PySem.W.typeIn K (.ref D) == some (.type "type")) = true then PySem.W.subIn K t (.ref D) else none) = _
  rw [h1, h2, if_pos (by simp)]
/-- isinstance against the class itself, its base, ValueError, another class -/
theorem kit_self : PySem.W.kitOne K (.ref C) (.ref C) = some true := by
  unfold PySem.W.kitOne
  rw [if_pos (by simp)]
theorem ErrK.kit_ne {y : Str} (E : ErrK K mg M C x) (F : ErrK K mg M D y) (h : C ≠ D) (hM : M ≠ D) : PySem.W.kitOne K (.ref C) (.ref D) = some false := by
  unfold PySem.W.kitOne
  rw [if_neg (by simp [h])]
  rw [kitCls_ref F.cls F.ty]
  show PySem.W.mroIn K C _ = _
  rw [E.mro]
  have h1 : D ≠ C := fun z => h z.symm
  have h2 : D ≠ M := fun z => hM z.symm
  simp [veM, h1, h2]
theorem ErrK.kit_base (E : ErrK K mg M C x) (F : ErrM K mg M) (h : C ≠ M) : PySem.W.kitOne K (.ref C) (.ref M) = some true := by
  unfold PySem.W.kitOne
  rw [if_neg (by simp [h])]
  rw [kitCls_ref F.cls F.ty]
  show PySem.W.mroIn K C _ = _
  rw [E.mro]
  simp [veM]
theorem ErrK.kit_ve (E : ErrK K mg M C x) : PySem.W.kitOne K (.ref C) (.type "ValueError") = some true := by
  unfold PySem.W.kitOne
  rw [if_neg (by simp)]
  unfold PySem.W.kitCls
  show (if PySem.W.kitMeta "ValueError" = true then PySem.W.mroIn K C (.type "ValueError") else none) = _
  rw [if_pos (by decide +kernel), E.mro]
  simp [veM]
theorem ErrK.exm (E : ErrK K mg M C x) : PySem.W.exmOne K (.ref C) (.ref C) = some true := by
  unfold PySem.W.exmOne
  rw [E.sub, if_pos (by simp)]
  rw [kitCls_ref E.cls E.ty]
  show PySem.W.mroIn K C _ = _
  rw [E.mro]
  simp
theorem ErrK.exm_ne {y : Str} (E : ErrK K mg M C x) (F : ErrK K mg M D y) (h : C ≠ D) (hM : M ≠ D) : PySem.W.exmOne K (.ref C) (.ref D) = some false := by
  unfold PySem.W.exmOne
  rw [F.sub, if_pos (by simp)]
  rw [kitCls_ref F.cls F.ty]
  show PySem.W.mroIn K C _ = _
  rw [E.mro]
  have h1 : D ≠ C := fun z => h z.symm
  have h2 : D ≠ M := fun z => hM z.symm
  simp [veM, h1, h2]
end
def word : Nat → Str
  | 0 => "free" | 1 => "pair" | 2 => "claim" | 3 => "hook" | 4 => "relay" | 5 => "clamp" | 6 => "trail" | _ => "wheel"
def wordsV : List V := [.str "free", .str "pair", .str "claim", .str "hook", .str "relay", .str "clamp", .str "trail", .str "wheel"]
def formsT : List (List Nat × Str) := [([0], "free"), ([1, 0], "pair"), ([1, 1], "claim"), ([1, 2, 1], "hook"), ([1, 2, 2], "relay"), ([1, 2, 1, 2], "clamp"), ([1, 2, 3, 2], "trail"), ([1, 2, 3, 0], "wheel")]
/-- a def with its promise: how it binds, too -/
def Okd (P : Program) (w : World) (K : PySem.W.Frag) (mg : Str → Option Value) (base : Heap) (CX : CXT) (k : Nat) (f : Addr) (ps : List Str) (sp : Sp) : Prop := ∃ fd, FnOk P w K mg base CX k f fd ps sp ∧ Binds K fd ps []
/-- a def called where an exception is handled, with its promise -/
def Okh (P : Program) (w : World) (K : PySem.W.Frag) (mg : Str → Option Value) (base : Heap) (CX : CXT) (k : Nat) (f : Addr) (ps : List Str) (sp : Sp) : Prop := ∃ fd, L2H.FnH P w K mg base CX k f fd ps sp ∧ Binds K fd ps []
/-! ### the text -/
def top (i : Nat) : Stmt := PySem.Challenge.pw_peermend_k08_kinds_and_samples.main.body.getD i (.Pass ⟨0, 0, 0, 0⟩)
abbrev s_check_image : Stmt := top 11
abbrev s_check_state : Stmt := top 12
abbrev s_check_pair : Stmt := top 13
abbrev s_check_kind : Stmt := top 15
abbrev s_parts : Stmt := top 16
abbrev s_kind_of : Stmt := top 17
abbrev s_reverse_kind : Stmt := top 18
abbrev s_sample_rows : Stmt := top 19
abbrev s_is_entry : Stmt := top 20
abbrev s_part_of : Stmt := top 21
abbrev s_walk : Stmt := top 22
abbrev s_gain : Stmt := top 23
abbrev s_paired : Stmt := top 24
abbrev s_m_init : Stmt := inClass (top 26) 0
abbrev s_m_kind : Stmt := inClass (top 26) 2
abbrev s_sample : Stmt := top 27
abbrev s_law_mix : Stmt := top 30
abbrev s_law_box : Stmt := top 31
abbrev s_law_draw : Stmt := top 32
abbrev s_law_whole : Stmt := top 33
abbrev s_law_row : Stmt := top 34
abbrev s_law_kind_told : Stmt := top 35
abbrev s_law_ascending : Stmt := top 36
abbrev s_law_entry : Stmt := top 37
abbrev s_law_entries : Stmt := top 38
abbrev s_law_strange : Stmt := top 39
abbrev s_law_bent : Stmt := top 40
abbrev s_law_good_entry : Stmt := top 41
abbrev s_law_valid : Stmt := top 42
abbrev s_law_sample_due : Stmt := top 43
abbrev s_law_reversed : Stmt := top 44
abbrev s_law_kept : Stmt := top 45
abbrev s_law_call : Stmt := top 46
abbrev s_law_refused : Stmt := top 47
abbrev s_law_judged : Stmt := top 48
abbrev s_law : Stmt := top 49
abbrev s_InvalidImage : Stmt := inClass (top 3) 0
abbrev s_NotState : Stmt := inClass (top 4) 0
structure Ad where
  check_image : Addr
  check_state : Addr
  check_pair : Addr
  check_kind : Addr
  parts : Addr
  kind_of : Addr
  reverse_kind : Addr
  sample_rows : Addr
  is_entry : Addr
  part_of : Addr
  walk : Addr
  gain : Addr
  paired : Addr
  m_init : Addr
  m_kind : Addr
  sample : Addr
  law_mix : Addr
  law_box : Addr
  law_draw : Addr
  law_whole : Addr
  law_row : Addr
  law_kind_told : Addr
  law_ascending : Addr
  law_entry : Addr
  law_entries : Addr
  law_strange : Addr
  law_bent : Addr
  law_good_entry : Addr
  law_valid : Addr
  law_sample_due : Addr
  law_reversed : Addr
  law_kept : Addr
  law_call : Addr
  law_refused : Addr
  law_judged : Addr
  law : Addr
  MendError : Addr
  InvalidImage : Addr
  NotState : Addr
  UnequalSizes : Addr
  InvalidKind : Addr
  InvalidChange : Addr
  i_InvalidImage : Addr
  i_NotState : Addr
  Update : Addr
  p_kind : Addr
abbrev N_check_image : List Str := ["image", "size", "record", "name"]
abbrev P_check_image : List Str := ["image"]
theorem sc_check_image : FnScope N_check_image P_check_image (defScope s_check_image) := ⟨rfl, rfl, rfl, by decide +kernel, rfl, by decide +kernel, by decide +kernel⟩
abbrev N_check_state : List Str := ["state", "record", "name"]
abbrev P_check_state : List Str := ["state"]
theorem sc_check_state : FnScope N_check_state P_check_state (defScope s_check_state) := ⟨rfl, rfl, rfl, by decide +kernel, rfl, by decide +kernel, by decide +kernel⟩
abbrev N_check_pair : List Str := ["first", "second"]
abbrev P_check_pair : List Str := ["first", "second"]
theorem sc_check_pair : FnScope N_check_pair P_check_pair (defScope s_check_pair) := ⟨rfl, rfl, rfl, by decide +kernel, rfl, by decide +kernel, by decide +kernel⟩
abbrev N_check_kind : List Str := ["kind", "entry"]
abbrev P_check_kind : List Str := ["kind"]
theorem sc_check_kind : FnScope N_check_kind P_check_kind (defScope s_check_kind) := ⟨rfl, rfl, rfl, by decide +kernel, rfl, by decide +kernel, by decide +kernel⟩
abbrev N_parts : List Str := ["before", "after", "found", "seen", "record", "name", "part"]
abbrev P_parts : List Str := ["before", "after"]
theorem sc_parts : FnScope N_parts P_parts (defScope s_parts) := ⟨rfl, rfl, rfl, by decide +kernel, rfl, by decide +kernel, by decide +kernel⟩
abbrev N_kind_of : List Str := ["before", "after", "found", "entries", "row", "shape"]
abbrev P_kind_of : List Str := ["before", "after"]
theorem sc_kind_of : FnScope N_kind_of P_kind_of (defScope s_kind_of) := ⟨rfl, rfl, rfl, by decide +kernel, rfl, by decide +kernel, by decide +kernel⟩
abbrev N_reverse_kind : List Str := ["kind", "gain", "length", "shape"]
abbrev P_reverse_kind : List Str := ["kind"]
theorem sc_reverse_kind : FnScope N_reverse_kind P_reverse_kind (defScope s_reverse_kind) := ⟨rfl, rfl, rfl, by decide +kernel, rfl, by decide +kernel, by decide +kernel⟩
abbrev N_sample_rows : List Str := ["kind", "before", "after", "shape", "length", "gain", "start", "first", "second"]
abbrev P_sample_rows : List Str := ["kind"]
theorem sc_sample_rows : FnScope N_sample_rows P_sample_rows (defScope s_sample_rows) := ⟨rfl, rfl, rfl, by decide +kernel, rfl, by decide +kernel, by decide +kernel⟩
abbrev N_is_entry : List Str := ["entry", "shape", "length", "gain"]
abbrev P_is_entry : List Str := ["entry"]
theorem sc_is_entry : FnScope N_is_entry P_is_entry (defScope s_is_entry) := ⟨rfl, rfl, rfl, by decide +kernel, rfl, by decide +kernel, by decide +kernel⟩
abbrev N_part_of : List Str := ["before", "after", "least", "row", "back"]
abbrev P_part_of : List Str := ["before", "after", "least"]
theorem sc_part_of : FnScope N_part_of P_part_of (defScope s_part_of) := ⟨rfl, rfl, rfl, by decide +kernel, rfl, by decide +kernel, by decide +kernel⟩
abbrev N_walk : List Str := ["first", "second", "start", "row", "here"]
abbrev P_walk : List Str := ["first", "second", "start"]
theorem sc_walk : FnScope N_walk P_walk (defScope s_walk) := ⟨rfl, rfl, rfl, by decide +kernel, rfl, by decide +kernel, by decide +kernel⟩
abbrev N_gain : List Str := ["before", "after", "row", "gained", "lost", "record"]
abbrev P_gain : List Str := ["before", "after", "row"]
theorem sc_gain : FnScope N_gain P_gain (defScope s_gain) := ⟨rfl, rfl, rfl, by decide +kernel, rfl, by decide +kernel, by decide +kernel⟩
abbrev N_paired : List Str := ["start", "length", "skipped", "names", "place"]
abbrev P_paired : List Str := ["start", "length", "skipped"]
theorem sc_paired : FnScope N_paired P_paired (defScope s_paired) := ⟨rfl, rfl, rfl, by decide +kernel, rfl, by decide +kernel, by decide +kernel⟩
abbrev N_m_init : List Str := ["self", "before", "after"]
abbrev P_m_init : List Str := ["self", "before", "after"]
theorem sc_m_init : FnScope N_m_init P_m_init (defScope s_m_init) := ⟨rfl, rfl, rfl, by decide +kernel, rfl, by decide +kernel, by decide +kernel⟩
abbrev N_m_kind : List Str := ["self"]
abbrev P_m_kind : List Str := ["self"]
theorem sc_m_kind : FnScope N_m_kind P_m_kind (defScope s_m_kind) := ⟨rfl, rfl, rfl, by decide +kernel, rfl, by decide +kernel, by decide +kernel⟩
abbrev N_sample : List Str := ["kind", "before", "after"]
abbrev P_sample : List Str := ["kind"]
theorem sc_sample : FnScope N_sample P_sample (defScope s_sample) := ⟨rfl, rfl, rfl, by decide +kernel, rfl, by decide +kernel, by decide +kernel⟩
abbrev N_law_mix : List Str := ["seed", "step", "one", "two"]
abbrev P_law_mix : List Str := ["seed", "step"]
theorem sc_law_mix : FnScope N_law_mix P_law_mix (defScope s_law_mix) := ⟨rfl, rfl, rfl, by decide +kernel, rfl, by decide +kernel, by decide +kernel⟩
abbrev N_law_box : List Str := ["script", "seed", "cell"]
abbrev P_law_box : List Str := ["script"]
theorem sc_law_box : FnScope N_law_box P_law_box (defScope s_law_box) := ⟨rfl, rfl, rfl, by decide +kernel, rfl, by decide +kernel, by decide +kernel⟩
abbrev N_law_draw : List Str := ["box", "many", "cell", "digits"]
abbrev P_law_draw : List Str := ["box", "many"]
theorem sc_law_draw : FnScope N_law_draw P_law_draw (defScope s_law_draw) := ⟨rfl, rfl, rfl, by decide +kernel, rfl, by decide +kernel, by decide +kernel⟩
abbrev N_law_whole : List Str := ["told", "due"]
abbrev P_law_whole : List Str := ["told", "due"]
theorem sc_law_whole : FnScope N_law_whole P_law_whole (defScope s_law_whole) := ⟨rfl, rfl, rfl, by decide +kernel, rfl, by decide +kernel, by decide +kernel⟩
abbrev N_law_row : List Str := ["told", "due", "k"]
abbrev P_law_row : List Str := ["told", "due"]
theorem sc_law_row : FnScope N_law_row P_law_row (defScope s_law_row) := ⟨rfl, rfl, rfl, by decide +kernel, rfl, by decide +kernel, by decide +kernel⟩
abbrev N_law_kind_told : List Str := ["told", "due", "k"]
abbrev P_law_kind_told : List Str := ["told", "due"]
theorem sc_law_kind_told : FnScope N_law_kind_told P_law_kind_told (defScope s_law_kind_told) := ⟨rfl, rfl, rfl, by decide +kernel, rfl, by decide +kernel, by decide +kernel⟩
abbrev N_law_ascending : List Str := ["entries", "found", "entry", "at"]
abbrev P_law_ascending : List Str := ["entries"]
theorem sc_law_ascending : FnScope N_law_ascending P_law_ascending (defScope s_law_ascending) := ⟨rfl, rfl, rfl, by decide +kernel, rfl, by decide +kernel, by decide +kernel⟩
abbrev N_law_entry : List Str := ["box", "reach", "size"]
abbrev P_law_entry : List Str := ["box", "reach"]
theorem sc_law_entry : FnScope N_law_entry P_law_entry (defScope s_law_entry) := ⟨rfl, rfl, rfl, by decide +kernel, rfl, by decide +kernel, by decide +kernel⟩
abbrev N_law_entries : List Str := ["box", "many", "reach", "room", "found", "turn"]
abbrev P_law_entries : List Str := ["box"]
theorem sc_law_entries : FnScope N_law_entries P_law_entries (defScope s_law_entries) := ⟨rfl, rfl, rfl, by decide +kernel, rfl, by decide +kernel, by decide +kernel⟩
abbrev N_law_strange : List Str := ["box", "words"]
abbrev P_law_strange : List Str := ["box"]
theorem sc_law_strange : FnScope N_law_strange P_law_strange (defScope s_law_strange) := ⟨rfl, rfl, rfl, by decide +kernel, rfl, by decide +kernel, by decide +kernel⟩
abbrev N_law_bent : List Str := ["box", "entries", "way", "found", "at", "other", "kept"]
abbrev P_law_bent : List Str := ["box", "entries"]
theorem sc_law_bent : FnScope N_law_bent P_law_bent (defScope s_law_bent) := ⟨rfl, rfl, rfl, by decide +kernel, rfl, by decide +kernel, by decide +kernel⟩
abbrev N_law_good_entry : List Str := ["entry", "word", "length", "gain"]
abbrev P_law_good_entry : List Str := ["entry"]
theorem sc_law_good_entry : FnScope N_law_good_entry P_law_good_entry (defScope s_law_good_entry) := ⟨rfl, rfl, rfl, by decide +kernel, rfl, by decide +kernel, by decide +kernel⟩
abbrev N_law_valid : List Str := ["entries", "entry", "k"]
abbrev P_law_valid : List Str := ["entries"]
theorem sc_law_valid : FnScope N_law_valid P_law_valid (defScope s_law_valid) := ⟨rfl, rfl, rfl, by decide +kernel, rfl, by decide +kernel, by decide +kernel⟩
abbrev N_law_sample_due : List Str := ["entries", "old", "new", "word", "length", "gain", "start", "rows", "k", "row"]
abbrev P_law_sample_due : List Str := ["entries"]
theorem sc_law_sample_due : FnScope N_law_sample_due P_law_sample_due (defScope s_law_sample_due) := ⟨rfl, rfl, rfl, by decide +kernel, rfl, by decide +kernel, by decide +kernel⟩
abbrev N_law_reversed : List Str := ["entries", "gain", "length", "word"]
abbrev P_law_reversed : List Str := ["entries"]
theorem sc_law_reversed : FnScope N_law_reversed P_law_reversed (defScope s_law_reversed) := ⟨rfl, rfl, rfl, by decide +kernel, rfl, by decide +kernel, by decide +kernel⟩
abbrev N_law_kept : List Str := ["entries", "kind", "turned", "due", "told", "made"]
abbrev P_law_kept : List Str := ["entries"]
theorem sc_law_kept : FnScope N_law_kept P_law_kept (defScope s_law_kept) := ⟨rfl, rfl, rfl, by decide +kernel, rfl, by decide +kernel, by decide +kernel⟩
abbrev N_law_call : List Str := ["door", "kind"]
abbrev P_law_call : List Str := ["door", "kind"]
theorem sc_law_call : FnScope N_law_call P_law_call (defScope s_law_call) := ⟨rfl, rfl, rfl, by decide +kernel, rfl, by decide +kernel, by decide +kernel⟩
abbrev N_law_refused : List Str := ["door", "kind", "e"]
abbrev P_law_refused : List Str := ["door", "kind"]
theorem sc_law_refused : FnScope N_law_refused P_law_refused (defScope s_law_refused) := ⟨rfl, rfl, rfl, by decide +kernel, rfl, by decide +kernel, by decide +kernel⟩
abbrev N_law_judged : List Str := ["entries", "door", "entry"]
abbrev P_law_judged : List Str := ["entries"]
theorem sc_law_judged : FnScope N_law_judged P_law_judged (defScope s_law_judged) := ⟨rfl, rfl, rfl, by decide +kernel, rfl, by decide +kernel, by decide +kernel⟩
abbrev N_law : List Str := ["script", "box", "entries", "turn"]
abbrev P_law : List Str := ["script"]
theorem sc_law : FnScope N_law P_law (defScope s_law) := ⟨rfl, rfl, rfl, by decide +kernel, rfl, by decide +kernel, by decide +kernel⟩
abbrev N_InvalidImage : List Str := ["self", "record"]
abbrev P_InvalidImage : List Str := ["self", "record"]
theorem sc_InvalidImage : FnScope N_InvalidImage P_InvalidImage (defScope s_InvalidImage) := ⟨rfl, rfl, rfl, by decide +kernel, rfl, by decide +kernel, by decide +kernel⟩
abbrev N_NotState : List Str := ["self", "record"]
abbrev P_NotState : List Str := ["self", "record"]
theorem sc_NotState : FnScope N_NotState P_NotState (defScope s_NotState) := ⟨rfl, rfl, rfl, by decide +kernel, rfl, by decide +kernel, by decide +kernel⟩
structure Txt (K : PySem.W.Frag) (mg : Str → Option Value) (A : Ad) : Prop where
  g_check_image : mg "check_image" = some (.ref A.check_image)
  k_check_image : PySem.W.keepIn K (.ref A.check_image) = true
  d_check_image : ∃ fd, Fun K "check_image" "check_image" s_check_image A.check_image fd
  g_check_state : mg "check_state" = some (.ref A.check_state)
  k_check_state : PySem.W.keepIn K (.ref A.check_state) = true
  d_check_state : ∃ fd, Fun K "check_state" "check_state" s_check_state A.check_state fd
  g_check_pair : mg "check_pair" = some (.ref A.check_pair)
  k_check_pair : PySem.W.keepIn K (.ref A.check_pair) = true
  d_check_pair : ∃ fd, Fun K "check_pair" "check_pair" s_check_pair A.check_pair fd
  g_check_kind : mg "check_kind" = some (.ref A.check_kind)
  k_check_kind : PySem.W.keepIn K (.ref A.check_kind) = true
  d_check_kind : ∃ fd, Fun K "check_kind" "check_kind" s_check_kind A.check_kind fd
  g_parts : mg "parts" = some (.ref A.parts)
  k_parts : PySem.W.keepIn K (.ref A.parts) = true
  d_parts : ∃ fd, Fun K "parts" "parts" s_parts A.parts fd
  g_kind_of : mg "kind_of" = some (.ref A.kind_of)
  k_kind_of : PySem.W.keepIn K (.ref A.kind_of) = true
  d_kind_of : ∃ fd, Fun K "kind_of" "kind_of" s_kind_of A.kind_of fd
  g_reverse_kind : mg "reverse_kind" = some (.ref A.reverse_kind)
  k_reverse_kind : PySem.W.keepIn K (.ref A.reverse_kind) = true
  d_reverse_kind : ∃ fd, Fun K "reverse_kind" "reverse_kind" s_reverse_kind A.reverse_kind fd
  g_sample_rows : mg "sample_rows" = some (.ref A.sample_rows)
  k_sample_rows : PySem.W.keepIn K (.ref A.sample_rows) = true
  d_sample_rows : ∃ fd, Fun K "sample_rows" "sample_rows" s_sample_rows A.sample_rows fd
  g_is_entry : mg "_is_entry" = some (.ref A.is_entry)
  k_is_entry : PySem.W.keepIn K (.ref A.is_entry) = true
  d_is_entry : ∃ fd, Fun K "_is_entry" "_is_entry" s_is_entry A.is_entry fd
  g_part_of : mg "_part_of" = some (.ref A.part_of)
  k_part_of : PySem.W.keepIn K (.ref A.part_of) = true
  d_part_of : ∃ fd, Fun K "_part_of" "_part_of" s_part_of A.part_of fd
  g_walk : mg "_walk" = some (.ref A.walk)
  k_walk : PySem.W.keepIn K (.ref A.walk) = true
  d_walk : ∃ fd, Fun K "_walk" "_walk" s_walk A.walk fd
  g_gain : mg "_gain" = some (.ref A.gain)
  k_gain : PySem.W.keepIn K (.ref A.gain) = true
  d_gain : ∃ fd, Fun K "_gain" "_gain" s_gain A.gain fd
  g_paired : mg "_paired" = some (.ref A.paired)
  k_paired : PySem.W.keepIn K (.ref A.paired) = true
  d_paired : ∃ fd, Fun K "_paired" "_paired" s_paired A.paired fd
  d_m_init : ∃ fd, Fun K "__init__" "Update.__init__" s_m_init A.m_init fd
  d_m_kind : ∃ fd, Fun K "kind" "Update.kind" s_m_kind A.m_kind fd
  g_sample : mg "sample" = some (.ref A.sample)
  k_sample : PySem.W.keepIn K (.ref A.sample) = true
  d_sample : ∃ fd, Fun K "sample" "sample" s_sample A.sample fd
  g_law_mix : mg "_law_mix" = some (.ref A.law_mix)
  k_law_mix : PySem.W.keepIn K (.ref A.law_mix) = true
  d_law_mix : ∃ fd, Fun K "_law_mix" "_law_mix" s_law_mix A.law_mix fd
  g_law_box : mg "_law_box" = some (.ref A.law_box)
  k_law_box : PySem.W.keepIn K (.ref A.law_box) = true
  d_law_box : ∃ fd, Fun K "_law_box" "_law_box" s_law_box A.law_box fd
  g_law_draw : mg "_law_draw" = some (.ref A.law_draw)
  k_law_draw : PySem.W.keepIn K (.ref A.law_draw) = true
  d_law_draw : ∃ fd, Fun K "_law_draw" "_law_draw" s_law_draw A.law_draw fd
  g_law_whole : mg "_law_whole" = some (.ref A.law_whole)
  k_law_whole : PySem.W.keepIn K (.ref A.law_whole) = true
  d_law_whole : ∃ fd, Fun K "_law_whole" "_law_whole" s_law_whole A.law_whole fd
  g_law_row : mg "_law_row" = some (.ref A.law_row)
  k_law_row : PySem.W.keepIn K (.ref A.law_row) = true
  d_law_row : ∃ fd, Fun K "_law_row" "_law_row" s_law_row A.law_row fd
  g_law_kind_told : mg "_law_kind_told" = some (.ref A.law_kind_told)
  k_law_kind_told : PySem.W.keepIn K (.ref A.law_kind_told) = true
  d_law_kind_told : ∃ fd, Fun K "_law_kind_told" "_law_kind_told" s_law_kind_told A.law_kind_told fd
  g_law_ascending : mg "_law_ascending" = some (.ref A.law_ascending)
  k_law_ascending : PySem.W.keepIn K (.ref A.law_ascending) = true
  d_law_ascending : ∃ fd, Fun K "_law_ascending" "_law_ascending" s_law_ascending A.law_ascending fd
  g_law_entry : mg "_law_entry" = some (.ref A.law_entry)
  k_law_entry : PySem.W.keepIn K (.ref A.law_entry) = true
  d_law_entry : ∃ fd, Fun K "_law_entry" "_law_entry" s_law_entry A.law_entry fd
  g_law_entries : mg "_law_entries" = some (.ref A.law_entries)
  k_law_entries : PySem.W.keepIn K (.ref A.law_entries) = true
  d_law_entries : ∃ fd, Fun K "_law_entries" "_law_entries" s_law_entries A.law_entries fd
  g_law_strange : mg "_law_strange" = some (.ref A.law_strange)
  k_law_strange : PySem.W.keepIn K (.ref A.law_strange) = true
  d_law_strange : ∃ fd, Fun K "_law_strange" "_law_strange" s_law_strange A.law_strange fd
  g_law_bent : mg "_law_bent" = some (.ref A.law_bent)
  k_law_bent : PySem.W.keepIn K (.ref A.law_bent) = true
  d_law_bent : ∃ fd, Fun K "_law_bent" "_law_bent" s_law_bent A.law_bent fd
  g_law_good_entry : mg "_law_good_entry" = some (.ref A.law_good_entry)
  k_law_good_entry : PySem.W.keepIn K (.ref A.law_good_entry) = true
  d_law_good_entry : ∃ fd, Fun K "_law_good_entry" "_law_good_entry" s_law_good_entry A.law_good_entry fd
  g_law_valid : mg "_law_valid" = some (.ref A.law_valid)
  k_law_valid : PySem.W.keepIn K (.ref A.law_valid) = true
  d_law_valid : ∃ fd, Fun K "_law_valid" "_law_valid" s_law_valid A.law_valid fd
  g_law_sample_due : mg "_law_sample_due" = some (.ref A.law_sample_due)
  k_law_sample_due : PySem.W.keepIn K (.ref A.law_sample_due) = true
  d_law_sample_due : ∃ fd, Fun K "_law_sample_due" "_law_sample_due" s_law_sample_due A.law_sample_due fd
  g_law_reversed : mg "_law_reversed" = some (.ref A.law_reversed)
  k_law_reversed : PySem.W.keepIn K (.ref A.law_reversed) = true
  d_law_reversed : ∃ fd, Fun K "_law_reversed" "_law_reversed" s_law_reversed A.law_reversed fd
  g_law_kept : mg "_law_kept" = some (.ref A.law_kept)
  k_law_kept : PySem.W.keepIn K (.ref A.law_kept) = true
  d_law_kept : ∃ fd, Fun K "_law_kept" "_law_kept" s_law_kept A.law_kept fd
  g_law_call : mg "_law_call" = some (.ref A.law_call)
  k_law_call : PySem.W.keepIn K (.ref A.law_call) = true
  d_law_call : ∃ fd, Fun K "_law_call" "_law_call" s_law_call A.law_call fd
  g_law_refused : mg "_law_refused" = some (.ref A.law_refused)
  k_law_refused : PySem.W.keepIn K (.ref A.law_refused) = true
  d_law_refused : ∃ fd, Fun K "_law_refused" "_law_refused" s_law_refused A.law_refused fd
  g_law_judged : mg "_law_judged" = some (.ref A.law_judged)
  k_law_judged : PySem.W.keepIn K (.ref A.law_judged) = true
  d_law_judged : ∃ fd, Fun K "_law_judged" "_law_judged" s_law_judged A.law_judged fd
  g_law : mg "law" = some (.ref A.law)
  k_law : PySem.W.keepIn K (.ref A.law) = true
  d_law : ∃ fd, Fun K "law" "law" s_law A.law fd
  e_MendError : ErrM K mg A.MendError
  e_InvalidImage : ErrK K mg A.MendError A.InvalidImage "InvalidImage"
  e_NotState : ErrK K mg A.MendError A.NotState "NotState"
  e_UnequalSizes : ErrK K mg A.MendError A.UnequalSizes "UnequalSizes"
  q_UnequalSizes : PySem.W.excIn K A.UnequalSizes [.type "ValueError", .type "Exception", .type "BaseException", .type "object"] "ValueError.__new__" = true
  e_InvalidKind : ErrK K mg A.MendError A.InvalidKind "InvalidKind"
  q_InvalidKind : PySem.W.excIn K A.InvalidKind [.type "ValueError", .type "Exception", .type "BaseException", .type "object"] "ValueError.__new__" = true
  e_InvalidChange : ErrK K mg A.MendError A.InvalidChange "InvalidChange"
  q_InvalidChange : PySem.W.excIn K A.InvalidChange [.type "ValueError", .type "Exception", .type "BaseException", .type "object"] "ValueError.__new__" = true
  f_InvalidImage : ErrF K A.InvalidImage A.i_InvalidImage "InvalidImage.__init__" "record" s_InvalidImage
  f_NotState : ErrF K A.NotState A.i_NotState "NotState.__init__" "record" s_NotState
  g_Update : mg "Update" = some (.ref A.Update)
  cR : Cls K A.Update
  mkR : Mk K A.Update A.m_init
  pp_kind : PropOf K A.Update "kind" A.p_kind A.m_kind
  nc_before : NoAttr K A.Update "before"
  nc_after : NoAttr K A.Update "after"
  n_ValueError : mg "ValueError" = none
  n_int : mg "int" = none
  n_bool : mg "bool" = none
  n_str : mg "str" = none
  n_list : mg "list" = none
  n_tuple : mg "tuple" = none
  n_len : mg "len" = none
  n_range : mg "range" = none
  n_enumerate : mg "enumerate" = none
  n_isinstance : mg "isinstance" = none
  n_min : mg "min" = none
  n_abs : mg "abs" = none
  n_sorted : mg "sorted" = none
  n_all : mg "all" = none
  n_sum : mg "sum" = none
  cc : PySem.W.findIn K (.ref A.Update) "__class__" = some (some (.builtin "object.__class__"))
  co : PySem.W.mroIn K A.Update (.type "object") = some true
  cn : PySem.W.specialIn K (.builtin "object.__class__") "__get__" = some (some (.builtin "getset_descriptor.__get__"))
  ct : PySem.W.takesIn K (.builtin "object.__class__") = some true
  nd : [A.MendError, A.InvalidImage, A.NotState, A.UnequalSizes, A.InvalidKind, A.InvalidChange].Nodup
end Pv

namespace Pv
open PySem L2
/-- all but what stands at b is as it was -/
def Mut (b : Addr) (H H' : Hp) : Prop := ∀ a o, a ≠ b → H a = some o → H' a = some o
theorem Mut.refl (b : Addr) (H : Hp) : Mut b H H := fun _ _ _ e => e
theorem Mut.trans {b : Addr} {H H1 H2 : Hp} (x : Mut b H H1) (y : Mut b H1 H2) : Mut b H H2 := fun a o n e => y a o n (x a o n e)
theorem Mut.upd {b : Addr} {H H1 : Hp} {o : HO} (x : Mut b H H1) : Mut b H (L2.upd H1 b o) := fun a u n e => by
  rw [upd_ne n]
  exact x a u n e
theorem Mut.new {b p : Addr} {H H1 : Hp} {o : HO} (x : Mut b H H1) (hp : H1 p = none) : Mut b H (L2.upd H1 p o) := fun a u n e => by
  have e1 := x a u n e
  rw [upd_ne (ne_of_none e1 hp)]
  exact e1
theorem Mut.free {b p : Addr} {H H1 : Hp} (x : Mut b H H1) (h : p ≠ b) (hp : H1 p = none) : H p = none := by
  cases e : H p with
  | none => rfl
  | some o =>
    rw [x p o h e] at hp
    cases hp
/-- the bag of the draws -/
def bagL (g f s : Int) : List V := [.int g, .int f, .int s]
structure BagOk (g f s : Int) : Prop where
  g0 : 0 ≤ g
  f0 : 0 ≤ f
  f1 : f < 2147483647
  s0 : 0 ≤ s
  s1 : s < 2147483647
def Bag (H : Hp) (b : Addr) : Prop := ∃ g f s : Int, H b = some (.lst (bagL g f s)) ∧ BagOk g f s
def spBag (K : PySem.W.Frag) : Sp := fun vs H Q _ => ∃ (a : Addr) (ns : List Int), vs = [.ref a] ∧ SqL K H a (ns.map V.int) ∧ ∀ b g f s, H b = none → BagOk g f s → Q (.ref b) (upd H b (.lst (bagL g f s)))
def spTake : Sp := fun vs H Q _ => ∃ (b : Addr) (n : Int), vs = [.ref b, .int n] ∧ 0 < n ∧ n < 1152921504606846976 ∧ Bag H b ∧ ∀ d H', 0 ≤ d → d < n → Bag H' b → Mut b H H' → Q (.int d) H'
/-- ints from 0 to below n -/
def Below (n : Int) (xs : List Int) : Prop := ∀ x ∈ xs, 0 ≤ x ∧ x < n
def ListI (H : Hp) (p : Addr) (xs : List Int) : Prop := H p = some (.lst (xs.map V.int))
def spOrder : Sp := fun vs H Q _ => ∃ (b : Addr) (n : Nat), vs = [.ref b, .int (n : Int)] ∧ n ≤ 64 ∧ Bag H b ∧ ∀ p xs H', H p = none → p ≠ b → xs.length = n → Below n xs → ListI H' p xs → Bag H' b → Mut b H H' → Q (.ref p) H'
def spSize : Sp := fun vs H Q _ => ∃ b : Addr, vs = [.ref b] ∧ Bag H b ∧ ∀ (d : Int) H', 0 ≤ d → d ≤ 64 → Bag H' b → Mut b H H' → Q (.int d) H'
def spEntry : Sp := fun vs H Q _ => ∃ (b : Addr) (n : Nat), vs = [.ref b, .int (n : Int)] ∧ 0 < n ∧ n ≤ 64 ∧ Bag H b ∧ ∀ (d : Int) H', Bag H' b → Mut b H H' → Q (.int d) H'
def spDrawn : Sp := fun vs H Q _ => ∃ (b : Addr) (n : Nat), vs = [.ref b, .int (n : Int)] ∧ n ≤ 64 ∧ Bag H b ∧ ∀ p xs H', H p = none → p ≠ b → xs.length = n → ListI H' p xs → Bag H' b → Mut b H H' → Q (.ref p) H'
theorem Bag.ne {H : Hp} {b p : Addr} (B : Bag H b) (h : H p = none) : p ≠ b := fun e => by
  obtain ⟨g, f, s, hb, _⟩ := B
  rw [e, hb] at h
  cases h
theorem Bag.keep {H H' : Hp} {b : Addr} (B : Bag H b) (h : ∀ o, H b = some o → H' b = some o) : Bag H' b := by
  obtain ⟨g, f, s, hb, ok⟩ := B
  exact ⟨g, f, s, h _ hb, ok⟩
theorem map_erase {α β : Type} (f : α → β) : ∀ (l : List α) (i : Nat), (l.map f).eraseIdx i = (l.eraseIdx i).map f
  | [], _ => rfl
  | _ :: _, 0 => rfl
  | a :: l, i + 1 => by
    show f a :: (l.map f).eraseIdx i = f a :: (l.eraseIdx i).map f
    rw [map_erase f l i]
theorem rgV_map (n : Nat) : rgV 0 (n : Int) = ((List.range n).map fun i : Nat => (i : Int)).map V.int := by
  unfold rgV
  have e : ((n : Int) - 0).toNat = n := by omega
  rw [e, List.map_map]
  refine List.map_congr_left fun i _ => ?_
  show V.int (0 + (i : Int)) = V.int (i : Int)
  rw [Int.zero_add]
theorem below_rg (n : Nat) : Below (n : Int) ((List.range n).map fun i : Nat => (i : Int)) := fun x hx => by
  obtain ⟨i, hi, rfl⟩ := List.mem_map.mp hx
  have := List.mem_range.mp hi
  omega
theorem ListI.sz {K : PySem.W.Frag} {H : Hp} {p : Addr} {xs : List Int} (h : ListI H p xs) : SqL K H p (xs.map V.int) := SqL.of h
theorem ix_map {xs : List Int} {j : Nat} (h : j < xs.length) : (xs.map V.int)[j]? = some (V.int xs[j]) := by
  rw [List.getElem?_map, List.getElem?_eq_getElem h]
  rfl
theorem at_map {xs : List Int} {j : Nat} (h : j < xs.length) : atI (xs.map V.int) (j : Int) = some (V.int xs[j]) := atI_nat (ix_map h)
theorem set_map {xs : List Int} {j : Nat} {v : Int} : (xs.map V.int).set j (V.int v) = (xs.set j v).map V.int := List.map_set.symm
theorem ite_b {b : Bool} {X Y : Prop} (h1 : b = true → X) (h2 : b = false → Y) : if b = true then X else Y := by
  cases b with
  | true => exact h1 rfl
  | false => exact h2 rfl
theorem int_at {ns : List Int} {i : Nat} {y : V} (h : (ns.map V.int)[i]? = some y) : ∃ z, ns[i]? = some z ∧ y = V.int z := by
  rw [List.getElem?_map] at h
  cases e : ns[i]? with
  | none =>
    rw [e] at h
    cases h
  | some z =>
    rw [e] at h
    exact ⟨z, rfl, (Option.some.inj h).symm⟩
end Pv

/-! xs[::-1] of a list; x in d as a test -/
namespace StK
open PySem PySem.Spec PyProof.Rows L2
section
variable {X : Cx} {e st : Expr} {te tk : TE} {pos p2 : Pos}
def tBack (K : PySem.W.Frag) (te tk : TE) : TE := fun σ H Q => te σ H fun x H1 => tk σ H1 fun z H2 => z = .int (-1) ∧ ∃ a xs, x = .ref a ∧ SqL K H2 a xs ∧ ∀ p, H2 p = none → Q (.ref p) (upd H2 p (.lst xs.reverse))
theorem pe_back (he : PE X e te) (hk : PE X st tk) : PE X (.Subscript e (.Slice none none (some st) p2) pos) (tBack X.K te tk) := by
  refine ⟨fun pins s σ H Q I h => Subscript_ (thn (he.run pins s σ H _ I h) ?_)⟩
  rintro v s1 ⟨x, H1, I1, r1, q1⟩
  refine wpAny_Slice ?_
  rw [evalPart_none]
  refine wpAny_pure (wpAny_pure ?_)
  rw [evalPart_some]
  refine thn (hk.run pins s1 σ H1 _ I1 q1) ?_
  rintro vk s3 ⟨z, H3, I3, rz, rfl, a, xs, rfl, hx, q⟩
  cases r1
  obtain ⟨tk3, rfl⟩ : ∃ t, vk = .int (-1) t := by
    obtain ⟨t, e⟩ := rz
    exact ⟨t, e⟩
  have I4 : Inv X pins σ H3 { s3 with heap := s3.heap.push { cls := .type "slice", data := .fields #[.none, .none, .int (-1) tk3] } } := I3.kept (t' := s3.toks) fun b ob g => Heap.get?_push_of_some _ g
  obtain ⟨its, r, ht, hz⟩ := I4.list hx
  have rl := r.length
  have sl : ({ s3 with heap := s3.heap.push { cls := .type "slice", data := .fields #[.none, .none, .int (-1) tk3] } } : Shared).heap.IsSliceOf s3.heap.objs.size .none .none (.int (-1) tk3) := Heap.IsSliceOf.new ..
  refine tail_any (T := "list") (ops := [.ref a, .ref s3.heap.objs.size]) ht.isList.typeIs slot_list_getitem.lookup ?_ rfl
  refine wpAny_getItem_list_slice ht.isList sl .none .none (.int _ _) (by decide) ?_ (by rw [List.size_toArray]; omega)
  rw [PySem.W.krv_pick]
  refine ⟨.ref _, _, I4.laid (t' := s3.toks) (o := .lst xs.reverse) (fun b ob g => Heap.get?_push_of_some _ g) (Nat.le_refl _) ?_, rfl, q _ (I4.hok.fresh (Nat.le_refl _))⟩
  exact ⟨by rw [List.length_reverse]; omega, _, 0, r.reverse, Heap.get?_push_size _ rfl⟩
end
end StK

/-! data of one shape: <, <= and sorted; xs[:0:-1]; C(e, ..) that may raise -/
namespace DaS
open PySem PySem.Spec PyProof.Rows PySem.W L2
/-- two things of one shape, compared -/
def Two (K : PySem.W.Frag) (H : Hp) (x y : V) (d e : PyData) : Prop := Dp K H x d ∧ Dp K H y e ∧ alike d e = true ∧ d ≠ .none ∧ d.depth ≤ 64
def rLeD (K : PySem.W.Frag) : R2 := fun x y H Q => ∃ d e, Two K H x y d e ∧ Q (.bl (!dataLt e d)) H
def rLtD (K : PySem.W.Frag) : R2 := fun x y H Q => ∃ d e, Two K H x y d e ∧ Q (.bl (dataLt d e)) H
section
variable {X : Cx}
theorem op_leD (room : X.A.units + 64 < cLine) : OpR X (compareOp .LtE) (rLeD X.K) := by
  rintro pins s σ H x y v u Q I rx ry ⟨d, e, ⟨hd, he, al, nn, dp⟩, q⟩
  obtain ⟨as, reads1⟩ := Dp.reads I d x v hd rx
  obtain ⟨bs, reads2⟩ := Dp.reads I e y u he ry
  exact le_data reads1 reads2 al nn (by omega) ⟨.bl _, H, I, rfl, q⟩
theorem op_ltD (room : X.A.units + 64 < cLine) : OpR X (compareOp .Lt) (rLtD X.K) := by
  rintro pins s σ H x y v u Q I rx ry ⟨d, e, ⟨hd, he, al, nn, dp⟩, q⟩
  obtain ⟨as, reads1⟩ := Dp.reads I d x v hd rx
  obtain ⟨bs, reads2⟩ := Dp.reads I e y u he ry
  exact lt_data reads1 reads2 al nn (by omega) ⟨.bl _, H, I, rfl, q⟩
/-- sorted of a list of things of one shape -/
def rSortD (K : PySem.W.Frag) : List V → Hp → VK → Prop := fun vs H Q => ∃ (a : Addr) (bs : List (V × PyData)), vs = [.ref a] ∧ SqL K H a (bs.map Prod.fst) ∧ (∀ b ∈ bs, Dp K H b.1 b.2 ∧ b.2.depth ≤ 60) ∧ AllAlike (bs.map Prod.snd) ∧ Sortable (bs.map Prod.snd) ∧
  ∀ p, H p = none → Q (.ref p) (upd H p (.lst ((bs.mergeSort (dataLe false Prod.snd)).map Prod.fst)))
theorem each_vals {R : V × PyData → Prop} : ∀ {bs : List (V × PyData)} {us : List Value}, Vals (bs.map Prod.fst) us → (∀ b ∈ bs, R b) → EachIs (fun v b => RelV b.1 v ∧ R b) us bs
  | [], _, r, _ => by cases r; exact .nil
  | b :: bs, _, r, h => by
    cases r with
    | cons r1 r2 => exact .cons ⟨r1, h b (List.mem_cons_self ..)⟩ (each_vals r2 fun c hc => h c (List.mem_cons_of_mem _ hc))
theorem vals_each {R : V × PyData → Prop} : ∀ {bs : List (V × PyData)} {us : List Value}, EachIs (fun v b => RelV b.1 v ∧ R b) us bs → Vals (bs.map Prod.fst) us
  | _, _, .nil => .nil
  | _, _, .cons h t => .cons h.1 (vals_each t)
theorem each_mono {α β : Type} {R S : α → β → Prop} (h : ∀ a b, R a b → S a b) : ∀ {as : List α} {bs : List β}, EachIs R as bs → EachIs S as bs
  | _, _, .nil => .nil
  | _, _, .cons r t => .cons (h _ _ r) (each_mono h t)
theorem cr_sortD (room : X.A.units + 64 < cLine) : CallR X (.builtin "sorted") (rSortD X.K) := by
  rintro pins s σ H vs us Q I r ⟨a, bs, rfl, hs, hd, al, so, q⟩
  obtain ⟨its, rv, hl, hz⟩ := I.list hs
  rw [Vals.ref1 r]
  have ln : its.length = bs.length := by rw [← rv.length, List.length_map]
  rw [List.length_map] at hz
  have E1 := each_vals (R := fun b => b ∈ bs) rv fun b hb => hb
  refine sorted_data (enc := Prod.snd) hl.isList E1 (each_mono (fun v b rb => Dp.reads I b.2 b.1 v (hd b rb.2).1 rb.1) E1) al so hz (fun b hb => ?_) fun out lo eo => ?_
  · have := (hd b hb).2
    omega
  · obtain ⟨n, hn⟩ := sortedAll_at s.heap its out.toArray
    have rv2 := vals_each eo
    have kp : ∀ b o, s.heap.get? b = some o → (sortedAll s.heap its out.toArray).get? b = some o := fun b o e => sortedAll_old e
    have hz2 : ((bs.mergeSort (dataLe false Prod.snd)).map Prod.fst).length ≤ sizeLine := by
      rw [List.length_map, List.length_mergeSort]
      exact hz
    refine ⟨.ref (s.heap.objs.size + 1), upd H (s.heap.objs.size + 1) (.lst ((bs.mergeSort (dataLe false Prod.snd)).map Prod.fst)), I.laid (t' := s.toks) kp (Nat.le_succ _) ⟨hz2, out, n, rv2, hn⟩, rfl, q _ (I.hok.fresh (Nat.le_succ _))⟩
end
section
variable {X : Cx} {CX : CXT} {k : Nat} {f C : Addr} {fd : FuncData} {ps : List Str} {sp : Sp} {E : L2.St → XK} {x : Str} {p pos : Pos} {e : Expr} {es : List Expr} {t : TA}
/-- C(e, ..), its __init__ may raise -/
def tMakeP (C : Addr) (sp : Sp) (E : L2.St → XK) (t : TA) : TE := fun σ H Q => t σ H fun vs G => ∀ c dx, G c = none → G dx = none → dx ≠ c →
  sp (.ref c :: (vs ++ [])) (upd (upd G dx (.own c)) c (.ins C dx [])) (fun v G2 => v = .non ∧ Q (.ref c) G2) (E σ)
theorem pe_makeP (M : Mk X.K C f) (F : FnOk X.prog X.w X.K X.mg X.base CX k f fd ps sp) (room : Room (k + 1) X.A) (g : Gl X x) (m : X.mg x = some (.ref C)) (b : Binds X.K fd ps []) (pass : ∀ σ, PassesAt CX X σ (E σ)) (args : PA X (e :: es) t)
    (nodebug : (x == ("__debug__" : Str)) = false := by decide) (one : starEach (e :: es) X.env = (false, eval e X.env) :: starEach es X.env := by rfl) (more : (backTo pos (starEach es X.env)).any (·.1) = false := by rfl) :
    PE X (.Call (.Name x p) (e :: es) [] pos) (tMakeP C sp E t) := by
  constructor
  intro pins s σ H Q I had
  refine wpAny_Call_Name_kw (ld_glob I g m ?_ nodebug)
  refine PySem.W.callWith_K (h₀ := X.base) I.ok.mod.kin M.kp (thn (args.run pos pins s σ H _ I had) ?_) one more
  rintro us s1 ⟨vs, G, I1, rel, q⟩
  have free : ∀ c, s1.heap.objs.size ≤ c → G c = none := fun c le => I1.hok.fresh le
  have had1 := q (s1.heap.objs.size + 1) s1.heap.objs.size (free _ (Nat.le_succ _)) (free _ (Nat.le_refl _)) (Nat.ne_of_lt (Nat.lt_succ_self _))
  have I2 := Inv.made I1 (C := C)
  have rel2 : Vals (V.ref (s1.heap.objs.size + 1) :: (vs ++ [])) ((Value.ref (s1.heap.objs.size + 1) :: us) ++ []) := by
    rw [List.append_nil, List.append_nil]
    exact .cons rfl rel
  have len : ((Value.ref (s1.heap.objs.size + 1) :: us) ++ []).length = ps.length := by
    rw [← F.len _ _ _ _ had1]
    exact rel2.length.symm
  refine ⟨I1.kIn, wpAny_call (make_map (f := f) I1.kIn M.makes M.init (beq_iff_eq.mp M.fn) (codeAny_mono (F.run _ X.stack _ _ ⟨Value.ref (s1.heap.objs.size + 1) :: us, []⟩ ((Value.ref (s1.heap.objs.size + 1) :: us) ++ []) _ _ (E σ) (room.make C us [])
    (I2.env0.make C us []) (b _ _ I2.kIn len) rel2 had1) fun r s2 told => ?_))⟩
  match r, told with
  | .error er, told => exact pass σ pins _ _ er s2 I2 told
  | .ok (.ret u), told =>
    obtain ⟨v, G2, I3, ru, rfl, q2⟩ := I2.after told
    exact ⟨ru, V.ref (s1.heap.objs.size + 1), G2, I3, rfl, q2⟩
  | .ok .next, told => exact told.elim
  | .ok .brk, told => exact told.elim
  | .ok .cont, told => exact told.elim
end
end DaS
namespace DaS
open PySem PySem.Spec PyProof.Rows PySem.W L2
theorem low_range (n : Nat) : (List.range n).map (fun k => n - k) = ((List.range n).map (1 + ·)).reverse := by
  apply List.ext_getElem
  · simp
  · intro i h1 h2
    rw [List.length_map, List.length_range] at h1
    rw [List.getElem_map, List.getElem_range, List.getElem_reverse, List.getElem_map, List.getElem_range, List.length_map, List.length_range]
    omega
theorem low_bounds (n : Nat) : sliceBounds none (some 0) (some (-1)) n = ((n : Int) - 1, (if n = 0 then -1 else 0), -1) := by
  unfold sliceBounds
  show ((n : Int) - 1, max (-1) (min 0 ((n : Int) - 1)), (-1 : Int)) = _
  by_cases c : n = 0
  · rw [if_pos c, c]
    rfl
  · rw [if_neg c, show min (0 : Int) ((n : Int) - 1) = 0 by omega]
    rfl
theorem low_sliceRange (n : Nat) : sliceRange ((n : Int) - 1) (if n = 0 then -1 else 0) (-1) = (List.range (n - 1)).map fun k => n - 1 - k := by
  unfold sliceRange
  have h1 : ¬ ((-1 : Int) > 0) := by decide
  by_cases c : n = 0
  · subst c
    rfl
  · rw [if_neg c]
    by_cases h : (n : Int) - 1 > 0
    · have e : ((n : Int) - 1 - 0 - -1 - 1) / (- -1) = ((n - 1 : Nat) : Int) := by
        rw [show (- -1 : Int) = 1 by decide, Int.ediv_one]
        omega
      simp only [h1, if_false, h, if_true, e, Int.toNat_natCast]
      apply List.map_congr_left
      intro k hk
      have := List.mem_range.mp hk
      omega
    · have e : n = 1 := by omega
      subst e
      rfl
theorem low_pick (items : Array Value) : slicePick items none (some 0) (some (-1)) = items.toList.tail.reverse.toArray := by
  unfold slicePick
  rw [low_bounds]
  show ((sliceRange ((items.size : Int) - 1) (if items.size = 0 then -1 else 0) (-1)).filterMap (items[·]?)).toArray = _
  rw [low_sliceRange, low_range, List.filterMap_reverse, pick_run]
  congr 2
  rw [List.take_of_length_le (by rw [List.length_drop, Array.length_toList]; omega), List.drop_one]
section
variable {X : Cx} {e up st : Expr} {te tu tk : TE} {pos p2 : Pos}
/-- xs[:0:-1]: all but the first, backwards -/
def tLow (K : PySem.W.Frag) (te tu tk : TE) : TE := fun σ H Q => te σ H fun x H1 => tu σ H1 fun y H2 => y = .int 0 ∧ tk σ H2 fun z H3 => z = .int (-1) ∧ ∃ a xs, x = .ref a ∧ SqL K H3 a xs ∧ ∀ p, H3 p = none → Q (.ref p) (upd H3 p (.lst xs.tail.reverse))
theorem pe_low (he : PE X e te) (hu : PE X up tu) (hk : PE X st tk) : PE X (.Subscript e (.Slice none (some up) (some st) p2) pos) (tLow X.K te tu tk) := by
  refine ⟨fun pins s σ H Q I h => Subscript_ (thn (he.run pins s σ H _ I h) ?_)⟩
  rintro v s1 ⟨x, H1, I1, r1, q1⟩
  refine wpAny_Slice ?_
  rw [evalPart_none]
  refine wpAny_pure ?_
  rw [evalPart_some]
  refine thn (hu.run pins s1 σ H1 _ I1 q1) ?_
  rintro vu s2 ⟨y, H2, I2, ry, rfl, q2⟩
  rw [evalPart_some]
  refine thn (hk.run pins s2 σ H2 _ I2 q2) ?_
  rintro vk s3 ⟨z, H3, I3, rz, rfl, a, xs, rfl, hx, q⟩
  cases r1
  obtain ⟨tu3, rfl⟩ : ∃ t, vu = .int 0 t := by
    obtain ⟨t, e⟩ := ry
    exact ⟨t, e⟩
  obtain ⟨tk3, rfl⟩ : ∃ t, vk = .int (-1) t := by
    obtain ⟨t, e⟩ := rz
    exact ⟨t, e⟩
  have I4 : Inv X pins σ H3 { s3 with heap := s3.heap.push { cls := .type "slice", data := .fields #[.none, .int 0 tu3, .int (-1) tk3] } } := I3.kept (t' := s3.toks) fun b ob g => Heap.get?_push_of_some _ g
  obtain ⟨its, r, ht, hz⟩ := I4.list hx
  have rl := r.length
  have sl : ({ s3 with heap := s3.heap.push { cls := .type "slice", data := .fields #[.none, .int 0 tu3, .int (-1) tk3] } } : Shared).heap.IsSliceOf s3.heap.objs.size .none (.int 0 tu3) (.int (-1) tk3) := Heap.IsSliceOf.new ..
  refine tail_any (T := "list") (ops := [.ref a, .ref s3.heap.objs.size]) ht.isList.typeIs slot_list_getitem.lookup ?_ rfl
  refine wpAny_getItem_list_slice ht.isList sl .none (.int _ _) (.int _ _) (by decide) ?_ (by rw [List.size_toArray]; omega)
  rw [low_pick]
  have r' : Vals xs.tail its.tail := by
    cases r with
    | nil => exact .nil
    | cons _ r2 => exact r2
  refine ⟨.ref _, _, I4.laid (t' := s3.toks) (o := .lst xs.tail.reverse) (fun b ob g => Heap.get?_push_of_some _ g) (Nat.le_refl _) ?_, rfl, q _ (I4.hok.fresh (Nat.le_refl _))⟩
  exact ⟨by rw [List.length_reverse, List.length_tail]; omega, _, 0, r'.reverse, Heap.get?_push_size _ rfl⟩
end
end DaS

/-! states, walks along two states in turn, chains and rings -/
namespace Pv
open Pm
def gt (A : List Nat) (x : Nat) : Nat := A.getD x 0
/-- a state -/
structure Sta (A : List Nat) : Prop where
  lt : ∀ x, x < A.length → gt A x < A.length
  inv : ∀ x, x < A.length → gt A (gt A x) = x
def sel (A B : List Nat) (j : Nat) : List Nat := if j % 2 = 0 then A else B
theorem sel_len {A B : List Nat} (h : A.length = B.length) (j : Nat) : (sel A B j).length = A.length := by
  unfold sel
  split
  · rfl
  · exact h.symm
theorem sel_sta {A B : List Nat} (a : Sta A) (b : Sta B) (j : Nat) : Sta (sel A B j) := by
  unfold sel
  split
  · exact a
  · exact b
theorem sel_two {A B : List Nat} {i j : Nat} (h : i % 2 = j % 2) : sel A B i = sel A B j := by
  unfold sel
  rw [h]
/-- a walk that has not ended: from s along A and B in turn -/
structure Ptl (A B : List Nat) (s : Nat) (w : List Nat) : Prop where
  pos : 0 < w.length
  st : gt w 0 = s
  nd : w.Nodup
  lt : ∀ x ∈ w, x < A.length
  go : ∀ j, j + 1 < w.length → gt (sel A B j) (gt w j) = gt w (j + 1)
/-- a walk that has ended -/
structure Trl (A B : List Nat) (s : Nat) (w : List Nat) : Prop extends Ptl A B s w where
  fin : gt (sel A B (w.length - 1)) (gt w (w.length - 1)) = gt w (w.length - 1) ∨ gt (sel A B (w.length - 1)) (gt w (w.length - 1)) = s
theorem gt_mem {w : List Nat} {j : Nat} (h : j < w.length) : gt w j ∈ w := getD_mem h
theorem gt_inj {w : List Nat} (nd : w.Nodup) {i j : Nat} (hi : i < w.length) (hj : j < w.length) (h : gt w i = gt w j) : i = j := by
  unfold gt at h
  rw [List.getD_eq_getElem?_getD, List.getElem?_eq_getElem hi, List.getD_eq_getElem?_getD, List.getElem?_eq_getElem hj] at h
  exact (List.getElem_inj nd).mp h
theorem gt_append {w : List Nat} {y j : Nat} : gt (w ++ [y]) j = if j < w.length then gt w j else if j = w.length then y else 0 := by
  unfold gt
  rw [List.getD_eq_getElem?_getD, List.getElem?_append]
  split
  · rw [List.getD_eq_getElem?_getD]
  · rename_i c
    split
    · rename_i c2
      rw [c2, Nat.sub_self]
      rfl
    · rw [List.getElem?_eq_none (by simp; omega)]
      rfl
theorem nodup_len {w : List Nat} {n : Nat} (nd : w.Nodup) (lt : ∀ x ∈ w, x < n) : w.length ≤ n := by
  have hp : w.Perm ((List.range n).filter fun y => decide (y ∈ w)) := (List.perm_ext_iff_of_nodup nd (List.nodup_range.sublist List.filter_sublist)).mpr fun x => by
    rw [List.mem_filter, List.mem_range, decide_eq_true_eq]
    exact ⟨fun h => ⟨lt x h, h⟩, fun h => h.2⟩
  rw [hp.length_eq]
  exact Nat.le_trans (List.length_filter_le _ _) (by rw [List.length_range]; exact Nat.le_refl _)
/-- one step more -/
theorem Ptl.more {A B w : List Nat} {s : Nat} (h : A.length = B.length) (a : Sta A) (b : Sta B) (P : Ptl A B s w) (n1 : gt (sel A B (w.length - 1)) (gt w (w.length - 1)) ≠ gt w (w.length - 1)) (n2 : gt (sel A B (w.length - 1)) (gt w (w.length - 1)) ≠ s) :
    Ptl A B s (w ++ [gt (sel A B (w.length - 1)) (gt w (w.length - 1))]) := by
  have p := P.pos
  have hl := sel_len (A := A) (B := B) h
  have last := P.lt _ (gt_mem (show w.length - 1 < w.length by omega))
  have hy : gt (sel A B (w.length - 1)) (gt w (w.length - 1)) < A.length := by
    have := (sel_sta a b (w.length - 1)).lt _ (by rw [hl]; exact last)
    rw [hl] at this
    exact this
  refine ⟨by rw [List.length_append]; omega, ?_, ?_, fun x hx => ?_, fun j hj => ?_⟩
  · rw [gt_append, if_pos p]
    exact P.st
  · rw [List.nodup_append]
    refine ⟨P.nd, by simp, fun x hx y hy e => ?_⟩
    rw [List.mem_singleton.mp hy] at e
    obtain ⟨i, hi, hx⟩ := mem_getD hx
    have hx : gt w i = x := hx
    rw [← hx] at e
    by_cases c0 : i = 0
    · rw [c0, P.st] at e
      exact n2 e.symm
    · by_cases cl : i = w.length - 1
      · rw [cl] at e
        exact n1 e.symm
      · have hin := P.lt _ (gt_mem hi)
        have back : gt (sel A B (w.length - 1)) (gt w i) = gt w (w.length - 1) := by
          rw [e]
          exact (sel_sta a b _).inv _ (by rw [hl]; exact last)
        by_cases cp : (w.length - 1) % 2 = i % 2
        · rw [sel_two cp, P.go i (by omega)] at back
          have := gt_inj P.nd (by omega) (by omega) back
          omega
        · have e2 : gt (sel A B (i - 1)) (gt w i) = gt w (i - 1) := by
            have g := P.go (i - 1) (by omega)
            rw [show i - 1 + 1 = i by omega] at g
            rw [← g]
            exact (sel_sta a b _).inv _ (by rw [hl]; exact P.lt _ (gt_mem (by omega)))
          rw [sel_two (show (w.length - 1) % 2 = (i - 1) % 2 by omega), e2] at back
          have := gt_inj P.nd (by omega) (by omega) back
          omega
  · rcases List.mem_append.mp hx with hx | hx
    · exact P.lt x hx
    · rw [List.mem_singleton.mp hx]
      exact hy
  · rw [List.length_append, List.length_singleton] at hj
    rw [gt_append, if_pos (by omega), gt_append]
    by_cases c : j + 1 < w.length
    · rw [if_pos c]
      exact P.go j c
    · rw [if_neg c, if_pos (by omega), show w.length - 1 = j by omega]
theorem Ptl.ends {A B : List Nat} {s : Nat} (h : A.length = B.length) (a : Sta A) (b : Sta B) : ∀ (m : Nat) (w : List Nat), Ptl A B s w → A.length - w.length = m → ∃ w', Trl A B s w' := by
  intro m
  induction m with
  | zero =>
    intro w P hm
    by_cases c : gt (sel A B (w.length - 1)) (gt w (w.length - 1)) = gt w (w.length - 1) ∨ gt (sel A B (w.length - 1)) (gt w (w.length - 1)) = s
    · exact ⟨w, P, c⟩
    · have Q := P.more h a b (fun z => c (.inl z)) (fun z => c (.inr z))
      have := nodup_len Q.nd Q.lt
      rw [List.length_append, List.length_singleton] at this
      omega
  | succ m ih =>
    intro w P hm
    by_cases c : gt (sel A B (w.length - 1)) (gt w (w.length - 1)) = gt w (w.length - 1) ∨ gt (sel A B (w.length - 1)) (gt w (w.length - 1)) = s
    · exact ⟨w, P, c⟩
    · have Q := P.more h a b (fun z => c (.inl z)) (fun z => c (.inr z))
      exact ih _ Q (by rw [List.length_append, List.length_singleton]; omega)
theorem trl_ex {A B : List Nat} {s : Nat} (h : A.length = B.length) (a : Sta A) (b : Sta B) (hs : s < A.length) : ∃ w, Trl A B s w :=
  Ptl.ends h a b _ [s] ⟨Nat.succ_pos 0, rfl, by simp, fun x hx => by rw [List.mem_singleton.mp hx]; exact hs, fun j hj => absurd hj (by simp)⟩ rfl
theorem Trl.at_ {A B w w' : List Nat} {s : Nat} (T : Trl A B s w) (T' : Trl A B s w') : ∀ j, j < w.length → j < w'.length → gt w j = gt w' j
  | 0, _, _ => T.st.trans T'.st.symm
  | j + 1, h, h' => by rw [← T.go j h, ← T'.go j h', T.at_ T' j (by omega) (by omega)]
theorem Trl.le {A B w w' : List Nat} {s : Nat} (T : Trl A B s w) (T' : Trl A B s w') : w'.length ≤ w.length := by
  apply Nat.le_of_not_lt
  intro c
  have p := T.pos
  have e := T.at_ T' (w.length - 1) (by omega) (by omega)
  have g := T'.go (w.length - 1) (by omega)
  have f := T.fin
  rw [e, g] at f
  rcases f with f | f
  · have := gt_inj T'.nd (by omega) (by omega) f
    omega
  · rw [← T'.st] at f
    have := gt_inj T'.nd (by omega) (by omega) f
    omega
theorem ext_gt {w w' : List Nat} (hl : w.length = w'.length) (h : ∀ j, j < w.length → gt w j = gt w' j) : w = w' := by
  refine List.ext_getElem hl fun j h1 h2 => ?_
  have := h j h1
  unfold gt at this
  rw [List.getD_eq_getElem?_getD, List.getElem?_eq_getElem h1, List.getD_eq_getElem?_getD, List.getElem?_eq_getElem h2] at this
  exact this
theorem Trl.uniq {A B w w' : List Nat} {s : Nat} (T : Trl A B s w) (T' : Trl A B s w') : w = w' := by
  have hl := Nat.le_antisymm (T'.le T) (T.le T')
  exact ext_gt hl fun j hj => T.at_ T' j hj (by omega)
open Classical in
/-- the walk -/
noncomputable def walkF (A B : List Nat) (s : Nat) : List Nat := if h : ∃ w, Trl A B s w then Classical.choose h else []
theorem walkF_ok {A B : List Nat} {s : Nat} (h : ∃ w, Trl A B s w) : Trl A B s (walkF A B s) := by
  unfold walkF
  rw [dif_pos h]
  exact Classical.choose_spec h
theorem walkF_eq {A B w : List Nat} {s : Nat} (T : Trl A B s w) : walkF A B s = w := (walkF_ok ⟨w, T⟩).uniq T
/-- the part that holds x: a ring or not, its records -/
noncomputable def partF (A B : List Nat) (x : Nat) : Bool × List Nat :=
  if gt B x ∈ (walkF A B x).tail then (true, walkF A B x)
  else (false, if gt ((walkF B A x).tail.reverse ++ walkF A B x) 0 > gt ((walkF B A x).tail.reverse ++ walkF A B x) (((walkF B A x).tail.reverse ++ walkF A B x).length - 1) then ((walkF B A x).tail.reverse ++ walkF A B x).reverse else (walkF B A x).tail.reverse ++ walkF A B x)
noncomputable def partsF (A B : List Nat) : Nat → List (Bool × List Nat)
  | 0 => []
  | i + 1 => if gt A i ≠ gt B i ∧ i ∉ (partsF A B i).flatMap (·.2) then partsF A B i ++ [partF A B i] else partsF A B i
end Pv

/-! pieces laid out: free, pair, chain, ring -/
namespace Pv
open Pm
/-- a word, the records, which sort of link comes first -/
abbrev Pc := Nat × List Nat × Nat
/-- whom the k-th record shows in the row r -/
def nb (r w n s k : Nat) : Nat :=
  if w = 0 then k
  else if w = 1 then 1 - k
  else if (s + k) % 2 = r then (if k + 1 < n then k + 1 else if w = 3 then 0 else k)
  else (if 0 < k then k - 1 else if w = 3 then n - 1 else k)
structure PcOk (p : Pc) : Prop where
  w : p.1 < 4
  s : p.2.2 < 2
  nd : p.2.1.Nodup
  l0 : p.1 = 0 → p.2.1.length = 1
  l1 : p.1 = 1 → p.2.1.length = 2
  l2 : p.1 = 2 → 2 ≤ p.2.1.length
  l3 : p.1 = 3 → 4 ≤ p.2.1.length ∧ p.2.1.length % 2 = 0
def PcAt (A : List Nat) (r : Nat) (p : Pc) : Prop := ∀ k, k < p.2.1.length → gt A (gt p.2.1 k) = gt p.2.1 (nb r p.1 p.2.1.length p.2.2 k)
theorem PcOk.pos {p : Pc} (h : PcOk p) : 0 < p.2.1.length := by
  have h0 := h.l0
  have h1 := h.l1
  have h2 := h.l2
  have h3 := h.l3
  have hw := h.w
  omega
theorem nb_lt {p : Pc} (h : PcOk p) {r k : Nat} (hk : k < p.2.1.length) : nb r p.1 p.2.1.length p.2.2 k < p.2.1.length := by
  have h0 := h.l0
  have h1 := h.l1
  have h2 := h.l2
  have h3 := h.l3
  unfold nb
  split
  · exact hk
  · split
    · omega
    · split
      · split
        · omega
        · split <;> omega
      · split
        · omega
        · split <;> omega
theorem gt_drop {l : List Nat} {q j : Nat} : gt (l.drop q) j = gt l (q + j) := by
  unfold gt
  rw [List.getD_eq_getElem?_getD, List.getElem?_drop, List.getD_eq_getElem?_getD]
theorem gt_take {l : List Nat} {q j : Nat} (h : j < q) : gt (l.take q) j = gt l j := by
  unfold gt
  rw [List.getD_eq_getElem?_getD, List.getElem?_take_of_lt h, List.getD_eq_getElem?_getD]
theorem gt_app {l m : List Nat} {j : Nat} : gt (l ++ m) j = if j < l.length then gt l j else gt m (j - l.length) := by
  unfold gt
  rw [List.getD_eq_getElem?_getD, List.getElem?_append]
  split
  · rw [List.getD_eq_getElem?_getD]
  · rw [List.getD_eq_getElem?_getD]
theorem gt_rev {l : List Nat} {j : Nat} (h : j < l.length) : gt l.reverse j = gt l (l.length - 1 - j) := by
  unfold gt
  rw [List.getD_eq_getElem?_getD, List.getElem?_reverse h, List.getD_eq_getElem?_getD]
/-- a walk told by places -/
theorem trl_of {A B : List Nat} {p : Pc} {r q m : Nat} {ix : Nat → Nat} {W : List Nat} (ok : PcOk p) (hr : r < 2) (a : PcAt A r p) (b : PcAt B (1 - r) p) (lt : ∀ x ∈ p.2.1, x < A.length) (hm : 0 < m) (hl : W.length = m) (h0 : ix 0 = q)
    (hi : ∀ j, j < m → ix j < p.2.1.length) (inj : ∀ i j, i < m → j < m → ix i = ix j → i = j) (hW : ∀ j, j < m → gt W j = gt p.2.1 (ix j)) (go : ∀ j, j + 1 < m → nb ((r + j) % 2) p.1 p.2.1.length p.2.2 (ix j) = ix (j + 1))
    (fin : nb ((r + (m - 1)) % 2) p.1 p.2.1.length p.2.2 (ix (m - 1)) = ix (m - 1) ∨ nb ((r + (m - 1)) % 2) p.1 p.2.1.length p.2.2 (ix (m - 1)) = q) : Trl A B (gt p.2.1 q) W := by
  have row : ∀ j k, k < p.2.1.length → gt (sel A B j) (gt p.2.1 k) = gt p.2.1 (nb ((r + j) % 2) p.1 p.2.1.length p.2.2 k) := fun j k hk => by
    unfold sel
    by_cases c : j % 2 = 0
    · rw [if_pos c, show (r + j) % 2 = r by omega]
      exact a k hk
    · rw [if_neg c, show (r + j) % 2 = 1 - r by omega]
      exact b k hk
  refine ⟨⟨by omega, by rw [hW 0 hm, h0], ?_, fun x hx => ?_, fun j hj => ?_⟩, ?_⟩
  · rw [List.nodup_iff_pairwise_ne, List.pairwise_iff_getElem]
    intro i j hi' hj' hij e
    have ei : W[i] = gt W i := by
      unfold gt
      rw [List.getD_eq_getElem?_getD, List.getElem?_eq_getElem hi']
      rfl
    have ej : W[j] = gt W j := by
      unfold gt
      rw [List.getD_eq_getElem?_getD, List.getElem?_eq_getElem hj']
      rfl
    rw [ei, ej, hW i (by omega), hW j (by omega)] at e
    have := inj i j (by omega) (by omega) (gt_inj ok.nd (hi i (by omega)) (hi j (by omega)) e)
    omega
  · obtain ⟨j, hj, hx⟩ := mem_getD hx
    have hx : gt W j = x := hx
    rw [← hx, hW j (by omega)]
    exact lt _ (gt_mem (hi j (by omega)))
  · rw [hl] at hj
    rw [hW j (by omega), row j _ (hi j (by omega)), go j hj, hW (j + 1) hj]
  · rw [hl, hW (m - 1) (by omega), row _ _ (hi _ (by omega))]
    rcases fin with f | f
    · left
      rw [f]
    · right
      rw [f]
section
variable {A B : List Nat} {p : Pc} {r q : Nat}
theorem trl_up2 (ok : PcOk p) (hw : p.1 = 2) (hr : r < 2) (a : PcAt A r p) (b : PcAt B (1 - r) p) (lt : ∀ x ∈ p.2.1, x < A.length) (hq : q < p.2.1.length) (par : (p.2.2 + q) % 2 = r) : Trl A B (gt p.2.1 q) (p.2.1.drop q) := by
  refine trl_of (m := p.2.1.length - q) (ix := fun j => q + j) ok hr a b lt (by omega) (by rw [List.length_drop]) rfl (fun j hj => by show q + j < _; omega) (fun i j _ _ e => by have e : q + i = q + j := e; omega) (fun j _ => gt_drop) (fun j hj => ?_) (.inl ?_)
  · show nb _ _ _ _ (q + j) = q + (j + 1)
    unfold nb
    rw [if_neg (by omega), if_neg (by omega), if_pos (by omega), if_pos (by omega)]
    rfl
  · show nb _ _ _ _ (q + (p.2.1.length - q - 1)) = q + (p.2.1.length - q - 1)
    unfold nb
    rw [if_neg (by omega), if_neg (by omega), if_pos (by omega), if_neg (by omega), if_neg (by omega)]
theorem trl_dn2 (ok : PcOk p) (hw : p.1 = 2) (hr : r < 2) (a : PcAt A r p) (b : PcAt B (1 - r) p) (lt : ∀ x ∈ p.2.1, x < A.length) (hq : q < p.2.1.length) (par : (p.2.2 + q) % 2 ≠ r) : Trl A B (gt p.2.1 q) (p.2.1.take (q + 1)).reverse := by
  have tl : (p.2.1.take (q + 1)).length = q + 1 := by rw [List.length_take]; omega
  refine trl_of (m := q + 1) (ix := fun j => q - j) ok hr a b lt (by omega) (by rw [List.length_reverse, tl]) rfl (fun j hj => by show q - j < _; omega) (fun i j _ _ e => by have e : q - i = q - j := e; omega) (fun j hj => ?_) (fun j hj => ?_) (.inl ?_)
  · rw [gt_rev (by omega), tl, gt_take (by omega)]
    congr 1
  · show nb _ _ _ _ (q - j) = q - (j + 1)
    unfold nb
    rw [if_neg (by omega), if_neg (by omega), if_neg (by omega), if_pos (by omega)]
    omega
  · show nb _ _ _ _ (q - (q + 1 - 1)) = q - (q + 1 - 1)
    unfold nb
    rw [if_neg (by omega), if_neg (by omega), if_neg (by omega), if_neg (by omega), if_neg (by omega)]
theorem trl_up3 (ok : PcOk p) (hw : p.1 = 3) (hr : r < 2) (a : PcAt A r p) (b : PcAt B (1 - r) p) (lt : ∀ x ∈ p.2.1, x < A.length) (hq : q < p.2.1.length) (par : (p.2.2 + q) % 2 = r) : Trl A B (gt p.2.1 q) (p.2.1.drop q ++ p.2.1.take q) := by
  obtain ⟨n4, n2⟩ := ok.l3 hw
  have tl : (p.2.1.take q).length = q := by rw [List.length_take]; omega
  refine trl_of (m := p.2.1.length) (ix := fun j => if q + j < p.2.1.length then q + j else q + j - p.2.1.length) ok hr a b lt (by omega) (by rw [List.length_append, List.length_drop, tl]; omega) (by show (if q + 0 < _ then q + 0 else _) = q; rw [if_pos (by omega)]; rfl) (fun j hj => ?_) (fun i j hi hj e => ?_) (fun j hj => ?_) (fun j hj => ?_) (.inr ?_)
  · show (if q + j < p.2.1.length then q + j else q + j - p.2.1.length) < _
    split <;> omega
  · have e : (if q + i < p.2.1.length then q + i else q + i - p.2.1.length) = (if q + j < p.2.1.length then q + j else q + j - p.2.1.length) := e
    split at e <;> split at e <;> omega
  · show _ = gt p.2.1 (if q + j < p.2.1.length then q + j else q + j - p.2.1.length)
    rw [gt_app, List.length_drop]
    by_cases c : q + j < p.2.1.length
    · rw [if_pos (by omega), if_pos c, gt_drop]
    · rw [if_neg (by omega), if_neg c, gt_take (by omega)]
      congr 1
      omega
  · show nb _ _ _ _ (if q + j < p.2.1.length then q + j else q + j - p.2.1.length) = (if q + (j + 1) < p.2.1.length then q + (j + 1) else q + (j + 1) - p.2.1.length)
    unfold nb
    rw [if_neg (by omega), if_neg (by omega)]
    by_cases c : q + j < p.2.1.length
    · rw [if_pos c, if_pos (by omega)]
      by_cases c2 : q + j + 1 < p.2.1.length
      · rw [if_pos c2, if_pos (by omega)]
        omega
      · rw [if_neg c2, if_pos hw, if_neg (by omega)]
        omega
    · rw [if_neg c, if_pos (by omega), if_pos (by omega), if_neg (by omega)]
      omega
  · show nb _ _ _ _ (if q + (p.2.1.length - 1) < p.2.1.length then q + (p.2.1.length - 1) else q + (p.2.1.length - 1) - p.2.1.length) = q
    unfold nb
    rw [if_neg (by omega), if_neg (by omega)]
    by_cases c : q + (p.2.1.length - 1) < p.2.1.length
    · rw [if_pos c, if_pos (by omega), if_neg (by omega), if_pos hw]
      omega
    · rw [if_neg c, if_pos (by omega), if_pos (by omega)]
      omega
theorem trl_dn3 (ok : PcOk p) (hw : p.1 = 3) (hr : r < 2) (a : PcAt A r p) (b : PcAt B (1 - r) p) (lt : ∀ x ∈ p.2.1, x < A.length) (hq : q < p.2.1.length) (par : (p.2.2 + q) % 2 ≠ r) : Trl A B (gt p.2.1 q) ((p.2.1.take (q + 1)).reverse ++ (p.2.1.drop (q + 1)).reverse) := by
  obtain ⟨n4, n2⟩ := ok.l3 hw
  have tl : (p.2.1.take (q + 1)).length = q + 1 := by rw [List.length_take]; omega
  have dl : (p.2.1.drop (q + 1)).length = p.2.1.length - (q + 1) := by rw [List.length_drop]
  refine trl_of (m := p.2.1.length) (ix := fun j => if j ≤ q then q - j else q + p.2.1.length - j) ok hr a b lt (by omega) (by rw [List.length_append, List.length_reverse, List.length_reverse, tl, dl]; omega) (by show (if 0 ≤ q then q - 0 else _) = q; rw [if_pos (by omega)]; rfl) (fun j hj => ?_) (fun i j hi hj e => ?_) (fun j hj => ?_) (fun j hj => ?_) (.inr ?_)
  · show (if j ≤ q then q - j else q + p.2.1.length - j) < _
    split <;> omega
  · have e : (if i ≤ q then q - i else q + p.2.1.length - i) = (if j ≤ q then q - j else q + p.2.1.length - j) := e
    split at e <;> split at e <;> omega
  · show _ = gt p.2.1 (if j ≤ q then q - j else q + p.2.1.length - j)
    rw [gt_app, List.length_reverse, tl]
    by_cases c : j ≤ q
    · rw [if_pos (by omega), if_pos c, gt_rev (by omega), tl, gt_take (by omega)]
      congr 1
    · rw [if_neg (by omega), if_neg c, gt_rev (by omega), dl, gt_drop]
      congr 1
      omega
  · show nb _ _ _ _ (if j ≤ q then q - j else q + p.2.1.length - j) = (if j + 1 ≤ q then q - (j + 1) else q + p.2.1.length - (j + 1))
    unfold nb
    rw [if_neg (by omega), if_neg (by omega)]
    by_cases c : j ≤ q
    · rw [if_pos c, if_neg (by omega)]
      by_cases c2 : j = q
      · rw [if_neg (by omega), if_pos hw, if_neg (by omega)]
        omega
      · rw [if_pos (by omega), if_pos (by omega)]
        omega
    · rw [if_neg c, if_neg (by omega), if_pos (by omega), if_neg (by omega)]
      omega
  · show nb _ _ _ _ (if p.2.1.length - 1 ≤ q then q - (p.2.1.length - 1) else q + p.2.1.length - (p.2.1.length - 1)) = q
    unfold nb
    rw [if_neg (by omega), if_neg (by omega)]
    by_cases c : p.2.1.length - 1 ≤ q
    · rw [if_pos c, if_neg (by omega), if_neg (by omega), if_pos hw]
      omega
    · rw [if_neg c, if_neg (by omega), if_pos (by omega)]
      omega
end
end Pv

/-! the parts of pieces laid out -/
namespace Pv
open Pm
/-- how a chain or a ring is written -/
def canonP (A : List Nat) (p : Pc) : List Nat :=
  if p.1 = 2 then (if gt p.2.1 (p.2.1.length - 1) < gt p.2.1 0 then p.2.1.reverse else p.2.1)
  else if gt A (gt (p.2.1.drop (p.2.1.idxOf (mn p.2.1)) ++ p.2.1.take (p.2.1.idxOf (mn p.2.1))) 0) ≠ gt (p.2.1.drop (p.2.1.idxOf (mn p.2.1)) ++ p.2.1.take (p.2.1.idxOf (mn p.2.1))) 1
    then (p.2.1.drop (p.2.1.idxOf (mn p.2.1)) ++ p.2.1.take (p.2.1.idxOf (mn p.2.1))).take 1 ++ (p.2.1.drop (p.2.1.idxOf (mn p.2.1)) ++ p.2.1.take (p.2.1.idxOf (mn p.2.1))).tail.reverse
    else p.2.1.drop (p.2.1.idxOf (mn p.2.1)) ++ p.2.1.take (p.2.1.idxOf (mn p.2.1))
theorem take_succ' {l : List Nat} {q : Nat} (h : q < l.length) : l.take (q + 1) = l.take q ++ [gt l q] := by
  unfold gt
  rw [List.take_add_one, List.getElem?_eq_getElem h, List.getD_eq_getElem?_getD, List.getElem?_eq_getElem h]
  rfl
theorem drop_cons' {l : List Nat} {q : Nat} (h : q < l.length) : l.drop q = gt l q :: l.drop (q + 1) := by
  unfold gt
  rw [List.drop_eq_getElem_cons h, List.getD_eq_getElem?_getD, List.getElem?_eq_getElem h]
  rfl
theorem rev_take {l : List Nat} {q : Nat} (h : q < l.length) : (l.take (q + 1)).reverse = gt l q :: (l.take q).reverse := by
  rw [take_succ' h, List.reverse_append]
  rfl
section
variable {A B : List Nat} {p : Pc} {r q : Nat}
theorem gt_lt' (l : List Nat) {x : Nat} : (¬ gt l 0 > gt l (l.length - 1)) = ¬ gt l (l.length - 1) < gt l 0 := rfl
theorem idx_gt {l : List Nat} {x : Nat} (h : x ∈ l) : l.idxOf x < l.length ∧ gt l (l.idxOf x) = x := by
  have hl := List.idxOf_lt_length_of_mem h
  refine ⟨hl, ?_⟩
  unfold gt
  rw [List.getD_eq_getElem?_getD, List.getElem?_eq_getElem hl]
  exact List.getElem_idxOf hl
/-- a chain from its lesser end: the same from both ends -/
def lessE (l : List Nat) : List Nat := if gt l 0 > gt l (l.length - 1) then l.reverse else l
theorem lessE_rev {l : List Nat} (nd : l.Nodup) (h2 : 2 ≤ l.length) : lessE l.reverse = lessE l := by
  have hl : l.reverse.length = l.length := List.length_reverse
  unfold lessE
  rw [hl, gt_rev (by omega), gt_rev (by omega), show l.length - 1 - 0 = l.length - 1 by omega, show l.length - 1 - (l.length - 1) = 0 by omega, List.reverse_reverse]
  have ne : gt l 0 ≠ gt l (l.length - 1) := fun e => by
    have := gt_inj nd (by omega) (by omega) e
    omega
  by_cases c : gt l (l.length - 1) > gt l 0
  · rw [if_pos c, if_neg (by omega)]
  · rw [if_neg c, if_pos (by omega)]
theorem part_chain (ok : PcOk p) (hw : p.1 = 2) (hr : r < 2) (a : PcAt A r p) (b : PcAt B (1 - r) p) (hl : A.length = B.length) (lt : ∀ x ∈ p.2.1, x < A.length) (hq : q < p.2.1.length) : partF A B (gt p.2.1 q) = (false, lessE p.2.1) := by
  have n2 := ok.l2 hw
  have b' : PcAt A (1 - (1 - r)) p := by rw [show 1 - (1 - r) = r by omega]; exact a
  have lt' : ∀ x ∈ p.2.1, x < B.length := fun x hx => by rw [← hl]; exact lt x hx
  have other : gt B (gt p.2.1 q) = gt p.2.1 (nb (1 - r) p.1 p.2.1.length p.2.2 q) := b q hq
  have pars := ok.s
  by_cases c : (p.2.2 + q) % 2 = r
  · have w1 := walkF_eq (trl_up2 ok hw hr a b lt hq c)
    have w2 := walkF_eq (trl_dn2 ok hw (by omega) b b' lt' hq (by omega))
    have no : gt B (gt p.2.1 q) ∉ (p.2.1.drop q).tail := by
      rw [List.tail_drop, other]
      intro h
      obtain ⟨j, hj, e⟩ := mem_getD h
      rw [List.length_drop] at hj
      have e : gt (p.2.1.drop (q + 1)) j = _ := e
      rw [gt_drop] at e
      have e := gt_inj ok.nd (by omega) (nb_lt ok hq) e
      unfold nb at e
      rw [if_neg (by omega), if_neg (by omega), if_neg (by omega)] at e
      split at e
      · omega
      · rw [if_neg (by omega)] at e
        omega
    have row : (p.2.1.take (q + 1)).reverse.tail.reverse ++ p.2.1.drop q = p.2.1 := by
      rw [rev_take hq]
      show (p.2.1.take q).reverse.reverse ++ _ = _
      rw [List.reverse_reverse, List.take_append_drop]
    unfold partF
    rw [w1, w2, if_neg no, row]
    rfl
  · have w1 := walkF_eq (trl_dn2 ok hw hr a b lt hq c)
    have w2 := walkF_eq (trl_up2 ok hw (by omega) b b' lt' hq (by omega))
    have no : gt B (gt p.2.1 q) ∉ (p.2.1.take (q + 1)).reverse.tail := by
      rw [rev_take hq, other]
      show _ ∉ (p.2.1.take q).reverse
      rw [List.mem_reverse]
      intro h
      obtain ⟨j, hj, e⟩ := mem_getD h
      rw [List.length_take] at hj
      have e : gt (p.2.1.take q) j = _ := e
      rw [gt_take (by omega)] at e
      have e := gt_inj ok.nd (by omega) (nb_lt ok hq) e
      unfold nb at e
      rw [if_neg (by omega), if_neg (by omega), if_pos (by omega)] at e
      split at e
      · omega
      · rw [if_neg (by omega)] at e
        omega
    have row : (p.2.1.drop q).tail.reverse ++ (p.2.1.take (q + 1)).reverse = p.2.1.reverse := by
      rw [List.tail_drop, ← List.reverse_append, List.take_append_drop]
    unfold partF
    rw [w1, w2, if_neg no, row]
    exact congrArg (Prod.mk false) (lessE_rev ok.nd n2)
theorem part_ring (ok : PcOk p) (hw : p.1 = 3) (hr : r < 2) (a : PcAt A r p) (b : PcAt B (1 - r) p) (hl : A.length = B.length) (lt : ∀ x ∈ p.2.1, x < A.length) : partF A B (mn p.2.1) = (true, canonP A p) := by
  obtain ⟨n4, n2⟩ := ok.l3 hw
  have hm : mn p.2.1 ∈ p.2.1 := mn_mem (fun z => by rw [z] at n4; simp at n4)
  obtain ⟨hq, eq⟩ := idx_gt hm
  have pars := ok.s
  unfold canonP
  rw [if_neg (by omega)]
  generalize p.2.1.idxOf (mn p.2.1) = q at hq eq ⊢
  rw [← eq]
  have other : gt B (gt p.2.1 q) = gt p.2.1 (nb (1 - r) p.1 p.2.1.length p.2.2 q) := b q hq
  have mine : gt A (gt p.2.1 q) = gt p.2.1 (nb r p.1 p.2.1.length p.2.2 q) := a q hq
  have tl : (p.2.1.take q).length = q := by rw [List.length_take]; omega
  have f0 : gt (p.2.1.drop q ++ p.2.1.take q) 0 = gt p.2.1 q := by
    rw [gt_app, List.length_drop, if_pos (by omega), gt_drop]
    rfl
  have f1 : gt (p.2.1.drop q ++ p.2.1.take q) 1 = gt p.2.1 (if q + 1 < p.2.1.length then q + 1 else 0) := by
    rw [gt_app, List.length_drop]
    by_cases c : q + 1 < p.2.1.length
    · rw [if_pos (by omega), if_pos c, gt_drop]
    · rw [if_neg (by omega), if_neg c, gt_take (by omega)]
      congr 1
      omega
  have mem_at : ∀ k, k < p.2.1.length → k ≠ q → gt p.2.1 k ∈ p.2.1.drop (q + 1) ++ p.2.1.take q := fun k hk hn => by
    rw [List.mem_append]
    by_cases c : k < q
    · right
      have : gt (p.2.1.take q) k = gt p.2.1 k := gt_take c
      rw [← this]
      exact gt_mem (by omega)
    · left
      have : gt (p.2.1.drop (q + 1)) (k - (q + 1)) = gt p.2.1 k := by
        rw [gt_drop]
        congr 1
        omega
      rw [← this]
      exact gt_mem (by rw [List.length_drop]; omega)
  have nbne : ∀ r', nb r' p.1 p.2.1.length p.2.2 q ≠ q := fun r' => by
    unfold nb
    rw [if_neg (by omega), if_neg (by omega)]
    split
    · split
      · omega
      · omega
    · split
      · omega
      · omega
  by_cases c : (p.2.2 + q) % 2 = r
  · have w1 := walkF_eq (trl_up3 ok hw hr a b lt hq c)
    have e1 : gt A (gt p.2.1 q) = gt p.2.1 (if q + 1 < p.2.1.length then q + 1 else 0) := by
      rw [mine]
      unfold nb
      rw [if_neg (by omega), if_neg (by omega), if_pos c]
      split <;> rfl
    rw [f0, f1, if_neg (fun h => h e1)]
    unfold partF
    rw [w1, if_pos]
    rw [drop_cons' hq]
    show _ ∈ p.2.1.drop (q + 1) ++ p.2.1.take q
    rw [other]
    exact mem_at _ (nb_lt ok hq) (nbne _)
  · have w1 := walkF_eq (trl_dn3 ok hw hr a b lt hq c)
    have e1 : gt A (gt p.2.1 q) ≠ gt p.2.1 (if q + 1 < p.2.1.length then q + 1 else 0) := by
      rw [mine]
      intro e
      have e := gt_inj ok.nd (nb_lt ok hq) (by split <;> omega) e
      unfold nb at e
      rw [if_neg (by omega), if_neg (by omega), if_neg c] at e
      split at e
      · split at e <;> omega
      · split at e <;> omega
    rw [f0, f1, if_pos e1]
    unfold partF
    rw [w1, rev_take hq, if_pos]
    · rw [drop_cons' hq]
      show _ = (true, [gt p.2.1 q] ++ (p.2.1.drop (q + 1) ++ p.2.1.take q).reverse)
      rw [List.reverse_append]
      rfl
    · show _ ∈ (p.2.1.take q).reverse ++ (p.2.1.drop (q + 1)).reverse
      rw [← List.reverse_append, List.mem_reverse, other]
      exact mem_at _ (nb_lt ok hq) (nbne _)
end
end Pv

/-! the parts of two states put together of pieces; gains and entries -/
namespace Pv
open Pm
theorem uniqF {α : Type} {f : α → List Nat} : ∀ {ps : List α} {p q : α} {x : Nat}, (ps.flatMap f).Nodup → p ∈ ps → q ∈ ps → x ∈ f p → x ∈ f q → p = q
  | [], p, q, x, _, hp, _, _, _ => by cases hp
  | a :: ps, p, q, x, nd, hp, hq, xp, xq => by
    rw [List.flatMap_cons, List.nodup_append] at nd
    rcases List.mem_cons.mp hp with e1 | m1
    · rcases List.mem_cons.mp hq with e2 | m2
      · rw [e1, e2]
      · rw [e1] at xp
        exact absurd rfl (nd.2.2 x xp x (List.mem_flatMap.mpr ⟨q, m2, xq⟩))
    · rcases List.mem_cons.mp hq with e2 | m2
      · rw [e2] at xq
        exact absurd rfl (nd.2.2 x xq x (List.mem_flatMap.mpr ⟨p, m1, xp⟩))
      · exact uniqF nd.2.1 m1 m2 xp xq
theorem nb_cr {r w n s k : Nat} (h : 1 < w) : nb r w n s k = if (s + k) % 2 = r then (if k + 1 < n then k + 1 else if w = 3 then 0 else k) else (if 0 < k then k - 1 else if w = 3 then n - 1 else k) := by
  unfold nb
  rw [if_neg (by omega), if_neg (by omega)]
structure Bl (A B : List Nat) (f : Nat) (ps : List Pc) (n : Nat) : Prop where
  la : A.length = n
  lb : B.length = n
  hf : f < 2
  perm : (ps.flatMap (·.2.1)).Perm (List.range n)
  ok : ∀ p ∈ ps, PcOk p
  at_ : ∀ p ∈ ps, PcAt A f p ∧ PcAt B (1 - f) p
theorem Bl.swap {A B : List Nat} {f n : Nat} {ps : List Pc} (b : Bl A B f ps n) : Bl B A (1 - f) ps n :=
  ⟨b.lb, b.la, by omega, b.perm, b.ok, fun p hp => ⟨(b.at_ p hp).2, by rw [show 1 - (1 - f) = f by have := b.hf; omega]; exact (b.at_ p hp).1⟩⟩
def isCR (p : Pc) : Bool := decide (1 < p.1)
def atJ (ps : List Pc) (x : Nat) : Option Pc := ps.find? fun p => isCR p && decide (mn p.2.1 = x)
def psJ (ps : List Pc) (j : Nat) : List Pc := (List.range j).filterMap (atJ ps)
theorem psJ_step {ps : List Pc} {j : Nat} : psJ ps (j + 1) = psJ ps j ++ (match atJ ps j with | none => [] | some b => [b]) := by
  unfold psJ
  rw [List.range_succ, List.filterMap_append]
  congr 1
  rw [List.filterMap_cons, List.filterMap_nil]
  cases atJ ps j <;> rfl
def outP (A : List Nat) (p : Pc) : Bool × List Nat := (decide (p.1 = 3), canonP A p)
theorem canonP_perm {A : List Nat} {p : Pc} : (canonP A p).Perm p.2.1 := by
  have ring : (p.2.1.drop (p.2.1.idxOf (mn p.2.1)) ++ p.2.1.take (p.2.1.idxOf (mn p.2.1))).Perm p.2.1 := by
    refine List.perm_append_comm.trans ?_
    rw [List.take_append_drop]
  unfold canonP
  split
  · split
    · exact List.reverse_perm _
    · exact .refl _
  · split
    · refine List.Perm.trans ?_ ring
      generalize p.2.1.drop (p.2.1.idxOf (mn p.2.1)) ++ p.2.1.take (p.2.1.idxOf (mn p.2.1)) = l
      cases l with
      | nil => exact .refl _
      | cons a l => exact (List.reverse_perm l).cons a
    · exact ring
section
variable {A B : List Nat} {f n : Nat} {ps : List Pc}
theorem Bl.nd (b : Bl A B f ps n) : (ps.flatMap (·.2.1)).Nodup := b.perm.nodup_iff.mpr List.nodup_range
theorem Bl.lt (b : Bl A B f ps n) {p : Pc} (hp : p ∈ ps) : ∀ x ∈ p.2.1, x < n := fun x hx => List.mem_range.mp (b.perm.mem_iff.mp (List.mem_flatMap.mpr ⟨p, hp, hx⟩))
theorem Bl.own (b : Bl A B f ps n) {x : Nat} (hx : x < n) : ∃ p ∈ ps, x ∈ p.2.1 := List.mem_flatMap.mp (b.perm.mem_iff.mpr (List.mem_range.mpr hx))
theorem Bl.uq (b : Bl A B f ps n) {p q : Pc} {x : Nat} (hp : p ∈ ps) (hq : q ∈ ps) (h1 : x ∈ p.2.1) (h2 : x ∈ q.2.1) : p = q := uniqF b.nd hp hq h1 h2
theorem mn_in {p : Pc} (ok : PcOk p) : mn p.2.1 ∈ p.2.1 := mn_mem (fun z => by have := ok.pos; rw [z] at this; simp at this)
theorem atJ_some {x : Nat} {p : Pc} (h : atJ ps x = some p) : p ∈ ps ∧ 1 < p.1 ∧ mn p.2.1 = x := by
  unfold atJ at h
  have h1 := List.mem_of_find?_eq_some h
  have h2 := List.find?_some h
  rw [Bool.and_eq_true] at h2
  exact ⟨h1, of_decide_eq_true h2.1, of_decide_eq_true h2.2⟩
theorem Bl.atJ_is (b : Bl A B f ps n) {p : Pc} (hp : p ∈ ps) (h1 : 1 < p.1) : atJ ps (mn p.2.1) = some p := by
  cases h : atJ ps (mn p.2.1) with
  | none =>
    unfold atJ at h
    have := List.find?_eq_none.mp h p hp
    rw [show isCR p = true from decide_eq_true h1, decide_eq_true rfl] at this
    exact absurd rfl this
  | some q =>
    obtain ⟨hq, h2, h3⟩ := atJ_some h
    have e : q = p := b.uq hq hp (h3 ▸ mn_in (b.ok q hq)) (mn_in (b.ok p hp))
    rw [e]
theorem Bl.parts (b : Bl A B f ps n) : ∀ i, i ≤ n → partsF A B i = (psJ ps i).map (outP A)
  | 0, _ => rfl
  | i + 1, h => by
    have ih := b.parts i (by omega)
    have hi : i < n := h
    obtain ⟨p, hp, hx⟩ := b.own hi
    have ok := b.ok p hp
    obtain ⟨aA, aB⟩ := b.at_ p hp
    obtain ⟨q, hq, eq⟩ := mem_getD hx
    have eq : gt p.2.1 q = i := eq
    have hw4 := ok.w
    have hs := ok.s
    have hf := b.hf
    have seen : i ∈ (partsF A B i).flatMap (·.2) ↔ 1 < p.1 ∧ mn p.2.1 < i := by
      rw [ih, List.mem_flatMap]
      constructor
      · rintro ⟨c, hc, hic⟩
        obtain ⟨p', hp', rfl⟩ := List.mem_map.mp hc
        obtain ⟨x, hxr, hxs⟩ := List.mem_filterMap.mp hp'
        obtain ⟨m1, m2, m3⟩ := atJ_some hxs
        have hic : i ∈ p'.2.1 := canonP_perm.mem_iff.mp hic
        have := b.uq m1 hp hic hx
        subst this
        rw [m3]
        exact ⟨m2, List.mem_range.mp hxr⟩
      · rintro ⟨h1, h2⟩
        exact ⟨outP A p, List.mem_map.mpr ⟨p, List.mem_filterMap.mpr ⟨_, List.mem_range.mpr h2, b.atJ_is hp h1⟩, rfl⟩, canonP_perm.mem_iff.mpr hx⟩
    show (if gt A i ≠ gt B i ∧ i ∉ (partsF A B i).flatMap (·.2) then partsF A B i ++ [partF A B i] else partsF A B i) = _
    have eA : gt A i = gt p.2.1 (nb f p.1 p.2.1.length p.2.2 q) := by rw [← eq]; exact aA q hq
    have eB : gt B i = gt p.2.1 (nb (1 - f) p.1 p.2.1.length p.2.2 q) := by rw [← eq]; exact aB q hq
    rw [psJ_step]
    by_cases c1 : 1 < p.1
    · have differ : gt A i ≠ gt B i := by
        rw [eA, eB]
        intro e
        have e := gt_inj ok.nd (nb_lt ok hq) (nb_lt ok hq) e
        have l2 := ok.l2
        have l3 := ok.l3
        have np : nb f p.1 p.2.1.length p.2.2 q ≠ nb (1 - f) p.1 p.2.1.length p.2.2 q := by
          rw [nb_cr c1, nb_cr c1]
          by_cases par : (p.2.2 + q) % 2 = f
          · have p2 : ¬ (p.2.2 + q) % 2 = 1 - f := by omega
            rw [if_pos par, if_neg p2]
            by_cases c3 : p.1 = 3
            · obtain ⟨n4, n2⟩ := l3 c3
              rw [if_pos c3, if_pos c3]
              by_cases d1 : q + 1 < p.2.1.length
              · rw [if_pos d1]
                split <;> omega
              · rw [if_neg d1, if_pos (show 0 < q by omega)]
                omega
            · have := l2 (by omega)
              rw [if_neg c3, if_neg c3]
              by_cases d1 : q + 1 < p.2.1.length
              · rw [if_pos d1]
                split <;> omega
              · rw [if_neg d1, if_pos (show 0 < q by omega)]
                omega
          · have p2 : (p.2.2 + q) % 2 = 1 - f := by omega
            rw [if_neg par, if_pos p2]
            by_cases c3 : p.1 = 3
            · obtain ⟨n4, n2⟩ := l3 c3
              rw [if_pos c3, if_pos c3]
              by_cases d1 : q + 1 < p.2.1.length
              · rw [if_pos d1]
                split <;> omega
              · rw [if_neg d1, if_pos (show 0 < q by omega)]
                omega
            · have := l2 (by omega)
              rw [if_neg c3, if_neg c3]
              by_cases d1 : q + 1 < p.2.1.length
              · rw [if_pos d1]
                split <;> omega
              · rw [if_neg d1, if_pos (show 0 < q by omega)]
                omega
        exact np e
      by_cases cm : mn p.2.1 = i
      · have at_i : atJ ps i = some p := by rw [← cm]; exact b.atJ_is hp c1
        rw [at_i, if_pos ⟨differ, fun h => by have := (seen.mp h).2; omega⟩, ih, List.map_append]
        congr 1
        show [partF A B i] = [outP A p]
        congr 1
        have lA : ∀ x ∈ p.2.1, x < A.length := fun x hx => by rw [b.la]; exact b.lt hp x hx
        by_cases c3 : p.1 = 3
        · rw [← cm, part_ring ok c3 hf aA aB (b.la.trans b.lb.symm) lA]
          unfold outP
          rw [decide_eq_true c3]
        · rw [← eq, part_chain ok (by omega) hf aA aB (b.la.trans b.lb.symm) lA hq]
          unfold outP canonP
          rw [decide_eq_false c3, if_pos (by omega)]
          rfl
      · have lt_i : mn p.2.1 < i := by
          have := mn_le hx
          omega
        have at_i : atJ ps i = none := by
          cases h : atJ ps i with
          | none => rfl
          | some p' =>
            obtain ⟨m1, m2, m3⟩ := atJ_some h
            have := b.uq m1 hp (m3 ▸ mn_in (b.ok p' m1)) hx
            subst this
            exact absurd m3 cm
        rw [at_i, if_neg (fun h => h.2 (seen.mpr ⟨c1, lt_i⟩)), ih, List.append_nil]
    · have same : gt A i = gt B i := by
        rw [eA, eB]
        unfold nb
        by_cases c0 : p.1 = 0
        · rw [if_pos c0, if_pos c0]
        · rw [if_neg c0, if_neg c0, if_pos (by omega), if_pos (by omega)]
      have at_i : atJ ps i = none := by
        cases h : atJ ps i with
        | none => rfl
        | some p' =>
          obtain ⟨m1, m2, m3⟩ := atJ_some h
          have := b.uq m1 hp (m3 ▸ mn_in (b.ok p' m1)) hx
          subst this
          exact absurd m2 c1
      rw [at_i, if_neg (fun h => h.1 same), ih, List.append_nil]
theorem Bl.psJ_perm (b : Bl A B f ps n) : (psJ ps n).Perm (ps.filter isCR) := by
  have nd1 : (psJ ps n).Nodup := by
    have srt : (psJ ps n).Pairwise fun p q => mn p.2.1 < mn q.2.1 := by
      unfold psJ
      rw [List.pairwise_filterMap]
      refine List.Pairwise.imp ?_ List.pairwise_lt_range
      intro x y hxy p hp q hq
      have h1 := (atJ_some hp).2.2
      have h2 := (atJ_some hq).2.2
      omega
    exact srt.imp fun {p q} h z => by rw [z] at h; exact Nat.lt_irrefl _ h
  have nd2 : ps.Nodup := by
    have g : ∀ qs : List Pc, (qs.flatMap (·.2.1)).Nodup → (∀ p ∈ qs, PcOk p) → qs.Nodup := fun qs => by
      induction qs with
      | nil => exact fun _ _ => List.nodup_nil
      | cons a qs ih =>
        intro nd ok
        rw [List.flatMap_cons, List.nodup_append] at nd
        refine List.nodup_cons.mpr ⟨fun h => ?_, ih nd.2.1 fun p hp => ok p (List.mem_cons_of_mem _ hp)⟩
        have m := mn_in (ok a (List.mem_cons_self ..))
        exact nd.2.2 _ m _ (List.mem_flatMap.mpr ⟨a, h, m⟩) rfl
    exact g ps b.nd b.ok
  refine (List.perm_ext_iff_of_nodup nd1 (nd2.sublist List.filter_sublist)).mpr fun p => ?_
  rw [List.mem_filter]
  constructor
  · intro h
    obtain ⟨x, _, hx⟩ := List.mem_filterMap.mp h
    obtain ⟨m1, m2, _⟩ := atJ_some hx
    exact ⟨m1, decide_eq_true m2⟩
  · rintro ⟨h1, h2⟩
    exact List.mem_filterMap.mpr ⟨mn p.2.1, List.mem_range.mpr (b.lt h1 _ (mn_in (b.ok p h1))), b.atJ_is h1 (of_decide_eq_true h2)⟩
end
/-! gains -/
def cntA (A l : List Nat) : Nat := (l.filter fun x => decide (gt A x ≠ x)).length
def gainF (A B l : List Nat) : Int := ((cntA B l : Int) - (cntA A l : Int)) / 2
def cntF (r w n s : Nat) : Nat := ((List.range n).filter fun k => decide (nb r w n s k ≠ k)).length
theorem gain_tab : ((List.range 65).all fun n => (List.range 2).all fun s => (List.range 2).all fun f => decide (n < 2) || (((cntF (1 - f) 2 n s : Int) - (cntF f 2 n s : Int)) / 2 == if n % 2 = 1 then 0 else if s = f then -1 else 1)) = true := by decide +kernel
theorem line_map {l : List Nat} : l = (List.range l.length).map (gt l) := by
  refine List.ext_getElem (by simp) fun j h1 h2 => ?_
  rw [List.getElem_map, List.getElem_range]
  unfold gt
  rw [List.getD_eq_getElem?_getD, List.getElem?_eq_getElem h1]
  rfl
theorem cnt_line {A : List Nat} {p : Pc} {r : Nat} (ok : PcOk p) (a : PcAt A r p) : cntA A p.2.1 = cntF r p.1 p.2.1.length p.2.2 := by
  unfold cntA cntF
  conv => lhs; rw [line_map (l := p.2.1)]
  rw [List.filter_map, List.length_map]
  congr 1
  refine List.filter_congr fun k hk => ?_
  have hk := List.mem_range.mp hk
  show decide (gt A (gt p.2.1 k) ≠ gt p.2.1 k) = _
  rw [a k hk]
  rw [Bool.eq_iff_iff, decide_eq_true_eq, decide_eq_true_eq]
  constructor
  · intro h e
    rw [e] at h
    exact h rfl
  · intro h e
    exact h (gt_inj ok.nd (nb_lt ok hk) hk e)
def dueG (f : Nat) (p : Pc) : Int := if p.1 = 3 then 0 else if p.2.1.length % 2 = 1 then 0 else if p.2.2 = f then -1 else 1
theorem cnt_perm {A l m : List Nat} (h : l.Perm m) : cntA A l = cntA A m := (h.filter _).length_eq
theorem gain_is {A B : List Nat} {p : Pc} {f : Nat} (ok : PcOk p) (hf : f < 2) (h1 : 1 < p.1) (h64 : p.2.1.length ≤ 64) (a : PcAt A f p) (b : PcAt B (1 - f) p) {l : List Nat} (hl : l.Perm p.2.1) : gainF A B l = dueG f p := by
  unfold gainF dueG
  rw [cnt_perm hl, cnt_perm hl, cnt_line ok a, cnt_line ok b]
  have hw := ok.w
  by_cases c3 : p.1 = 3
  · obtain ⟨n4, n2⟩ := ok.l3 c3
    rw [if_pos c3]
    have all : ∀ r, cntF r p.1 p.2.1.length p.2.2 = p.2.1.length := fun r => by
      unfold cntF
      rw [List.filter_eq_self.mpr, List.length_range]
      intro k hk
      have hk := List.mem_range.mp hk
      refine decide_eq_true ?_
      unfold nb
      rw [if_neg (by omega), if_neg (by omega)]
      split <;> split <;> omega
    rw [all, all, Int.sub_self]
    rfl
  · have n2 := ok.l2 (by omega)
    have hs := ok.s
    rw [if_neg c3, show p.1 = 2 by omega]
    have t := gain_tab
    rw [List.all_eq_true] at t
    have t := t p.2.1.length (List.mem_range.mpr (by omega))
    rw [List.all_eq_true] at t
    have t := t p.2.2 (List.mem_range.mpr hs)
    rw [List.all_eq_true] at t
    have t := t f (List.mem_range.mpr hf)
    rw [decide_eq_false (by omega), Bool.false_or] at t
    exact beq_iff_eq.mp t
/-! entries -/
abbrev Ent := Nat × Int × Int
def entO (A B : List Nat) (c : Bool × List Nat) : Ent := (if c.1 then 1 else 0, (c.2.length : Int), gainF A B c.2)
noncomputable def entsF (A B : List Nat) (n : Nat) : List Ent := (partsF A B n).map (entO A B)
def entD (f : Nat) (p : Pc) : Ent := (if p.1 = 3 then 1 else 0, (p.2.1.length : Int), dueG f p)
def entsD (f : Nat) (ps : List Pc) : List Ent := (ps.filter isCR).map (entD f)
theorem Bl.ents {A B : List Nat} {f n : Nat} {ps : List Pc} (b : Bl A B f ps n) (h64 : n ≤ 64) : (entsF A B n).Perm (entsD f ps) := by
  unfold entsF entsD
  rw [b.parts n (Nat.le_refl _), List.map_map]
  have e : (psJ ps n).map (entO A B ∘ outP A) = (psJ ps n).map (entD f) := by
    refine List.map_congr_left fun p hp => ?_
    obtain ⟨x, _, hx⟩ := List.mem_filterMap.mp hp
    obtain ⟨m1, m2, _⟩ := atJ_some hx
    have len : p.2.1.length ≤ 64 := Nat.le_trans (nodup_len (b.ok p m1).nd (b.lt m1)) h64
    obtain ⟨aA, aB⟩ := b.at_ p m1
    show entO A B (outP A p) = entD f p
    unfold entO entD outP
    show ((if decide (p.1 = 3) = true then 1 else 0 : Nat), ((canonP A p).length : Int), gainF A B (canonP A p)) = _
    rw [gain_is (b.ok p m1) b.hf m2 len aA aB canonP_perm, canonP_perm.length_eq]
    by_cases c3 : p.1 = 3
    · rw [decide_eq_true c3, if_pos rfl, if_pos c3]
    · rw [decide_eq_false c3, if_neg c3]
      rfl
  rw [e]
  exact b.psJ_perm.map _
end Pv

namespace Pv
open PySem L2 Evl Pm
def nI (xs : List Nat) : List V := xs.map fun x : Nat => V.int (x : Int)
def ListN (H : Hp) (p : Addr) (xs : List Nat) : Prop := H p = some (.lst (nI xs))
theorem nI_len (xs : List Nat) : (nI xs).length = xs.length := List.length_map ..
theorem ListN.sz {K : PySem.W.Frag} {H : Hp} {p : Addr} {xs : List Nat} (h : ListN H p xs) : SqL K H p (nI xs) := SqL.of h
theorem ListN.ex {H H1 : Hp} {a : Addr} {xs : List Nat} (e : Ex H H1) (h : ListN H a xs) : ListN H1 a xs := e a _ h
theorem nat_at {ns : List Nat} {i : Nat} {y : V} (h : (nI ns)[i]? = some y) : i < ns.length ∧ y = V.int ((ns.getD i 0 : Nat) : Int) := by
  unfold nI at h
  rw [List.getElem?_map] at h
  cases e : ns[i]? with
  | none =>
    rw [e] at h
    cases h
  | some z =>
    rw [e] at h
    refine ⟨(List.getElem?_eq_some_iff.mp e).1, ?_⟩
    rw [List.getD_eq_getElem?_getD, e]
    exact (Option.some.inj h).symm
theorem ixN_ {xs : List Nat} {j : Nat} (h : j < xs.length) : (nI xs)[j]? = some (V.int ((xs.getD j 0 : Nat) : Int)) := by
  unfold nI
  rw [List.getElem?_map, List.getD_eq_getElem?_getD, List.getElem?_eq_getElem h]
  rfl
theorem atN {xs : List Nat} {j : Nat} (h : j < xs.length) : atI (nI xs) (j : Int) = some (V.int ((xs.getD j 0 : Nat) : Int)) := atI_nat (ixN_ h)
theorem ex_new {H H1 : Hp} {p : Addr} {o : HO} (e : Ex H H1) (h : H1 p = none) : Ex H (upd H1 p o) := e.trans (Ex.new h)
theorem nI_app {xs : List Nat} {v : Nat} : nI (xs ++ [v]) = nI xs ++ [V.int (v : Int)] := by
  unfold nI
  rw [List.map_append]
  rfl
theorem acc_step {G H' : Hp} {D : Addr} {ls : List Nat} {v : Nat} (hD : G D = none) (e : Ex G H') : Ex G (upd H' D (.lst (nI ls ++ [V.int (v : Int)]))) ∧ ListN (upd H' D (.lst (nI ls ++ [V.int (v : Int)]))) D (ls ++ [v]) := by
  refine ⟨fun b o hb => ?_, ?_⟩
  · rw [upd_ne (ne_of_none hb hD)]
    exact e b o hb
  · show upd H' D _ D = _
    rw [upd_same, nI_app]
theorem take_map_succ {xs : List Nat} {j : Nat} (h : j < xs.length) (f : Nat → Nat) : (xs.take (j + 1)).map f = (xs.take j).map f ++ [f (xs.getD j 0)] := by
  rw [List.take_add_one, List.getElem?_eq_getElem h, List.map_append, List.getD_eq_getElem?_getD, List.getElem?_eq_getElem h]
  rfl
theorem take_succ {xs : List Nat} {j : Nat} (h : j < xs.length) : xs.take (j + 1) = xs.take j ++ [xs.getD j 0] := by
  rw [List.take_add_one, List.getElem?_eq_getElem h, List.getD_eq_getElem?_getD, List.getElem?_eq_getElem h]
  rfl
theorem take_filter_pos {xs : List Nat} {j : Nat} (h : j < xs.length) {q : Nat → Bool} (c : q (xs.getD j 0) = true) : (xs.take (j + 1)).filter q = (xs.take j).filter q ++ [xs.getD j 0] := by
  rw [take_succ h, List.filter_append, List.filter_cons, if_pos c]
  rfl
theorem take_filter_neg {xs : List Nat} {j : Nat} (h : j < xs.length) {q : Nat → Bool} (c : q (xs.getD j 0) = false) : (xs.take (j + 1)).filter q = (xs.take j).filter q := by
  rw [take_succ h, List.filter_append, List.filter_cons, if_neg (by rw [c]; decide)]
  exact List.append_nil _
theorem flat_nI : ∀ xs : List Nat, (nI xs).all flatV = true
  | [] => rfl
  | _ :: xs => flat_nI xs
theorem inV_nI {x : Nat} : ∀ xs : List Nat, inV (V.int (x : Int)) (nI xs) = xs.contains x
  | [] => rfl
  | y :: xs => by
    show (eqV (V.int (y : Int)) (V.int (x : Int)) || inV (V.int (x : Int)) (nI xs)) = _
    rw [inV_nI xs, List.contains_cons]
    congr 1
    show ((y : Int) == (x : Int)) = (x == y)
    rw [Bool.eq_iff_iff, beq_iff_eq, beq_iff_eq]
    omega
theorem eqV_nat {x y : Nat} : eqV (V.int (x : Int)) (V.int (y : Int)) = true ↔ x = y := by
  show ((x : Int) == (y : Int)) = true ↔ _
  rw [beq_iff_eq]
  omega
/-! ### images of any integers -/
def ListI' (H : Hp) (p : Addr) (xs : List Int) : Prop := H p = some (.lst (xs.map V.int))
def badN (xs : List Int) (k : Nat) : Bool := decide (xs.getD k 0 < 0) || decide ((xs.length : Int) ≤ xs.getD k 0)
def firstOf (p : Nat → Bool) (n : Nat) : Option Nat := (List.range n).find? p
theorem firstOf_some {p : Nat → Bool} {n i : Nat} (hi : i < n) (hp : p i = true) (h : ∀ j, j < i → p j = false) : firstOf p n = some i := by
  unfold firstOf
  rw [List.find?_range_eq_some]
  exact ⟨hp, List.mem_range.mpr hi, fun j hj => by rw [h j hj]; rfl⟩
theorem firstOf_none {p : Nat → Bool} {n : Nat} (h : ∀ j, j < n → p j = false) : firstOf p n = none := by
  unfold firstOf
  rw [List.find?_range_eq_none]
  exact fun j hj => by rw [h j hj]; rfl
theorem firstOf_no {p : Nat → Bool} {n : Nat} (h : firstOf p n = none) : ∀ j, j < n → p j = false := by
  unfold firstOf at h
  rw [List.find?_range_eq_none] at h
  intro j hj
  have := h j hj
  simpa using this
theorem firstOf_is {p : Nat → Bool} {n i : Nat} (h : firstOf p n = some i) : i < n ∧ p i = true ∧ ∀ j, j < i → p j = false := by
  unfold firstOf at h
  rw [List.find?_range_eq_some] at h
  exact ⟨List.mem_range.mp h.2.1, h.1, fun j hj => by have := h.2.2 j hj; simpa using this⟩
/-- the first entry that is no record -/
def strayI (xs : List Int) : Option Nat := firstOf (badN xs) xs.length
def spInit (C : Addr) (f : Str) : Sp := fun vs H Q _ => ∃ (a : Addr) (v : V), vs = [.ref a, v] ∧ H a = some (exo a C none) ∧ ∀ dx, H dx = none → dx ≠ a → Q .non (upd (upd H dx (exd dx [(f, v)])) a (exo a C (some dx)))
theorem mkO_go {C : Addr} {f : Str} {v : V} {H1 : Hp} {Q : XK} (k : ∀ d H', Ex H1 H' → H' d = some (.xd [(f, v)]) → Q (.ref C) (some d) H') (e : Addr) (he : H1 e = none) :
    spInit C f (.ref e :: ([v] ++ [])) (upd H1 e (exo e C none)) (fun v H2 => v = .non ∧ ∃ (d : Addr) (fs : List (Str × V)), H2 e = some (exo e C (some d)) ∧ H2 d = some (exd d fs) ∧ H1 d = none ∧ Q (.ref C) (some d) (upd (L2.del H2 e) d (.xd fs))) (fun _ _ _ => False) := by
  refine ⟨e, v, rfl, upd_same, fun dx hdx ne => ⟨rfl, dx, _, upd_same, (by rw [upd_ne ne, upd_same]), ?_, k dx _ ?_ upd_same⟩⟩
  · rw [upd_ne ne] at hdx
    exact hdx
  · rw [upd_ne ne] at hdx
    intro b o hb
    have n1 : b ≠ dx := ne_of_none hb hdx
    have n2 : b ≠ e := ne_of_none hb he
    rw [upd_ne n1, del_ne n2, upd_ne n2, upd_ne n1, upd_ne n2]
    exact hb
theorem units65R {k : Nat} {A : Around} (r : Room k A) : A.units + 65 < cLine := by have := r.un; omega
theorem huH {k : Nat} {A : Around} (r : L2H.RoomH k A) : A.units + 1 < cLine := by have := r.un; omega
theorem units65H {k : Nat} {A : Around} (r : L2H.RoomH k A) : A.units + 65 < cLine := by have := r.un; omega
theorem rd_ex {H H' : Hp} {a : Addr} {u : HO} (e : Ex H H') (h : Rd H a u) : Rd H' a u := h.elim (fun z => .inl (e _ _ z)) fun ⟨o, z⟩ => .inr ⟨o, e _ _ z⟩
theorem sqL_ex {K : PySem.W.Frag} {H H' : Hp} {a : Addr} {xs : List V} (e : Ex H H') (h : SqL K H a xs) : SqL K H' a xs := h.elim (fun z => .inl (rd_ex e z)) .inr
theorem back_none {H H1 : Hp} {p : Addr} (e : Ex H H1) (h : H1 p = none) : H p = none := by
  cases q : H p with
  | none => rfl
  | some o =>
    rw [e p o q] at h
    cases h

/-! ### integers and records -/
def natI (xs : List Int) : List Nat := xs.map Int.toNat
theorem natI_len {xs : List Int} : (natI xs).length = xs.length := List.length_map ..
theorem natI_at {xs : List Int} (h : strayI xs = none) {k : Nat} (hk : k < xs.length) : xs.getD k 0 = (((natI xs).getD k 0 : Nat) : Int) ∧ (natI xs).getD k 0 < xs.length := by
  have q := firstOf_no h k hk
  unfold badN at q
  rw [Bool.or_eq_false_iff] at q
  have q1 := of_decide_eq_false q.1
  have q2 := of_decide_eq_false q.2
  have e : (natI xs).getD k 0 = (xs.getD k 0).toNat := by
    unfold natI
    rw [List.getD_eq_getElem?_getD, List.getElem?_map, List.getD_eq_getElem?_getD, List.getElem?_eq_getElem hk]
    rfl
  rw [e]
  omega
theorem natI_map {xs : List Int} (h : strayI xs = none) : nI (natI xs) = xs.map V.int := by
  unfold nI natI
  rw [List.map_map]
  refine List.ext_getElem (by rw [List.length_map, List.length_map]) fun k h1 h2 => ?_
  rw [List.length_map] at h1
  rw [List.getElem_map, List.getElem_map]
  have := (natI_at h h1).1
  have e : (natI xs).getD k 0 = (xs.getD k 0).toNat := by
    unfold natI
    rw [List.getD_eq_getElem?_getD, List.getElem?_map, List.getD_eq_getElem?_getD, List.getElem?_eq_getElem h1]
    rfl
  rw [e, List.getD_eq_getElem?_getD, List.getElem?_eq_getElem h1] at this
  exact congrArg V.int this.symm
def toI (ys : List Nat) : List Int := ys.map fun x : Nat => (x : Int)
theorem toI_len {ys : List Nat} : (toI ys).length = ys.length := List.length_map ..
theorem toI_v {ys : List Nat} : (toI ys).map V.int = nI ys := by
  unfold toI nI
  rw [List.map_map]
  rfl
theorem toI_nat {ys : List Nat} : natI (toI ys) = ys := by
  unfold natI toI
  rw [List.map_map]
  exact (List.map_congr_left fun x _ => Int.toNat_natCast x).trans (List.map_id' ys)
theorem toI_at {ys : List Nat} {j : Nat} (h : j < ys.length) : (toI ys).getD j 0 = ((ys.getD j 0 : Nat) : Int) := by
  unfold toI
  rw [List.getD_eq_getElem?_getD, List.getElem?_map, List.getElem?_eq_getElem h, List.getD_eq_getElem?_getD, List.getElem?_eq_getElem h]
  rfl
theorem ListI.ex {H H1 : Hp} {a : Addr} {xs : List Int} (e : Ex H H1) (h : ListI H a xs) : ListI H1 a xs := e a _ h
theorem ListN.int {H : Hp} {a : Addr} {ys : List Nat} (h : ListN H a ys) : ListI H a (toI ys) := by
  show H a = _
  rw [toI_v]
  exact h
theorem ListI.nat {H : Hp} {a : Addr} {xs : List Int} (h : ListI H a xs) (s : strayI xs = none) : ListN H a (natI xs) := by
  show H a = _
  rw [natI_map s]
  exact h
/-- the first record that is not named by the one that it names -/
def unset (ys : List Nat) : Option Nat := firstOf (fun x => decide (gt ys (gt ys x) ≠ x)) ys.length
def faultS (xs : List Int) : Option (Nat × Nat) := match strayI xs with
  | some k => some (1, k)
  | none => (unset (natI xs)).map fun k => (2, k)
def faultF (xs zs : List Int) : Option (Nat × Nat) := match faultS xs with
  | some f => some f
  | none => match faultS zs with
    | some f => some f
    | none => if xs.length ≠ zs.length then some (3, 0) else none
theorem faultS_no {xs : List Int} (h : faultS xs = none) : strayI xs = none ∧ Sta (natI xs) := by
  unfold faultS at h
  cases s : strayI xs with
  | some k => rw [s] at h; cases h
  | none =>
    rw [s] at h
    have u : unset (natI xs) = none := Option.map_eq_none_iff.mp h
    refine ⟨rfl, fun x hx => ?_, fun x hx => ?_⟩
    · rw [natI_len] at hx ⊢
      exact (natI_at s hx).2
    · have := of_decide_eq_false (firstOf_no u x hx)
      exact Decidable.not_not.mp this
theorem faultF_no {xs zs : List Int} (h : faultF xs zs = none) : faultS xs = none ∧ faultS zs = none ∧ xs.length = zs.length := by
  unfold faultF at h
  cases s : faultS xs with
  | some f => rw [s] at h; cases h
  | none =>
    rw [s] at h
    cases t : faultS zs with
    | some f => simp only [t] at h; cases h
    | none =>
      simp only [t] at h
      by_cases c : xs.length = zs.length
      · exact ⟨rfl, rfl, c⟩
      · rw [if_pos c] at h
        cases h
theorem sta_fault {ys : List Nat} (s : Sta ys) : strayI (toI ys) = none ∧ faultS (toI ys) = none := by
  have a : strayI (toI ys) = none := by
    refine firstOf_none fun j hj => ?_
    rw [toI_len] at hj
    unfold badN
    rw [toI_at hj, toI_len, decide_eq_false (by omega), decide_eq_false (by have := s.lt j hj; unfold gt at this; omega)]
    rfl
  refine ⟨a, ?_⟩
  unfold faultS
  rw [a]
  show (unset (natI (toI ys))).map _ = none
  rw [toI_nat]
  have : unset ys = none := firstOf_none fun j hj => by
    show decide _ = false
    rw [decide_eq_false]
    exact fun h => h (s.inv j hj)
  rw [this]
  rfl
/-! ### what raises -/
def RzI (A : Ad) (k : Nat) (H : Hp) (E : XK) : Prop := ∀ d H', Ex H H' → H' d = some (.xd [("record", .int (k : Int))]) → E (.ref A.InvalidImage) (some d) H'
def RzS (A : Ad) (k : Nat) (H : Hp) (E : XK) : Prop := ∀ d H', Ex H H' → H' d = some (.xd [("record", .int (k : Int))]) → E (.ref A.NotState) (some d) H'
def RzU (A : Ad) (H : Hp) (E : XK) : Prop := ∀ H', Ex H H' → E (.ref A.UnequalSizes) none H'
def RzF (A : Ad) (f : Nat × Nat) (H : Hp) (E : XK) : Prop := (f.1 = 1 → RzI A f.2 H E) ∧ (f.1 = 2 → RzS A f.2 H E) ∧ (f.1 = 3 → RzU A H E)
theorem RzF.mono {A : Ad} {f : Nat × Nat} {H H1 : Hp} {E : XK} (e : Ex H H1) (h : RzF A f H E) : RzF A f H1 E :=
  ⟨fun z d H' e' hd => h.1 z d H' (e.trans e') hd, fun z d H' e' hd => h.2.1 z d H' (e.trans e') hd, fun z H' e' => h.2.2 z H' (e.trans e')⟩
/-! ### promises of the program -/
def spCI (A : Ad) : Sp := fun vs H Q E => ∃ (a : Addr) (xs : List Int), vs = [.ref a] ∧ ListI H a xs ∧ xs.length ≤ 65 ∧ (strayI xs = none → ∀ H', Ex H H' → Q .non H') ∧ ∀ k, strayI xs = some k → RzI A k H E
def spCS (A : Ad) : Sp := fun vs H Q E => ∃ (a : Addr) (xs : List Int), vs = [.ref a] ∧ ListI H a xs ∧ xs.length ≤ 65 ∧ (faultS xs = none → ∀ H', Ex H H' → Q .non H') ∧ ∀ f, faultS xs = some f → RzF A f H E
def spCP (A : Ad) : Sp := fun vs H Q E => ∃ (a b : Addr) (xs zs : List Int), vs = [.ref a, .ref b] ∧ ListI H a xs ∧ ListI H b zs ∧ xs.length ≤ 65 ∧ zs.length ≤ 65 ∧ (faultF xs zs = none → ∀ H', Ex H H' → Q .non H') ∧ ∀ f, faultF xs zs = some f → RzF A f H E
def spWk : Sp := fun vs H Q _ => ∃ (a b : Addr) (ys zs w : List Nat) (s : Nat), vs = [.ref a, .ref b, .int (s : Int)] ∧ ListN H a ys ∧ ListN H b zs ∧ zs.length = ys.length ∧ ys.length ≤ 65 ∧ Trl ys zs s w ∧ ∀ p H', H p = none → Ex H H' → ListN H' p w → Q (.ref p) H'
def wE : Nat → Str
  | 0 => "chain"
  | _ => "ring"
def rgB (b : Bool) : Nat := if b then 1 else 0
/-- a tuple (word, records) -/
def PrtAt (H : Hp) (t : Addr) (c : Bool × List Nat) : Prop := ∃ l, H t = some (.tup [.str (wE (rgB c.1)), .ref l]) ∧ ListN H l c.2
theorem PrtAt.ex {H H' : Hp} {t : Addr} {c : Bool × List Nat} (e : Ex H H') (h : PrtAt H t c) : PrtAt H' t c := by
  obtain ⟨l, h1, h2⟩ := h
  exact ⟨l, e _ _ h1, h2.ex e⟩
def PrtsAt (H : Hp) (p : Addr) (cs : List (Bool × List Nat)) : Prop := ∃ ts : List Addr, H p = some (.lst (ts.map V.ref)) ∧ ts.length = cs.length ∧ ∀ (i : Nat) (t : Addr) (c : Bool × List Nat), ts[i]? = some t → cs[i]? = some c → PrtAt H t c
theorem PrtsAt.ex {H H' : Hp} {p : Addr} {cs : List (Bool × List Nat)} (e : Ex H H') (h : PrtsAt H p cs) : PrtsAt H' p cs := by
  obtain ⟨ts, h1, h2, h3⟩ := h
  exact ⟨ts, e _ _ h1, h2, fun i t c a b => (h3 i t c a b).ex e⟩
def spPt : Sp := fun vs H Q _ => ∃ (a b : Addr) (ys zs : List Nat) (x : Nat), vs = [.ref a, .ref b, .int (x : Int)] ∧ ListN H a ys ∧ ListN H b zs ∧ Sta ys ∧ Sta zs ∧ zs.length = ys.length ∧ ys.length ≤ 65 ∧ x < ys.length ∧ ∀ p l H', H p = none → H l = none → Ex H H' → H' p = some (.tup [.str (wE (rgB (partF ys zs x).1)), .ref l]) → ListN H' l (partF ys zs x).2 → Q (.ref p) H'
def spPts (A : Ad) : Sp := fun vs H Q E => ∃ (a b : Addr) (xs zs : List Int), vs = [.ref a, .ref b] ∧ ListI H a xs ∧ ListI H b zs ∧ xs.length ≤ 65 ∧ zs.length ≤ 65 ∧ (faultF xs zs = none → ∀ p H', H p = none → Ex H H' → PrtsAt H' p (partsF (natI xs) (natI zs) xs.length) → Q (.ref p) H') ∧ ∀ f, faultF xs zs = some f → RzF A f H E
def spGn : Sp := fun vs H Q _ => ∃ (a b r : Addr) (ys zs l : List Nat), vs = [.ref a, .ref b, .ref r] ∧ ListN H a ys ∧ ListN H b zs ∧ ListN H r l ∧ zs.length = ys.length ∧ ys.length ≤ 65 ∧ l.length ≤ 200 ∧ (∀ x ∈ l, x < ys.length) ∧ ∀ H', Ex H H' → Q (.int (gainF ys zs l)) H'
/-- a tuple (word, length, gain) -/
def EntAt (H : Hp) (t : Addr) (e : Ent) : Prop := H t = some (.tup [.str (wE e.1), .int e.2.1, .int e.2.2])
def leE (e f : Ent) : Bool := decide (e.1 < f.1) || (decide (e.1 = f.1) && (decide (e.2.1 < f.2.1) || (decide (e.2.1 = f.2.1) && decide (e.2.2 ≤ f.2.2))))
def KindAt (H : Hp) (p : Addr) (es : List Ent) : Prop := ∃ ts : List Addr, H p = some (.tup (ts.map V.ref)) ∧ ts.length = es.length ∧ ∀ (i : Nat) (t : Addr) (e : Ent), ts[i]? = some t → es[i]? = some e → EntAt H t e
def EntsAt (H : Hp) (p : Addr) (es : List Ent) : Prop := ∃ ts : List Addr, H p = some (.lst (ts.map V.ref)) ∧ ts.length = es.length ∧ ∀ (i : Nat) (t : Addr) (e : Ent), ts[i]? = some t → es[i]? = some e → EntAt H t e
theorem KindAt.ex {H H' : Hp} {p : Addr} {es : List Ent} (e : Ex H H') (h : KindAt H p es) : KindAt H' p es := by
  obtain ⟨ts, h1, h2, h3⟩ := h
  exact ⟨ts, e _ _ h1, h2, fun i t c a b => e _ _ (h3 i t c a b)⟩
theorem EntsAt.ex {H H' : Hp} {p : Addr} {es : List Ent} (e : Ex H H') (h : EntsAt H p es) : EntsAt H' p es := by
  obtain ⟨ts, h1, h2, h3⟩ := h
  exact ⟨ts, e _ _ h1, h2, fun i t c a b => e _ _ (h3 i t c a b)⟩
def spKd (A : Ad) : Sp := fun vs H Q E => ∃ (a b : Addr) (xs zs : List Int), vs = [.ref a, .ref b] ∧ ListI H a xs ∧ ListI H b zs ∧ xs.length ≤ 65 ∧ zs.length ≤ 65 ∧ (faultF xs zs = none → ∀ p es H', H p = none → Ex H H' → es.Perm (entsF (natI xs) (natI zs) xs.length) → es.Pairwise (fun e f => leE e f = true) → KindAt H' p es → Q (.ref p) H') ∧ ∀ f, faultF xs zs = some f → RzF A f H E
/-- an update at u -/
def UpAt (A : Ad) (H : Hp) (u : Addr) (ys zs : List Nat) : Prop := ∃ dx p q, H u = some (.ins A.Update dx [("before", .ref p), ("after", .ref q)]) ∧ ListN H p ys ∧ ListN H q zs ∧ p ≠ u ∧ q ≠ u
def spUi (A : Ad) : Sp := fun vs H Q E => ∃ (u a b dx : Addr) (xs zs : List Int), vs = [.ref u, .ref a, .ref b] ∧ H u = some (.ins A.Update dx []) ∧ ListI H a xs ∧ ListI H b zs ∧ xs.length ≤ 65 ∧ zs.length ≤ 65 ∧
  (faultF xs zs = none → ∀ p q H', H p = none → H q = none → p ≠ q → (∀ x o, x ≠ u → H x = some o → H' x = some o) → H' u = some (.ins A.Update dx [("before", .ref p), ("after", .ref q)]) → ListN H' p (natI xs) → ListN H' q (natI zs) → Q .non H') ∧ ∀ f, faultF xs zs = some f → RzF A f H E
def spUk (A : Ad) : Sp := fun vs H Q _ => ∃ (u : Addr) (ys zs : List Nat), vs = [.ref u] ∧ UpAt A H u ys zs ∧ Sta ys ∧ Sta zs ∧ zs.length = ys.length ∧ ys.length ≤ 65 ∧ ∀ p es H', H p = none → Ex H H' → es.Perm (entsF ys zs ys.length) → es.Pairwise (fun e f => leE e f = true) → KindAt H' p es → Q (.ref p) H'
end Pv

namespace Pv
open PySem L2 Evl Pm PySem.W
def encE (e : Ent) : PyData := .tuple [.str (wE e.1), .int e.2.1, .int e.2.2]
def ltE (e f : Ent) : Bool := decide (e.1 < f.1) || (decide (e.1 = f.1) && (decide (e.2.1 < f.2.1) || (decide (e.2.1 = f.2.1) && decide (e.2.2 < f.2.2))))
theorem le_lt {e f : Ent} : leE e f = !ltE f e := by
  unfold leE ltE
  rw [Bool.eq_iff_iff]
  simp only [Bool.or_eq_true, Bool.and_eq_true, decide_eq_true_eq, Bool.not_eq_true', Bool.or_eq_false_iff, Bool.and_eq_false_iff, decide_eq_false_iff_not]
  omega
theorem str_lt : ∀ i, i < 2 → ∀ j, j < 2 → i ≠ j → dataLt (.str (wE i)) (.str (wE j)) = decide (i < j) := by
  intro i hi j hj
  rw [dataLt_str]
  match i, hi, j, hj with
  | 0, _, 0, _ => exact fun h => absurd rfl h
  | 0, _, 1, _ => exact fun _ => by decide +kernel
  | 1, _, 0, _ => exact fun _ => by decide +kernel
  | 1, _, 1, _ => exact fun h => absurd rfl h
theorem str_eq : ∀ i, i < 2 → ∀ j, j < 2 → PyData.eqv (.str (wE i)) (.str (wE j)) = decide (i = j) := by
  intro i hi j hj
  match i, hi, j, hj with
  | 0, _, 0, _ => decide +kernel
  | 0, _, 1, _ => decide +kernel
  | 1, _, 0, _ => decide +kernel
  | 1, _, 1, _ => decide +kernel
theorem int_eq (x y : Int) : PyData.eqv (.int x) (.int y) = decide (x = y) := by
  show (x == y) = _
  rw [Bool.eq_iff_iff, beq_iff_eq, decide_eq_true_eq]
theorem data_lt {e f : Ent} (he : e.1 < 2) (hf : f.1 < 2) : dataLt (encE e) (encE f) = ltE e f := by
  unfold encE
  rw [dataLt_tuple, dataLt_cons (by simp [alike]), str_eq _ he _ hf, dataLt_cons (by simp [alike]), int_eq, dataLt_cons (by simp [alike]), int_eq, dataLt_int, dataLt_int]
  unfold ltE
  by_cases c1 : e.1 = f.1
  · rw [decide_eq_true c1, if_pos rfl, decide_eq_false (show ¬ e.1 < f.1 by omega)]
    by_cases c2 : e.2.1 = f.2.1
    · rw [decide_eq_true c2, if_pos rfl, decide_eq_false (show ¬ e.2.1 < f.2.1 by omega)]
      by_cases c3 : e.2.2 = f.2.2
      · rw [decide_eq_true c3, if_pos rfl, decide_eq_false (show ¬ e.2.2 < f.2.2 by omega)]
        rfl
      · rw [decide_eq_false c3, if_neg (by decide)]
        simp
    · rw [decide_eq_false c2, if_neg (by decide)]
      simp
  · rw [decide_eq_false c1, if_neg (by decide), str_lt _ he _ hf c1]
    simp
theorem alike_ent (e f : Ent) : alike (encE e) (encE f) = true := by simp [encE, alike, alikeAll]
theorem depth_ent (e : Ent) : (encE e).depth ≤ 60 := by simp [encE, PyData.depth, PyData.depthAll]
theorem dp_ent {K : PySem.W.Frag} {H : Hp} {t : Addr} {e : Ent} (h : EntAt H t e) : Dp K H (.ref t) (encE e) := .tup (SqT.of h) (.cons (.str _) (.cons (.int _) (.cons (.int _) .nil)))
theorem le_trans' {e f g : Ent} (h1 : leE e f = true) (h2 : leE f g = true) : leE e g = true := by
  unfold leE at *
  simp only [Bool.or_eq_true, Bool.and_eq_true, decide_eq_true_eq] at *
  omega
theorem le_total' (e f : Ent) : leE e f = true ∨ leE f e = true := by
  unfold leE
  simp only [Bool.or_eq_true, Bool.and_eq_true, decide_eq_true_eq]
  omega
theorem le_anti {e f : Ent} (h1 : leE e f = true) (h2 : leE f e = true) : e = f := by
  obtain ⟨a, b, c⟩ := e
  obtain ⟨a', b', c'⟩ := f
  unfold leE at *
  simp only [Bool.or_eq_true, Bool.and_eq_true, decide_eq_true_eq] at *
  have e1 : a = a' := by omega
  have e2 : b = b' := by omega
  have e3 : c = c' := by omega
  rw [e1, e2, e3]
/-- the ascending row of the entries is but one -/
theorem sorted_one {es fs : List Ent} (p : es.Perm fs) (h1 : es.Pairwise fun e f => leE e f = true) (h2 : fs.Pairwise fun e f => leE e f = true) : es = fs :=
  List.Perm.eq_of_pairwise (fun a b _ _ x y => le_anti x y) h1 h2 p
/-- entries laid out, sorted -/
theorem sort_ents {H : Hp} {ts : List Addr} {es : List Ent} (hl : ts.length = es.length) (h : ∀ (i : Nat) (t : Addr) (e : Ent), ts[i]? = some t → es[i]? = some e → EntAt H t e) (h2 : ∀ e ∈ es, e.1 < 2) :
    ∃ (ts' : List Addr) (es' : List Ent), ((((ts.zip es).map fun z => (V.ref z.1, encE z.2)).mergeSort (dataLe false Prod.snd)).map Prod.fst) = ts'.map V.ref ∧ es'.Perm es ∧ es'.Pairwise (fun e f => leE e f = true) ∧ ts'.length = es'.length ∧ ∀ (i : Nat) (t : Addr) (e : Ent), ts'[i]? = some t → es'[i]? = some e → EntAt H t e := by
  have at_ : ∀ z ∈ ts.zip es, EntAt H z.1 z.2 := fun z hz => by
    obtain ⟨i, hi, e⟩ := List.getElem_of_mem hz
    have e2 : (ts.zip es)[i]? = some z := by rw [List.getElem?_eq_getElem hi, e]
    rw [List.getElem?_zip_eq_some] at e2
    exact h i _ _ e2.1 e2.2
  have m2 : ∀ z ∈ ts.zip es, z.2.1 < 2 := fun z hz => h2 _ (List.of_mem_zip hz).2
  have sm : ((ts.zip es).map fun z => (V.ref z.1, encE z.2)).mergeSort (dataLe false Prod.snd) = ((ts.zip es).mergeSort fun a b => leE a.2 b.2).map fun z => (V.ref z.1, encE z.2) := by
    refine (sort_maps (fun z : Addr × Ent => (V.ref z.1, encE z.2)) fun a ha b hb => ?_).symm
    show leE a.2 b.2 = !dataLt (encE b.2) (encE a.2)
    rw [data_lt (m2 b hb) (m2 a ha), le_lt]
  refine ⟨((ts.zip es).mergeSort fun a b => leE a.2 b.2).map Prod.fst, ((ts.zip es).mergeSort fun a b => leE a.2 b.2).map Prod.snd, ?_, ?_, ?_, ?_, fun i t e h3 h4 => ?_⟩
  · rw [sm, List.map_map, List.map_map]
    rfl
  · have p := (List.mergeSort_perm (ts.zip es) fun a b => leE a.2 b.2).map Prod.snd
    rw [List.map_snd_zip (by omega)] at p
    exact p
  · rw [List.pairwise_map]
    exact List.pairwise_mergeSort (le := fun a b : Addr × Ent => leE a.2 b.2) (fun a b c x y => le_trans' x y) (fun a b => by
      rw [Bool.or_eq_true]
      exact le_total' a.2 b.2) _
  · rw [List.length_map, List.length_map]
  · rw [List.getElem?_map] at h3 h4
    cases q : ((ts.zip es).mergeSort fun a b => leE a.2 b.2)[i]? with
    | none => rw [q] at h3; cases h3
    | some z =>
      rw [q] at h3 h4
      cases h3
      cases h4
      exact at_ z ((List.mergeSort_perm (ts.zip es) fun a b => leE a.2 b.2).mem_iff.mp (List.mem_of_getElem? q))
end Pv

namespace Pv
open PySem L2 Evl Pm
/-- the box of the draws at b, the script's numbers at c -/
def Bx (H : Hp) (b c : Addr) : Prop := ∃ (ns : List Int) (d i k s : Int), H b = some (.lst [.ref c, .int d, .int i, .int k, .int s]) ∧ H c = some (.lst (ns.map V.int)) ∧ 0 ≤ d ∧ 0 ≤ i
theorem Bx.ne {H : Hp} {b c p : Addr} (B : Bx H b c) (h : H p = none) : p ≠ b ∧ p ≠ c := by
  obtain ⟨ns, d, i, k, s, h1, h2, _⟩ := B
  exact ⟨(fun e => by rw [e, h1] at h; cases h), (fun e => by rw [e, h2] at h; cases h)⟩
theorem Bx.bc {H : Hp} {b c : Addr} (B : Bx H b c) : b ≠ c := by
  obtain ⟨ns, d, i, k, s, h1, h2, _⟩ := B
  intro e
  rw [e, h2] at h1
  have h3 := HO.lst.inj (Option.some.inj h1)
  cases ns with
  | nil => cases h3
  | cons a l => cases h3
theorem Bx.keep {H H' : Hp} {b c : Addr} (B : Bx H b c) (h1 : ∀ o, H b = some o → H' b = some o) (h2 : ∀ o, H c = some o → H' c = some o) : Bx H' b c := by
  obtain ⟨ns, d, i, k, s, a1, a2, q⟩ := B
  exact ⟨ns, d, i, k, s, h1 _ a1, h2 _ a2, q⟩
theorem Bx.ex {H H' : Hp} {b c : Addr} (e : Ex H H') (B : Bx H b c) : Bx H' b c := B.keep (e b) (e c)
theorem Mut.of_ex {b : Addr} {H H1 : Hp} (e : Ex H H1) : Mut b H H1 := fun a o _ h => e a o h
theorem bx_back {b c : Addr} {H G : Hp} (B : Bx G b c) (M : Mut b H G) {a : Addr} (h : G a = none) : H a = none := by
  cases q : H a with
  | none => rfl
  | some u =>
    rw [M a u (B.ne h).1 q] at h
    cases h
def spMix : Sp := fun vs H Q _ => ∃ x y : Int, vs = [.int x, .int y] ∧ ∀ z : Int, Q (.int z) H
def spBox (K : PySem.W.Frag) : Sp := fun vs H Q _ => ∃ (a : Addr) (ns : List Int), vs = [.ref a] ∧ SqL K H a (ns.map V.int) ∧ ns.length ≤ 63 ∧ ∀ b c H', H b = none → H c = none → Ex H H' → Bx H' b c → Q (.ref b) H'
def spDw : Sp := fun vs H Q _ => ∃ (b c : Addr) (n : Int), vs = [.ref b, .int n] ∧ 0 < n ∧ n < 1152921504606846976 ∧ Bx H b c ∧ ∀ (d : Nat) H', (d : Int) < n → Bx H' b c → Mut b H H' → Q (.int d) H'
def spSz : Sp := fun vs H Q _ => ∃ b c : Addr, vs = [.ref b] ∧ Bx H b c ∧ ∀ (n : Nat) H', n ≤ 64 → Bx H' b c → Mut b H H' → Q (.int (n : Int)) H'
/-- an answer that is the whole number asked for -/
def spWh : Sp := fun vs H Q _ => ∃ i j : Int, vs = [.int i, .int j] ∧ Q (.bl (decide (i = j))) H
def spRw : Sp := fun vs H Q _ => ∃ (t d : Addr) (xs : List Nat), vs = [.ref t, .ref d] ∧ ListN H t xs ∧ ListN H d xs ∧ xs.length ≤ 200 ∧ ∀ H', Ex H H' → Q (.bl true) H'
def spSpl : Sp := fun vs H Q _ => ∃ (a : Addr) (xs : List V), vs = [.ref a] ∧ H a = some (.lst xs) ∧ xs.length ≤ 65 ∧ ∀ ys H', (∀ x o, x ≠ a → H x = some o → H' x = some o) → H' a = some (.lst ys) → Q .non H'
/-- -1 or the place of the first that is wrong -/
def orM (o : Option Nat) : Int := match o with
  | some k => k
  | none => -1
def spEn : Sp := fun vs H Q _ => ∃ (a : Addr) (xs : List Int), vs = [.ref a] ∧ ListI H a xs ∧ xs.length ≤ 65 ∧ ∀ H', Ex H H' → Q (.int (orM (strayI xs))) H'
def spUn : Sp := fun vs H Q _ => ∃ (a : Addr) (xs : List Int), vs = [.ref a] ∧ ListI H a xs ∧ strayI xs = none ∧ xs.length ≤ 65 ∧ ∀ H', Ex H H' → Q (.int (orM (unset (natI xs)))) H'
def spOr : Sp := fun vs H Q _ => ∃ (b c : Addr) (n : Nat), vs = [.ref b, .int (n : Int)] ∧ n ≤ 64 ∧ Bx H b c ∧ ∀ p os H', H p = none → Bx H' b c → Mut b H H' → ListN H' p os → os.Perm (List.range n) → Q (.ref p) H'
def w4 : Nat → Str
  | 0 => "free" | 1 => "pair" | 2 => "chain" | _ => "ring"
/-- a word, a length and a start that fit the room -/
structure Shp (room w n s : Nat) : Prop where
  hw : w < 4
  hn : n ≤ room
  hs : s < 2
  l0 : w = 0 → n = 1
  l1 : w = 1 → n = 2
  l2 : w = 2 → 2 ≤ n
  l3 : w = 3 → 4 ≤ n ∧ n % 2 = 0 ∧ s = 0
def spPc : Sp := fun vs H Q _ => ∃ (b c : Addr) (room : Nat), vs = [.ref b, .int (room : Int)] ∧ 0 < room ∧ room ≤ 64 ∧ Bx H b c ∧ ∀ p (w n s : Nat) H', H p = none → Bx H' b c → Mut b H H' → H' p = some (.lst [.str (w4 w), .int (n : Int), .int (s : Int)]) → Shp room w n s → Q (.ref p) H'
/-- a list [word, records, start] -/
def PcLst (H : Hp) (t : Addr) (p : Pc) : Prop := ∃ l, H t = some (.lst [.str (w4 p.1), .ref l, .int (p.2.2 : Int)]) ∧ ListN H l p.2.1
theorem PcLst.ex {H H' : Hp} {t : Addr} {p : Pc} (e : Ex H H') (h : PcLst H t p) : PcLst H' t p := by
  obtain ⟨l, h1, h2⟩ := h
  exact ⟨l, e _ _ h1, h2.ex e⟩
def PcsAt (H : Hp) (q : Addr) (ps : List Pc) : Prop := ∃ ts : List Addr, H q = some (.lst (ts.map V.ref)) ∧ ts.length = ps.length ∧ ∀ (i : Nat) (t : Addr) (p : Pc), ts[i]? = some t → ps[i]? = some p → PcLst H t p
theorem PcsAt.ex {H H' : Hp} {q : Addr} {ps : List Pc} (e : Ex H H') (h : PcsAt H q ps) : PcsAt H' q ps := by
  obtain ⟨ts, h1, h2, h3⟩ := h
  exact ⟨ts, e _ _ h1, h2, fun i t p a b => (h3 i t p a b).ex e⟩
/-- pieces cut from a row of all records -/
structure Cut (n : Nat) (ps : List Pc) : Prop where
  perm : (ps.flatMap (·.2.1)).Perm (List.range n)
  ok : ∀ p ∈ ps, PcOk p
  s0 : ∀ p ∈ ps, p.1 = 3 → p.2.2 = 0
def spBt : Sp := fun vs H Q _ => ∃ (b c : Addr) (n : Nat), vs = [.ref b, .int (n : Int)] ∧ n ≤ 64 ∧ Bx H b c ∧ ∀ q ps H', H q = none → Bx H' b c → Mut b H H' → PcsAt H' q ps → Cut n ps → Q (.ref q) H'
def spSs : Sp := fun vs H Q _ => ∃ (q : Addr) (n : Nat) (ps : List Pc), vs = [.ref q, .int (n : Int)] ∧ n ≤ 64 ∧ PcsAt H q ps ∧ Cut n ps ∧ ∀ r a b A B H', H r = none → H a = none → H b = none → a ≠ b → Ex H H' → H' r = some (.lst [.ref a, .ref b]) → ListN H' a A → ListN H' b B → Bl A B 0 ps n → Q (.ref r) H'
def spLst : Sp := fun vs H Q _ => ∃ (l : Addr) (xs : List Nat), vs = [.ref l] ∧ ListN H l xs ∧ 0 < xs.length ∧ xs.length ≤ 64 ∧ ∀ H', Ex H H' → Q (.int (mn xs : Nat)) H'
def spCan : Sp := fun vs H Q _ => ∃ (l r : Addr) (p : Pc) (A : List Nat), vs = [.str (w4 p.1), .ref l, .ref r] ∧ ListN H l p.2.1 ∧ ListN H r A ∧ (p.1 = 2 ∨ p.1 = 3) ∧ 2 ≤ p.2.1.length ∧ p.2.1.length ≤ 64 ∧ (∀ x ∈ p.2.1, x < A.length) ∧ ∀ q H', H q = none → Ex H H' → ListN H' q (canonP A p) → Q (.ref q) H'
def spDp : Sp := fun vs H Q _ => ∃ (q r : Addr) (n : Nat) (ps : List Pc) (A : List Nat), vs = [.ref q, .int (n : Int), .ref r] ∧ n ≤ 64 ∧ PcsAt H q ps ∧ ListN H r A ∧ A.length = n ∧ Cut n ps ∧ ∀ d H', H d = none → Ex H H' → PrtsAt H' d ((psJ ps n).map (outP A)) → Q (.ref d) H'
def spDk : Sp := fun vs H Q _ => ∃ (q : Addr) (n f : Nat) (ps : List Pc), vs = [.ref q, .int (if f = 0 then 1 else -1)] ∧ f < 2 ∧ n ≤ 64 ∧ PcsAt H q ps ∧ Cut n ps ∧ ∀ d es H', H d = none → Ex H H' → EntsAt H' d es → es.Perm (entsD f ps) → es.Pairwise (fun e f => leE e f = true) → Q (.ref d) H'
def spAsc : Sp := fun vs H Q _ => ∃ (q : Addr) (es : List Ent), vs = [.ref q] ∧ EntsAt H q es ∧ es.length ≤ 64 ∧ (∀ e ∈ es, e.1 < 2) ∧ ∀ d fs H', H d = none → Ex H H' → EntsAt H' d fs → fs.Perm es → fs.Pairwise (fun e f => leE e f = true) → Q (.ref d) H'
def spPtd : Sp := fun vs H Q _ => ∃ (t d : Addr) (cs : List (Bool × List Nat)), vs = [.ref t, .ref d] ∧ PrtsAt H t cs ∧ PrtsAt H d cs ∧ cs.length ≤ 200 ∧ (∀ c ∈ cs, c.2.length ≤ 200) ∧ ∀ H', Ex H H' → Q (.bl true) H'
def spKtd : Sp := fun vs H Q _ => ∃ (t d : Addr) (es : List Ent), vs = [.ref t, .ref d] ∧ KindAt H t es ∧ EntsAt H d es ∧ es.length ≤ 200 ∧ ∀ H', Ex H H' → Q (.bl true) H'
/-- the word of a fault -/
def fw : Nat → Str
  | 1 => "entry" | 2 => "state" | 3 => "sizes" | _ => "none"
def fltV (o : Option (Nat × Nat)) : List V := [.str (fw ((o.map (·.1)).getD 0)), .int ((o.map (·.2)).getD 0 : Nat)]
def spFl : Sp := fun vs H Q _ => ∃ (a b : Addr) (xs zs : List Int), vs = [.ref a, .ref b] ∧ ListI H a xs ∧ ListI H b zs ∧ xs.length ≤ 65 ∧ zs.length ≤ 65 ∧ ∀ p H', H p = none → Ex H H' → H' p = some (.lst (fltV (faultF xs zs))) → Q (.ref p) H'
def spBe : Sp := fun vs H Q _ => ∃ (b c r : Addr) (xs : List Nat), vs = [.ref b, .ref r] ∧ Bx H b c ∧ ListN H r xs ∧ r ≠ b ∧ xs.length ≤ 64 ∧ ∀ p zs H', H p = none → Bx H' b c → Mut b H H' → ListI H' p zs → zs.length ≤ 65 → Q (.ref p) H'
def spCl (A : Ad) : Sp := fun vs H Q E => ∃ (a b : Addr) (xs zs : List Int) (dr : Nat), vs = [.int (dr : Int), .ref a, .ref b] ∧ dr < 3 ∧ ListI H a xs ∧ ListI H b zs ∧ xs.length ≤ 65 ∧ zs.length ≤ 65 ∧ (faultF xs zs = none → ∀ H', Ex H H' → Q .non H') ∧ ∀ f, faultF xs zs = some f → RzF A f H E
def spFt : Sp := fun vs H Q _ => ∃ (a b du : Addr) (xs zs : List Int) (dr : Nat), vs = [.int (dr : Int), .ref a, .ref b, .ref du] ∧ dr < 3 ∧ ListI H a xs ∧ ListI H b zs ∧ xs.length ≤ 65 ∧ zs.length ≤ 65 ∧ H du = some (.lst (fltV (faultF xs zs))) ∧ ∀ H', Ex H H' → Q (.bl true) H'
def spKp : Sp := fun vs H Q _ => ∃ (q a b : Addr) (n f : Nat) (ps : List Pc) (A B : List Nat), vs = [.ref q, .int (n : Int), .ref a, .ref b, .int (if f = 0 then 1 else -1)] ∧ n ≤ 64 ∧ PcsAt H q ps ∧ Cut n ps ∧ ListN H a A ∧ ListN H b B ∧ Bl A B f ps n ∧ ∀ H', Ex H H' → Q (.bl true) H'
def spLaw (K : PySem.W.Frag) : Sp := fun vs H Q _ => ∃ (a : Addr) (ns : List Int), vs = [.ref a] ∧ SqL K H a (ns.map V.int) ∧ ns.length ≤ 63 ∧ ∀ H', Q (.bl true) H'
end Pv

/-! rows put together of pieces, step by step -/
namespace Pv
open Pm
/-- two records that show each other -/
def swp (R : List Nat) (x y : Nat) : List Nat := (R.set x y).set y x
theorem swp_len {R : List Nat} {x y : Nat} : (swp R x y).length = R.length := by
  unfold swp
  rw [List.length_set, List.length_set]
theorem gt_set {R : List Nat} {x y z : Nat} (hx : x < R.length) : gt (R.set x y) z = if z = x then y else gt R z := by
  unfold gt
  rw [List.getD_eq_getElem?_getD, List.getElem?_set, List.getD_eq_getElem?_getD]
  by_cases c : x = z
  · rw [if_pos c, if_pos c.symm, if_pos (by omega)]
    rfl
  · rw [if_neg c, if_neg (fun h => c h.symm)]
theorem gt_swp {R : List Nat} {x y z : Nat} (hx : x < R.length) (hy : y < R.length) : gt (swp R x y) z = if z = y then x else if z = x then y else gt R z := by
  unfold swp
  rw [gt_set (by rw [List.length_set]; exact hy), gt_set hx]
/-- whom the j-th record shows in the row r after k links -/
def stp (r s k j : Nat) : Nat := if (s + j) % 2 = r then (if j < k then j + 1 else j) else (if 0 < j ∧ j ≤ k then j - 1 else j)
theorem stp_zero {r s j : Nat} : stp r s 0 j = j := by
  unfold stp
  split <;> split <;> omega
theorem stp_same {r s k j : Nat} (hr : r < 2) (h : (s + k) % 2 ≠ r) : stp r s (k + 1) j = stp r s k j := by
  unfold stp
  split <;> split <;> split <;> omega
theorem stp_go {r s k j : Nat} (h : (s + k) % 2 = r) : stp r s (k + 1) j = if j = k + 1 then k else if j = k then k + 1 else stp r s k j := by
  unfold stp
  by_cases c1 : j = k + 1
  · rw [if_pos c1, if_neg (by omega), if_pos (by omega)]
    omega
  · rw [if_neg c1]
    by_cases c2 : j = k
    · rw [if_pos c2, if_pos (by omega), if_pos (by omega)]
      omega
    · rw [if_neg c2]
      split <;> split <;> split <;> omega
/-- the links so far, in the row r -/
structure Lnk (R0 R : List Nat) (L : List Nat) (r s k : Nat) : Prop where
  len : R.length = R0.length
  out : ∀ z, z ∉ L → gt R z = gt R0 z
  at_ : ∀ j, j < L.length → gt R (gt L j) = gt L (stp r s k j)
theorem Lnk.zero {R0 L : List Nat} {r s : Nat} (h : ∀ x ∈ L, gt R0 x = x) : Lnk R0 R0 L r s 0 :=
  ⟨rfl, fun _ _ => rfl, fun j hj => by rw [stp_zero]; exact h _ (gt_mem hj)⟩
theorem Lnk.same {R0 R L : List Nat} {r s k : Nat} (l : Lnk R0 R L r s k) (hr : r < 2) (h : (s + k) % 2 ≠ r) : Lnk R0 R L r s (k + 1) :=
  ⟨l.len, l.out, fun j hj => by rw [stp_same hr h]; exact l.at_ j hj⟩
theorem Lnk.go {R0 R L : List Nat} {r s k : Nat} (l : Lnk R0 R L r s k) (nd : L.Nodup) (lt : ∀ x ∈ L, x < R0.length) (hk : k + 1 < L.length) (h : (s + k) % 2 = r) : Lnk R0 (swp R (gt L k) (gt L (k + 1))) L r s (k + 1) := by
  have m1 := gt_mem (show k < L.length by omega)
  have m2 := gt_mem hk
  have b1 := lt _ m1
  have b2 := lt _ m2
  rw [← l.len] at b1 b2
  refine ⟨by rw [swp_len]; exact l.len, fun z hz => ?_, fun j hj => ?_⟩
  · rw [gt_swp b1 b2, if_neg (fun e => hz (by rw [e]; exact m2)), if_neg (fun e => hz (by rw [e]; exact m1))]
    exact l.out z hz
  · rw [gt_swp b1 b2, stp_go h]
    by_cases c1 : j = k + 1
    · rw [c1, if_pos rfl, if_pos rfl]
    · rw [if_neg (fun e => c1 (gt_inj nd hj hk e)), if_neg c1]
      by_cases c2 : j = k
      · rw [c2, if_pos rfl, if_pos rfl]
      · rw [if_neg (fun e => c2 (gt_inj nd hj (by omega) e)), if_neg c2]
        exact l.at_ j hj
theorem Lnk.chain {R0 R : List Nat} {p : Pc} {r : Nat} (l : Lnk R0 R p.2.1 r p.2.2 (p.2.1.length - 1)) (hw : p.1 = 2) : PcAt R r p := by
  intro k hk
  rw [l.at_ k hk]
  congr 1
  unfold stp nb
  rw [if_neg (show ¬ p.1 = 0 by omega), if_neg (show ¬ p.1 = 1 by omega), if_neg (show ¬ p.1 = 3 by omega), if_neg (show ¬ p.1 = 3 by omega)]
  split
  · split <;> split <;> omega
  · split <;> split <;> omega
theorem Lnk.free {R0 R : List Nat} {p : Pc} {r : Nat} (l : Lnk R0 R p.2.1 r p.2.2 (p.2.1.length - 1)) (ok : PcOk p) (hw : p.1 = 0) : PcAt R r p := by
  intro k hk
  rw [l.at_ k hk]
  congr 1
  have := ok.l0 hw
  rw [show p.2.1.length - 1 = 0 by omega, stp_zero]
  unfold nb
  rw [if_pos hw]
theorem Lnk.ring0 {R0 R : List Nat} {p : Pc} (l : Lnk R0 R p.2.1 0 p.2.2 (p.2.1.length - 1)) (ok : PcOk p) (hw : p.1 = 3) (s0 : p.2.2 = 0) : PcAt R 0 p := by
  intro k hk
  rw [l.at_ k hk]
  congr 1
  obtain ⟨n4, n2⟩ := ok.l3 hw
  unfold stp nb
  rw [if_neg (show ¬ p.1 = 0 by omega), if_neg (show ¬ p.1 = 1 by omega), if_pos hw, if_pos hw, s0]
  split
  · split <;> split <;> omega
  · split <;> split <;> omega
theorem Lnk.ring1 {R0 R : List Nat} {p : Pc} (l : Lnk R0 R p.2.1 1 p.2.2 (p.2.1.length - 1)) (ok : PcOk p) (lt : ∀ x ∈ p.2.1, x < R0.length) (hw : p.1 = 3) (s0 : p.2.2 = 0) : PcAt (swp R (gt p.2.1 (p.2.1.length - 1)) (gt p.2.1 0)) 1 p := by
  intro k hk
  obtain ⟨n4, n2⟩ := ok.l3 hw
  have m1 := lt _ (gt_mem (show p.2.1.length - 1 < p.2.1.length by omega))
  have m2 := lt _ (gt_mem (show 0 < p.2.1.length by omega))
  rw [← l.len] at m1 m2
  rw [gt_swp m1 m2]
  unfold nb
  rw [if_neg (show ¬ p.1 = 0 by omega), if_neg (show ¬ p.1 = 1 by omega), if_pos hw, if_pos hw, s0]
  by_cases c1 : k = 0
  · rw [if_pos (by rw [c1]), if_neg (by omega), if_neg (by omega)]
  · rw [if_neg (fun e => c1 (gt_inj ok.nd hk (by omega) e))]
    by_cases c2 : k = p.2.1.length - 1
    · rw [if_pos (by rw [← c2]), if_pos (by omega), if_neg (by omega)]
    · rw [if_neg (fun e => c2 (gt_inj ok.nd hk (by omega) e)), l.at_ k hk, s0]
      congr 1
      unfold stp
      split
      · split <;> split <;> omega
      · split <;> split <;> omega
theorem ring_out {R0 R L : List Nat} {s k : Nat} (l : Lnk R0 R L 1 s k) (pos : 0 < L.length) (lt : ∀ x ∈ L, x < R0.length) : ∀ z, z ∉ L → gt (swp R (gt L (L.length - 1)) (gt L 0)) z = gt R0 z := fun z hz => by
  have a1 := gt_mem (show L.length - 1 < L.length by omega)
  have a2 := gt_mem pos
  have m1 := lt _ a1
  have m2 := lt _ a2
  rw [← l.len] at m1 m2
  rw [gt_swp m1 m2, if_neg (fun e => hz (by rw [e]; exact a2)), if_neg (fun e => hz (by rw [e]; exact a1))]
  exact l.out z hz
theorem pair_at {R : List Nat} {p : Pc} {r : Nat} (ok : PcOk p) (hw : p.1 = 1) (lt : ∀ x ∈ p.2.1, x < R.length) : PcAt (swp R (gt p.2.1 0) (gt p.2.1 1)) r p ∧ ∀ z, z ∉ p.2.1 → gt (swp R (gt p.2.1 0) (gt p.2.1 1)) z = gt R z := by
  have l1 := ok.l1 hw
  have a1 := gt_mem (show 0 < p.2.1.length by omega)
  have a2 := gt_mem (show 1 < p.2.1.length by omega)
  have m1 := lt _ a1
  have m2 := lt _ a2
  refine ⟨fun k hk => ?_, fun z hz => ?_⟩
  · rw [gt_swp m1 m2]
    unfold nb
    rw [if_neg (show ¬ p.1 = 0 by omega), if_pos hw]
    by_cases c : k = 1
    · rw [c, if_pos rfl]
    · rw [if_neg (fun e => c (gt_inj ok.nd hk (by omega) e)), if_pos (by rw [show k = 0 by omega]), show 1 - k = 1 by omega]
  · rw [gt_swp m1 m2, if_neg (fun e => hz (by rw [e]; exact a2)), if_neg (fun e => hz (by rw [e]; exact a1))]
/-- the rows after some pieces -/
structure Stt (n : Nat) (qs : List Pc) (A B : List Nat) : Prop where
  la : A.length = n
  lb : B.length = n
  at_ : ∀ p ∈ qs, PcAt A 0 p ∧ PcAt B 1 p
  out : ∀ x, x < n → x ∉ qs.flatMap (·.2.1) → gt A x = x ∧ gt B x = x
theorem Stt.step {n : Nat} {qs : List Pc} {p : Pc} {A B A1 B1 : List Nat} (S : Stt n qs A B) (ok : ∀ q ∈ qs, PcOk q) (dis : ∀ x ∈ p.2.1, x ∉ qs.flatMap (·.2.1)) (l1 : A1.length = A.length) (l2 : B1.length = B.length) (o1 : ∀ z, z ∉ p.2.1 → gt A1 z = gt A z) (o2 : ∀ z, z ∉ p.2.1 → gt B1 z = gt B z) (h1 : PcAt A1 0 p) (h2 : PcAt B1 1 p) : Stt n (qs ++ [p]) A1 B1 := by
  refine ⟨l1.trans S.la, l2.trans S.lb, fun q hq => ?_, fun x hx hn => ?_⟩
  · rcases List.mem_append.mp hq with hq | hq
    · obtain ⟨a, b⟩ := S.at_ q hq
      have no : ∀ k, k < q.2.1.length → gt q.2.1 k ∉ p.2.1 := fun k hk h => dis _ h (List.mem_flatMap.mpr ⟨q, hq, gt_mem hk⟩)
      exact ⟨fun k hk => by rw [o1 _ (no k hk)]; exact a k hk, fun k hk => by rw [o2 _ (no k hk)]; exact b k hk⟩
    · rw [List.mem_singleton.mp hq]
      exact ⟨h1, h2⟩
  · rw [List.flatMap_append, List.mem_append, not_or] at hn
    have hp : x ∉ p.2.1 := fun h => hn.2 (List.mem_flatMap.mpr ⟨p, List.mem_singleton.mpr rfl, h⟩)
    rw [o1 _ hp, o2 _ hp]
    exact S.out x hx hn.1
theorem gt_range {n x : Nat} (h : x < n) : gt (List.range n) x = x := by
  unfold gt
  rw [List.getD_eq_getElem?_getD, List.getElem?_range h]
  rfl
theorem Stt.zero {n : Nat} : Stt n [] (List.range n) (List.range n) :=
  ⟨List.length_range, List.length_range, (fun _ h => by cases h), fun x hx _ => ⟨gt_range hx, gt_range hx⟩⟩
end Pv

/-! rows put together of pieces are states -/
namespace Pv
open Pm
theorem nb_nb {p : Pc} (ok : PcOk p) {r k : Nat} (hr : r < 2) (hk : k < p.2.1.length) : nb r p.1 p.2.1.length p.2.2 (nb r p.1 p.2.1.length p.2.2 k) = k := by
  have h0 := ok.l0
  have h1 := ok.l1
  have h2 := ok.l2
  have h3 := ok.l3
  have hw := ok.w
  by_cases c0 : p.1 = 0
  · have nz : ∀ j, nb r p.1 p.2.1.length p.2.2 j = j := fun j => by unfold nb; rw [if_pos c0]
    rw [nz, nz]
  by_cases c1 : p.1 = 1
  · have l := h1 c1
    have n1 : ∀ j, nb r p.1 p.2.1.length p.2.2 j = 1 - j := fun j => by unfold nb; rw [if_neg c0, if_pos c1]
    rw [n1, n1]
    omega
  have cr : ∀ j, nb r p.1 p.2.1.length p.2.2 j = if (p.2.2 + j) % 2 = r then (if j + 1 < p.2.1.length then j + 1 else if p.1 = 3 then 0 else j) else (if 0 < j then j - 1 else if p.1 = 3 then p.2.1.length - 1 else j) := fun j => nb_cr (by omega)
  rw [cr k]
  by_cases par : (p.2.2 + k) % 2 = r
  · rw [if_pos par]
    by_cases d : k + 1 < p.2.1.length
    · rw [if_pos d, cr, if_neg (by omega), if_pos (by omega)]
      omega
    · rw [if_neg d]
      by_cases c3 : p.1 = 3
      · obtain ⟨n4, n2⟩ := h3 c3
        rw [if_pos c3, cr, if_neg (by omega), if_neg (by omega), if_pos c3]
        omega
      · rw [if_neg c3, cr, if_pos par, if_neg d, if_neg c3]
  · rw [if_neg par]
    by_cases d : 0 < k
    · rw [if_pos d, cr, if_pos (by omega), if_pos (by omega)]
      omega
    · rw [if_neg d]
      by_cases c3 : p.1 = 3
      · obtain ⟨n4, n2⟩ := h3 c3
        rw [if_pos c3, cr, if_pos (by omega), if_neg (by omega), if_pos c3]
        omega
      · rw [if_neg c3, cr, if_neg par, if_neg d, if_neg c3]
theorem Bl.sta_ {A B : List Nat} {f n r : Nat} {ps : List Pc} (b : Bl A B f ps n) {R : List Nat} (hr : r < 2) (hl : R.length = n) (h : ∀ p ∈ ps, PcAt R r p) : Sta R := by
  have one : ∀ x, x < n → ∃ p q, p ∈ ps ∧ q < p.2.1.length ∧ gt p.2.1 q = x := fun x hx => by
    obtain ⟨p, hp, hm⟩ := b.own hx
    obtain ⟨q, hq, e⟩ := mem_getD hm
    exact ⟨p, q, hp, hq, e⟩
  refine ⟨fun x hx => ?_, fun x hx => ?_⟩
  · rw [hl] at hx ⊢
    obtain ⟨p, q, hp, hq, rfl⟩ := one x hx
    rw [h p hp q hq]
    exact b.lt hp _ (gt_mem (nb_lt (b.ok p hp) hq))
  · rw [hl] at hx
    obtain ⟨p, q, hp, hq, rfl⟩ := one x hx
    rw [h p hp q hq, h p hp _ (nb_lt (b.ok p hp) hq), nb_nb (b.ok p hp) hr hq]
theorem Bl.sta {A B : List Nat} {f n : Nat} {ps : List Pc} (b : Bl A B f ps n) : Sta A ∧ Sta B := by
  have hf := b.hf
  exact ⟨b.sta_ hf b.la fun p hp => (b.at_ p hp).1, b.sta_ (r := 1 - f) (by omega) b.lb fun p hp => (b.at_ p hp).2⟩
end Pv

/-! sorted of a tuple of data of one shape -/
namespace DaS
open PySem PySem.Spec PyProof.Rows PySem.W PySem.Calls L2
section
variable {X : Cx}
def rSortT (K : PySem.W.Frag) : List V → Hp → VK → Prop := fun vs H Q => ∃ (a : Addr) (bs : List (V × PyData)), vs = [.ref a] ∧ SqT K H a (bs.map Prod.fst) ∧ (∀ b ∈ bs, Dp K H b.1 b.2 ∧ b.2.depth ≤ 60) ∧ AllAlike (bs.map Prod.snd) ∧ Sortable (bs.map Prod.snd) ∧
  ∀ p, H p = none → Q (.ref p) (upd H p (.lst ((bs.mergeSort (dataLe false Prod.snd)).map Prod.fst)))
theorem cr_sortT (room : X.A.units + 64 < cLine) : CallR X (.builtin "sorted") (rSortT X.K) := by
  rintro pins s σ H vs us Q I r ⟨a, bs, rfl, hs, hd, al, so, q⟩
  obtain ⟨its, rv, hl, hz⟩ := I.tuple hs
  rw [Vals.ref1 r]
  have ln : its.length = bs.length := by rw [← rv.length, List.length_map]
  rw [List.length_map] at hz
  have E1 := each_vals (R := fun b => b ∈ bs) rv fun b hb => hb
  obtain ⟨o, ho, hc, n, hdat⟩ := hl
  refine call_function_entry kind_sorted plain_sorted entry_sorted (args_sorted1 _) ?_
  unfold Builtin.«sorted»
  refine wpAny_bind (m := checkCount "sorted" 1 1 _) (wpAny_pure ?_)
  refine wpAny_bind (wpAny_collect_seq a (.inr rfl) ho hc hdat (fun h' kp => ?_) (by rw [List.size_toArray, ln]; exact hz))
  refine wpAny_bind (wpAny_newList ?_ (by show its.length ≤ _; rw [ln]; exact hz))
  have e2 : its.toArray.toList = its := rfl
  show wpAny _ X.A.in1 _ _ _ { s with heap := h'.push (seqObj "list" its.toArray 0) }
  have hD : (h'.push (seqObj "list" its.toArray 0)).get? h'.objs.size = some (seqObj "list" its.toArray 0) := Heap.get?_push_size _ rfl
  have old : ∀ b o, s.heap.get? b = some o → b ≠ h'.objs.size ∧ (h'.push (seqObj "list" its.toArray 0)).get? b = some o := fun b o e =>
    ⟨Nat.ne_of_lt (Heap.lt_size (kp b o e)), Heap.get?_push_of_some _ (kp b o e)⟩
  have er : EachIs (fun v b => ∃ as, Reads (sortingHeap (h'.push (seqObj "list" its.toArray 0)) h'.objs.size its) v b.2 as) its bs := each_mono (fun v b rb => by
    obtain ⟨as, r⟩ := Dp.reads I b.2 b.1 v (hd b rb.2).1 rb.1
    exact ⟨as, PyProof.Rows.Reads.keeps (fun b o e => sortingHeap_old (old b o e).1 (old b o e).2) r⟩) E1
  have run : wpAny (model X.prog X.w) X.A.in1 (call (.builtin "list.sort") [.ref h'.objs.size]) (fun _ s' => s' = { s with heap := sortedHeap (h'.push (seqObj "list" its.toArray 0)) h'.objs.size its (sortVals (dataKind (sortingHeap (h'.push (seqObj "list" its.toArray 0)) h'.objs.size its) (bs.map Prod.snd)) false its its).toArray }) X.xe { s with heap := h'.push (seqObj "list" its.toArray 0) } :=
    wpAny_call_entry slot_list_sort ⟨_, hD, rfl⟩ entry_list_sort (list_sort_vals (κ := dataKind (sortingHeap (h'.push (seqObj "list" its.toArray 0)) h'.objs.size its) (bs.map Prod.snd)) hD
      (SortsAt.data (s := { s with heap := sortingHeap (h'.push (seqObj "list" its.toArray 0)) h'.objs.size its }) (each_map (R := fun v d => ∃ as, Reads (sortingHeap (h'.push (seqObj "list" its.toArray 0)) h'.objs.size its) v d as) Prod.snd er) al so (bound_map fun b hb => by
        have := (hd b hb).2
        show X.A.units + 1 + 1 + b.2.depth < cLine
        omega)) (by rw [ln]; exact hz) ⟨.none, rfl, rfl⟩) (args_list_sort _)
  refine wpAny_bind (wpAny_holding (wpAny_mono run (fun _ s' x => ?_) fun _ _ e => e))
  subst x
  refine wpAny_pure ⟨_, rfl, ?_⟩
  obtain ⟨m, hm⟩ := sortedHeap_at (out := (sortVals (dataKind (sortingHeap (h'.push (seqObj "list" its.toArray 0)) h'.objs.size its) (bs.map Prod.snd)) false its its).toArray) hD
  have rs := vals_each (sortVals_data (enc := Prod.snd) false E1 er al)
  have hz2 : ((bs.mergeSort (dataLe false Prod.snd)).map Prod.fst).length ≤ sizeLine := by
    rw [List.length_map, List.length_mergeSort]
    exact hz
  have I1 : Inv X pins σ H { s with heap := h' } := I.kept (t' := s.toks) kp
  exact ⟨.ref h'.objs.size, upd H h'.objs.size (.lst ((bs.mergeSort (dataLe false Prod.snd)).map Prod.fst)), I1.laid (t' := s.toks) (fun b o e => by rw [sortedHeap_old (Nat.ne_of_lt (Heap.lt_size e)) (Heap.lt_size (Heap.get?_push_of_some _ e))]; exact Heap.get?_push_of_some _ e) (Nat.le_refl _) ⟨hz2, _, m, rs, hm⟩, rfl, q _ (I1.hok.fresh (Nat.le_refl _))⟩
end
end DaS

namespace Pv
open PySem L2 Evl Pm
/-- an entry of any kind: a word, a length, a gain -/
abbrev GE := Str × Int × Int
def GenAt (H : Hp) (t : Addr) (e : GE) : Prop := H t = some (.tup [.str e.1, .int e.2.1, .int e.2.2])
def GensT (H : Hp) (p : Addr) (es : List GE) : Prop := ∃ ts : List Addr, H p = some (.tup (ts.map V.ref)) ∧ ts.length = es.length ∧ ∀ (i : Nat) (t : Addr) (e : GE), ts[i]? = some t → es[i]? = some e → GenAt H t e
def GensL (H : Hp) (p : Addr) (es : List GE) : Prop := ∃ ts : List Addr, H p = some (.lst (ts.map V.ref)) ∧ ts.length = es.length ∧ ∀ (i : Nat) (t : Addr) (e : GE), ts[i]? = some t → es[i]? = some e → GenAt H t e
theorem GensT.ex {H H' : Hp} {p : Addr} {es : List GE} (e : Ex H H') (h : GensT H p es) : GensT H' p es := by
  obtain ⟨ts, h1, h2, h3⟩ := h
  exact ⟨ts, e _ _ h1, h2, fun i t c a b => e _ _ (h3 i t c a b)⟩
theorem GensL.ex {H H' : Hp} {p : Addr} {es : List GE} (e : Ex H H') (h : GensL H p es) : GensL H' p es := by
  obtain ⟨ts, h1, h2, h3⟩ := h
  exact ⟨ts, e _ _ h1, h2, fun i t c a b => e _ _ (h3 i t c a b)⟩
def toG (e : Ent) : GE := (wE e.1, e.2.1, e.2.2)
def frG (e : GE) : Ent := (if e.1 = ("ring" : Str) then 1 else 0, e.2.1, e.2.2)
/-- an entry that a kind may hold -/
def goodE (e : GE) : Bool :=
  if e.1 = ("ring" : Str) then decide (4 ≤ e.2.1) && (decide (e.2.1 % 2 = 0) && decide (e.2.2 = 0))
  else if e.1 = ("chain" : Str) then (if e.2.1 < 2 then false else if e.2.1 % 2 = 0 then decide (e.2.2 = 1) || decide (e.2.2 = -1) else decide (e.2.2 = 0))
  else false
def Valid (es : List GE) : Prop := (∀ e ∈ es, goodE e = true) ∧ (es.map frG).Pairwise fun e f => leE e f = true
theorem frG_lt (e : GE) : (frG e).1 < 2 := by
  unfold frG
  show (if _ then 1 else 0) < 2
  split <;> omega
theorem toG_frG {e : GE} (h : goodE e = true) : toG (frG e) = e := by
  unfold goodE at h
  unfold toG frG
  by_cases c : e.1 = ("ring" : Str)
  · rw [if_pos c]
    show (("ring" : Str), e.2.1, e.2.2) = e
    rw [← c]
  · rw [if_neg c] at h ⊢
    by_cases c2 : e.1 = ("chain" : Str)
    · show (("chain" : Str), e.2.1, e.2.2) = e
      rw [← c2]
    · rw [if_neg c2] at h
      cases h
theorem gen_ent {H : Hp} {t : Addr} {e : GE} (g : goodE e = true) (h : GenAt H t e) : EntAt H t (frG e) := by
  have : GenAt H t (toG (frG e)) := by rw [toG_frG g]; exact h
  exact this
theorem ent_gen {H : Hp} {t : Addr} {e : Ent} (h : EntAt H t e) : GenAt H t (toG e) := h
def revE (e : Ent) : Ent := (e.1, e.2.1, -e.2.2)
def spIe : Sp := fun vs H Q _ => ∃ (t : Addr) (e : GE), vs = [.ref t] ∧ GenAt H t e ∧ ∀ H', Ex H H' → Q (.bl (goodE e)) H'
def spCk (A : Ad) : Sp := fun vs H Q E => ∃ (p : Addr) (es : List GE), vs = [.ref p] ∧ GensT H p es ∧ es.length ≤ 70 ∧ (Valid es → ∀ H', Ex H H' → Q .non H') ∧ (¬ Valid es → ∀ H', Ex H H' → E (.ref A.InvalidKind) none H')
def spRk (A : Ad) : Sp := fun vs H Q E => ∃ (p : Addr) (es : List GE), vs = [.ref p] ∧ GensT H p es ∧ es.length ≤ 70 ∧ (Valid es → ∀ q fs H', H q = none → Ex H H' → KindAt H' q fs → fs.Perm ((es.map frG).map revE) → fs.Pairwise (fun e f => leE e f = true) → Q (.ref q) H') ∧ (¬ Valid es → ∀ H', Ex H H' → E (.ref A.InvalidKind) none H')
/-- a row told by its places -/
def mp (f : Nat → Nat) (n : Nat) : List Nat := (List.range n).map f
theorem mp_len {f : Nat → Nat} {n : Nat} : (mp f n).length = n := by
  unfold mp
  rw [List.length_map, List.length_range]
theorem mp_congr {f g : Nat → Nat} {n : Nat} (h : ∀ j, j < n → f j = g j) : mp f n = mp g n := List.map_congr_left fun j hj => h j (List.mem_range.mp hj)
theorem mp_set {f : Nat → Nat} {n i v : Nat} : (mp f n).set i v = mp (fun j => if j = i then v else f j) n := by
  unfold mp
  refine List.ext_getElem (by simp) fun j h1 h2 => ?_
  rw [List.getElem_set, List.getElem_map, List.getElem_map, List.getElem_range]
  by_cases c : i = j
  · rw [if_pos c, if_pos c.symm]
  · rw [if_neg c, if_neg (fun z => c z.symm)]
def spPd : Sp := fun vs H Q _ => ∃ (st n sk : Nat), vs = [.int (st : Int), .int (n : Int), .int (sk : Int)] ∧ sk < 2 ∧ 2 ≤ n ∧ n ≤ 64 ∧ st ≤ 64 ∧ ∀ p H', H p = none → Ex H H' → ListN H' p (mp (fun j => st + stp sk 0 (n - 1) j) n) → Q (.ref p) H'
end Pv

/-! the sample of a kind: rows put together entry by entry -/
namespace Pv
open PySem L2 Evl Pm
def wG (e : Ent) : Nat := if e.1 = 0 then 2 else 3
def sG (e : Ent) : Nat := if e.2.2 = 1 then 1 else 0
def nG (e : Ent) : Nat := e.2.1.toNat
def blkG (r st : Nat) (e : Ent) : List Nat := mp (fun j => st + nb r (wG e) (nG e) (sG e) j) (nG e)
def rowG (r : Nat) : Nat → List Ent → List Nat
  | _, [] => []
  | st, e :: es => blkG r st e ++ rowG r (st + nG e) es
def pcG (st : Nat) (e : Ent) : Pc := (wG e, mp (fun j => st + j) (nG e), sG e)
def pcsG : Nat → List Ent → List Pc
  | _, [] => []
  | st, e :: es => pcG st e :: pcsG (st + nG e) es
def totG : List Ent → Nat
  | [] => 0
  | e :: es => nG e + totG es
theorem gt_mp {f : Nat → Nat} {n j : Nat} (h : j < n) : gt (mp f n) j = f j := by
  unfold gt mp
  rw [List.getD_eq_getElem?_getD, List.getElem?_map, List.getElem?_range h]
  rfl
theorem rowG_len {r : Nat} : ∀ {st : Nat} {es : List Ent}, (rowG r st es).length = totG es
  | _, [] => rfl
  | st, e :: es => by
    show (blkG r st e ++ rowG r (st + nG e) es).length = _
    rw [List.length_append, rowG_len]
    unfold blkG
    rw [mp_len]
    rfl
/-- a good entry, in numbers -/
structure GdE (e : Ent) : Prop where
  w : e.1 < 2
  n2 : 2 ≤ e.2.1
  ring : e.1 = 1 → 4 ≤ e.2.1 ∧ e.2.1 % 2 = 0 ∧ e.2.2 = 0
  odd : e.2.1 % 2 = 1 → e.2.2 = 0
  even : e.1 = 0 → e.2.1 % 2 = 0 → e.2.2 = 1 ∨ e.2.2 = -1
theorem gdE {e : GE} (h : goodE e = true) : GdE (frG e) := by
  unfold goodE at h
  have lt := frG_lt e
  by_cases c : e.1 = ("ring" : Str)
  · rw [if_pos c] at h
    simp only [Bool.and_eq_true, decide_eq_true_eq] at h
    have f1 : (frG e).1 = 1 := if_pos c
    exact ⟨lt, by show 2 ≤ e.2.1; omega, fun _ => ⟨h.1, h.2.1, h.2.2⟩, fun o => by have o : e.2.1 % 2 = 1 := o; omega, fun z => by rw [f1] at z; cases z⟩
  · rw [if_neg c] at h
    by_cases c2 : e.1 = ("chain" : Str)
    · rw [if_pos c2] at h
      have f1 : (frG e).1 = 0 := if_neg c
      by_cases c3 : e.2.1 < 2
      · rw [if_pos c3] at h
        cases h
      · rw [if_neg c3] at h
        refine ⟨lt, (by show 2 ≤ e.2.1; omega), (fun z => by rw [f1] at z; cases z), fun o => ?_, fun _ ev => ?_⟩
        · have o : e.2.1 % 2 = 1 := o
          rw [if_neg (by omega)] at h
          exact of_decide_eq_true h
        · have ev : e.2.1 % 2 = 0 := ev
          rw [if_pos ev] at h
          simp only [Bool.or_eq_true, decide_eq_true_eq] at h
          exact h
    · rw [if_neg c2] at h
      cases h
theorem pcG_ok {st : Nat} {e : Ent} (g : GdE e) : PcOk (pcG st e) := by
  have gw := g.w
  have g2 := g.n2
  have gr := g.ring
  refine ⟨by show wG e < 4; unfold wG; split <;> omega, by show sG e < 2; unfold sG; split <;> omega, ?_, ?_, ?_, ?_, ?_⟩
  · show (mp _ _).Nodup
    unfold mp
    exact List.Pairwise.map _ (fun a b h z => h (by have z : st + a = st + b := z; omega)) List.nodup_range
  · intro h
    have h : wG e = 0 := h
    unfold wG at h
    split at h <;> omega
  · intro h
    have h : wG e = 1 := h
    unfold wG at h
    split at h <;> omega
  · intro h
    show 2 ≤ (mp _ (nG e)).length
    rw [mp_len]
    unfold nG
    omega
  · intro h
    have h : wG e = 3 := h
    show 4 ≤ (mp _ (nG e)).length ∧ (mp _ (nG e)).length % 2 = 0
    rw [mp_len]
    have e1 : e.1 = 1 := by
      unfold wG at h
      split at h <;> omega
    obtain ⟨r1, r2, _⟩ := gr e1
    unfold nG
    omega
theorem pcsG_ok : ∀ {st : Nat} {es : List Ent}, (∀ e ∈ es, GdE e) → ∀ p ∈ pcsG st es, PcOk p
  | _, [], _, p, hp => by cases hp
  | st, e :: es, g, p, hp => by
    rcases List.mem_cons.mp hp with h | h
    · rw [h]
      exact pcG_ok (g e (List.mem_cons_self ..))
    · exact pcsG_ok (fun e he => g e (List.mem_cons_of_mem _ he)) p h
theorem mp_app {st a b : Nat} : mp (fun j => st + j) a ++ mp (fun j => st + a + j) b = mp (fun j => st + j) (a + b) := by
  unfold mp
  rw [List.range_add, List.map_append, List.map_map]
  congr 1
  refine List.map_congr_left fun j _ => ?_
  show st + a + j = st + (a + j)
  omega
theorem pcsG_flat : ∀ {st : Nat} {es : List Ent}, (pcsG st es).flatMap (·.2.1) = mp (fun j => st + j) (totG es)
  | _, [] => rfl
  | st, e :: es => by
    show (pcG st e).2.1 ++ (pcsG (st + nG e) es).flatMap (·.2.1) = _
    rw [pcsG_flat]
    exact mp_app
theorem pcsG_at {r : Nat} : ∀ {es : List Ent} {R0 : List Nat}, (∀ e ∈ es, GdE e) → ∀ p ∈ pcsG R0.length es, PcAt (R0 ++ rowG r R0.length es) r p
  | [], _, _, p, hp => by cases hp
  | e :: es, R0, g, p, hp => by
    have bl : (blkG r R0.length e).length = nG e := mp_len
    have ge := g e (List.mem_cons_self ..)
    rcases List.mem_cons.mp hp with h | h
    · rw [h]
      intro k hk
      have hk : k < nG e := by
        have hk : k < (mp (fun j => R0.length + j) (nG e)).length := hk
        rw [mp_len] at hk
        exact hk
      have nl := nb_lt (pcG_ok (st := R0.length) ge) (r := r) (k := k) (by show k < (mp _ _).length; rw [mp_len]; exact hk)
      have ml : (pcG R0.length e).2.1.length = nG e := mp_len
      rw [ml] at nl ⊢
      show gt (R0 ++ (blkG r R0.length e ++ _)) (gt (mp (fun j => R0.length + j) (nG e)) k) = gt (mp (fun j => R0.length + j) (nG e)) _
      rw [gt_mp hk, gt_mp nl, gt_app, if_neg (by omega), show R0.length + k - R0.length = k by omega, gt_app, bl, if_pos hk]
      exact gt_mp hk
    · have ih := pcsG_at (r := r) (R0 := R0 ++ blkG r R0.length e) (fun e he => g e (List.mem_cons_of_mem _ he)) p
      rw [List.length_append, bl] at ih
      show PcAt (R0 ++ (blkG r R0.length e ++ rowG r (R0.length + nG e) es)) r p
      rw [← List.append_assoc]
      exact ih h
/-- the sample's rows are put together of the kind's pieces -/
theorem bl_G {es : List Ent} (g : ∀ e ∈ es, GdE e) : Bl (rowG 0 0 es) (rowG 1 0 es) 0 (pcsG 0 es) (totG es) := by
  refine ⟨rowG_len, rowG_len, by decide, ?_, pcsG_ok g, fun p hp => ⟨pcsG_at (R0 := []) g p hp, pcsG_at (R0 := []) g p hp⟩⟩
  rw [pcsG_flat]
  unfold mp
  rw [List.map_congr_left (g := id) fun j _ => Nat.zero_add j, List.map_id]
theorem due_G {st : Nat} {e : Ent} (g : GdE e) : entD 0 (pcG st e) = e ∧ entD 1 (pcG st e) = revE e := by
  have gw := g.w
  have g2 := g.n2
  have gr := g.ring
  have go := g.odd
  have gv := g.even
  have ml : (pcG st e).2.1.length = nG e := mp_len
  unfold entD dueG revE
  rw [ml]
  obtain ⟨a, n, c⟩ := e
  have gw : a < 2 := gw
  have g2 : 2 ≤ n := g2
  have gr : a = 1 → 4 ≤ n ∧ n % 2 = 0 ∧ c = 0 := gr
  have go : n % 2 = 1 → c = 0 := go
  have gv : a = 0 → n % 2 = 0 → c = 1 ∨ c = -1 := gv
  show ((if wG (a, n, c) = 3 then 1 else 0, ((nG (a, n, c) : Nat) : Int), (if wG (a, n, c) = 3 then 0 else if nG (a, n, c) % 2 = 1 then 0 else if sG (a, n, c) = 0 then -1 else 1)) : Ent) = (a, n, c) ∧ ((if wG (a, n, c) = 3 then 1 else 0, ((nG (a, n, c) : Nat) : Int), (if wG (a, n, c) = 3 then 0 else if nG (a, n, c) % 2 = 1 then 0 else if sG (a, n, c) = 1 then -1 else 1)) : Ent) = (a, n, -c)
  have nn : ((nG (a, n, c) : Nat) : Int) = n := by
    show ((n.toNat : Nat) : Int) = n
    omega
  rw [nn]
  by_cases z : a = 0
  · have w2 : wG (a, n, c) = 2 := if_pos z
    rw [w2, if_neg (by decide), if_neg (by decide)]
    by_cases o : nG (a, n, c) % 2 = 1
    · rw [if_pos o]
      have := go (by omega)
      subst z
      subst this
      refine ⟨rfl, ?_⟩
      rw [if_neg (show ¬ (2 : Nat) = 3 by decide), if_pos o]
      rfl
    · rw [if_neg o]
      have := gv z (by omega)
      subst z
      rcases this with h | h
      · subst h
        refine ⟨rfl, ?_⟩
        rw [if_neg (show ¬ (2 : Nat) = 3 by decide), if_neg o]
        rfl
      · subst h
        refine ⟨rfl, ?_⟩
        rw [if_neg (show ¬ (2 : Nat) = 3 by decide), if_neg o]
        rfl
  · have w3 : wG (a, n, c) = 3 := if_neg z
    have a1 : a = 1 := by omega
    obtain ⟨_, _, c0⟩ := gr a1
    rw [w3, if_pos rfl, if_pos rfl]
    subst a1
    subst c0
    exact ⟨rfl, rfl⟩
theorem entsD_G : ∀ {st : Nat} {es : List Ent}, (∀ e ∈ es, GdE e) → entsD 0 (pcsG st es) = es ∧ entsD 1 (pcsG st es) = es.map revE
  | _, [], _ => ⟨rfl, rfl⟩
  | st, e :: es, g => by
    obtain ⟨i1, i2⟩ := entsD_G (st := st + nG e) (es := es) fun e he => g e (List.mem_cons_of_mem _ he)
    obtain ⟨d1, d2⟩ := due_G (st := st) (g e (List.mem_cons_self ..))
    have cr : isCR (pcG st e) = true := decide_eq_true (by show 1 < wG e; unfold wG; split <;> omega)
    have one : ∀ f, entsD f (pcsG st (e :: es)) = entD f (pcG st e) :: entsD f (pcsG (st + nG e) es) := fun f => by
      unfold entsD
      show ((pcG st e :: pcsG (st + nG e) es).filter isCR).map _ = _
      rw [List.filter_cons, if_pos cr]
      rfl
    rw [one, one, i1, i2, d1, d2]
    exact ⟨rfl, rfl⟩
end Pv

namespace Pv
open PySem L2 Evl Pm
def spSr (A : Ad) : Sp := fun vs H Q E => ∃ (p : Addr) (es : List GE), vs = [.ref p] ∧ GensT H p es ∧ es.length ≤ 70 ∧ (Valid es → totG (es.map frG) ≤ 64) ∧ (Valid es → ∀ t a b H', H t = none → H a = none → H b = none → Ex H H' → H' t = some (.tup [.ref a, .ref b]) → ListN H' a (rowG 0 0 (es.map frG)) → ListN H' b (rowG 1 0 (es.map frG)) → Q (.ref t) H') ∧ (¬ Valid es → ∀ H', Ex H H' → E (.ref A.InvalidKind) none H')
def spSa (A : Ad) : Sp := fun vs H Q E => ∃ (p : Addr) (es : List GE), vs = [.ref p] ∧ GensT H p es ∧ es.length ≤ 70 ∧ (Valid es → totG (es.map frG) ≤ 64) ∧ (Valid es → ∀ u H', H u = none → Ex H H' → UpAt A H' u (rowG 0 0 (es.map frG)) (rowG 1 0 (es.map frG)) → Q (.ref u) H') ∧ (¬ Valid es → ∀ H', Ex H H' → E (.ref A.InvalidKind) none H')
end Pv

namespace Pv
open PySem L2 Evl Pm
theorem good_toG {f : Ent} (g : GdE f) : goodE (toG f) = true ∧ frG (toG f) = f := by
  have gw := g.w
  have g2 := g.n2
  have gr := g.ring
  have go := g.odd
  have gv := g.even
  obtain ⟨a, n, c⟩ := f
  have gwx : a < 2 := gw
  have g2x : 2 ≤ n := g2
  have grx : a = 1 → 4 ≤ n ∧ n % 2 = 0 ∧ c = 0 := gr
  have gox : n % 2 = 1 → c = 0 := go
  have gvx : a = 0 → n % 2 = 0 → c = 1 ∨ c = -1 := gv
  clear gw g2 gr go gv
  have nr : ¬ (wE 0 = ("ring" : Str)) := by decide +kernel
  unfold goodE frG toG
  by_cases z : a = 0
  · subst z
    show (if wE 0 = _ then _ else _) = true ∧ ((if wE 0 = _ then 1 else 0, n, c) : Ent) = _
    rw [if_neg nr, if_neg nr, if_pos (show wE 0 = ("chain" : Str) from rfl)]
    refine ⟨?_, rfl⟩
    show (if n < 2 then false else if n % 2 = 0 then decide (c = 1) || decide (c = -1) else decide (c = 0)) = true
    rw [if_neg (by omega)]
    by_cases o : n % 2 = 0
    · rw [if_pos o]
      rcases gvx rfl o with h | h <;> rw [h] <;> decide
    · rw [if_neg o, gox (by omega)]
      decide
  · have a1 : a = 1 := by omega
    subst a1
    show (if wE 1 = _ then _ else _) = true ∧ ((if wE 1 = _ then 1 else 0, n, c) : Ent) = _
    rw [if_pos (show wE 1 = ("ring" : Str) from rfl), if_pos (show wE 1 = ("ring" : Str) from rfl)]
    obtain ⟨h1, h2, h3⟩ := grx rfl
    refine ⟨?_, rfl⟩
    show (decide (4 ≤ n) && (decide (n % 2 = 0) && decide (c = 0))) = true
    rw [decide_eq_true h1, decide_eq_true h2, decide_eq_true h3]
    rfl
/-- small entries -/
def SmE (e : GE) : Prop := -200 ≤ e.2.1 ∧ e.2.1 ≤ 190
def spLe : Sp := fun vs H Q _ => ∃ (b c : Addr) (rc : Nat), vs = [.ref b, .int (rc : Int)] ∧ 2 ≤ rc ∧ rc ≤ 64 ∧ Bx H b c ∧ ∀ t (f : Ent) H', H t = none → Bx H' b c → Mut b H H' → EntAt H' t f → GdE f → f.2.1 ≤ (rc : Int) → Q (.ref t) H'
def spSg : Sp := fun vs H Q _ => ∃ (b c : Addr), vs = [.ref b] ∧ Bx H b c ∧ ∀ t (e : GE) H', H t = none → Bx H' b c → Mut b H H' → GenAt H' t e → -10 ≤ e.2.1 → e.2.1 ≤ 20 → Q (.ref t) H'
def spGe : Sp := fun vs H Q _ => ∃ (t : Addr) (e : GE), vs = [.ref t] ∧ GenAt H t e ∧ e.2.1 ≤ 190 ∧ ∀ H', Ex H H' → Q (.bl (goodE e)) H'
def spVd : Sp := fun vs H Q _ => ∃ (q : Addr) (es : List GE), vs = [.ref q] ∧ GensL H q es ∧ es.length ≤ 60 ∧ (∀ e ∈ es, e.2.1 ≤ 190) ∧ ∀ H', Ex H H' → (Valid es → Q (.bl true) H') ∧ (¬ Valid es → Q (.bl false) H')
def spRv : Sp := fun vs H Q _ => ∃ (q : Addr) (fs : List Ent), vs = [.ref q] ∧ EntsAt H q fs ∧ fs.length ≤ 60 ∧ (∀ f ∈ fs, f.1 < 2) ∧ ∀ d gs H', H d = none → Ex H H' → EntsAt H' d gs → gs.Perm (fs.map revE) → gs.Pairwise (fun e f => leE e f = true) → Q (.ref d) H'
def spSd : Sp := fun vs H Q _ => ∃ (q : Addr) (fs : List Ent), vs = [.ref q] ∧ EntsAt H q fs ∧ (∀ f ∈ fs, GdE f) ∧ totG fs ≤ 64 ∧ ∀ t a b H', H t = none → Ex H H' → H' t = some (.lst [.ref a, .ref b]) → ListN H' a (rowG 0 0 fs) → ListN H' b (rowG 1 0 fs) → Q (.ref t) H'
def spKp8 : Sp := fun vs H Q _ => ∃ (q : Addr) (fs : List Ent), vs = [.ref q] ∧ EntsAt H q fs ∧ (∀ f ∈ fs, GdE f) ∧ fs.Pairwise (fun e f => leE e f = true) ∧ totG fs ≤ 64 ∧ fs.length ≤ 60 ∧ ∀ H', Ex H H' → Q (.bl true) H'
def spCl8 (A : Ad) : Sp := fun vs H Q E => ∃ (p : Addr) (es : List GE) (dr : Nat), vs = [.int (dr : Int), .ref p] ∧ dr < 4 ∧ GensT H p es ∧ es.length ≤ 70 ∧ ¬ Valid es ∧ ∀ H', Ex H H' → E (.ref A.InvalidKind) none H'
def spRf : Sp := fun vs H Q _ => ∃ (p : Addr) (es : List GE) (dr : Nat), vs = [.int (dr : Int), .ref p] ∧ dr < 4 ∧ GensT H p es ∧ es.length ≤ 70 ∧ ¬ Valid es ∧ ∀ H', Ex H H' → Q (.bl true) H'
def spJd : Sp := fun vs H Q _ => ∃ (q : Addr) (es : List GE), vs = [.ref q] ∧ GensL H q es ∧ es.length ≤ 60 ∧ (∀ e ∈ es, e.2.1 ≤ 190) ∧ ∀ H', Ex H H' → Q (.bl true) H'
def spKtd8 : Sp := fun vs H Q _ => ∃ (t d : Addr) (es : List Ent), vs = [.ref t, .ref d] ∧ KindAt H t es ∧ KindAt H d es ∧ es.length ≤ 200 ∧ ∀ H', Ex H H' → Q (.bl true) H'
def spEs : Sp := fun vs H Q _ => ∃ (b c : Addr), vs = [.ref b] ∧ Bx H b c ∧ ∀ q fs H', H q = none → Bx H' b c → Mut b H H' → EntsAt H' q fs → (∀ f ∈ fs, GdE f) → fs.Pairwise (fun e f => leE e f = true) → totG fs ≤ 64 → fs.length ≤ 50 → Q (.ref q) H'
def spBe8 : Sp := fun vs H Q _ => ∃ (b c q : Addr) (fs : List Ent), vs = [.ref b, .ref q] ∧ Bx H b c ∧ EntsAt H q fs ∧ fs.length ≤ 50 ∧ (∀ f ∈ fs, GdE f ∧ f.2.1 ≤ 64) ∧ ∀ r es H', H r = none → Bx H' b c → Mut b H H' → GensL H' r es → es.length ≤ 60 → (∀ e ∈ es, e.2.1 ≤ 190) → Q (.ref r) H'
end Pv

namespace Pv
open PySem L2 Evl Pm
def dE (fs : List Ent) : PyData := .list (fs.map encE)
theorem dpAll_E {K : PySem.W.Frag} {H : Hp} : ∀ (ts : List Addr) (fs : List Ent), ts.length = fs.length → (∀ (i : Nat) (t : Addr) (e : Ent), ts[i]? = some t → fs[i]? = some e → EntAt H t e) → DpAll K H (ts.map V.ref) (fs.map encE)
  | [], [], _, _ => .nil
  | [], _ :: _, h, _ => by cases h
  | _ :: _, [], h, _ => by cases h
  | t :: ts, f :: fs, h, k => .cons (dp_ent (k 0 t f rfl rfl)) (dpAll_E ts fs (by simpa using h) fun i t' e' a b => k (i + 1) t' e' a b)
theorem lay_ent (e : Ent) : PyData.canLay0 (encE e) = true := by
  unfold encE
  simp [PyData.canLay0, PyData.canLayAll0]
  unfold wE
  split <;> decide +kernel
theorem lay_E : ∀ fs : List Ent, PyData.canLayAll0 (fs.map encE) = true
  | [] => by simp [PyData.canLayAll0]
  | x :: xs => by
    simp only [List.map_cons, PyData.canLayAll0, lay_E xs, lay_ent]
    rfl
theorem deep_E : ∀ fs : List Ent, PyData.depthAll (fs.map encE) ≤ 61
  | [] => by simp [PyData.depthAll]
  | x :: xs => by
    have h1 := deep_E xs
    have h2 := depth_ent x
    simp only [List.map_cons, PyData.depthAll]
    omega
theorem shaped_E (fs : List Ent) : SeqAt.shaped (dE fs) = true := by
  have h2 : PyData.depth (dE fs) ≤ 64 := by
    have := deep_E fs
    unfold dE
    simp only [PyData.depth]
    omega
  have h1 : PyData.canLay0 (dE fs) = true := by
    unfold dE
    simp only [PyData.canLay0]
    exact lay_E fs
  unfold SeqAt.shaped
  rw [h1, decide_eq_true h2]
  rfl
theorem eqv_ent {e f : Ent} (he : e.1 < 2) (hf : f.1 < 2) : PyData.eqv (encE e) (encE f) = decide (e = f) := by
  have one : PyData.eqv (encE e) (encE f) = (PyData.eqv (.str (wE e.1)) (.str (wE f.1)) && (PyData.eqv (.int e.2.1) (.int f.2.1) && (PyData.eqv (.int e.2.2) (.int f.2.2) && true))) := rfl
  rw [one, str_eq _ he _ hf, int_eq, int_eq, Bool.and_true, Bool.eq_iff_iff]
  simp only [Bool.and_eq_true, decide_eq_true_eq]
  obtain ⟨a, b, c⟩ := e
  obtain ⟨a', b', c'⟩ := f
  simp
theorem eqv_E : ∀ (es fs : List Ent), (∀ e ∈ es, e.1 < 2) → (∀ e ∈ fs, e.1 < 2) → PyData.eqvAll (es.map encE) (fs.map encE) = decide (es = fs)
  | [], [], _, _ => rfl
  | [], _ :: _, _, _ => rfl
  | _ :: _, [], _, _ => rfl
  | e :: es, f :: fs, h1, h2 => by
    have ih := eqv_E es fs (fun e he => h1 e (List.mem_cons_of_mem _ he)) (fun e he => h2 e (List.mem_cons_of_mem _ he))
    show (PyData.eqv (encE e) (encE f) && PyData.eqvAll (es.map encE) (fs.map encE)) = _
    rw [ih, eqv_ent (h1 e (List.mem_cons_self ..)) (h2 f (List.mem_cons_self ..)), Bool.eq_iff_iff]
    simp
end Pv

namespace Pv
open PySem L2 Evl Pm
local macro_rules | `(tactic| walk_at "r1") => `(tactic| first
  | refine ⟨_, rfl, ?_⟩
  | refine ⟨rfl, ?_⟩
  | refine ⟨_, _, rfl, rfl, (show (_ : Prop) from by first | decide | omega | assumption | exact Or.inr ⟨by decide, by decide⟩ | exact Or.inl ⟨by omega, by omega⟩ | exact ⟨by decide, by decide, by decide⟩ | exact ⟨by decide, by decide⟩ | exact wide_div (b := 60) (by omega) (by omega) (by decide) (by decide)), ?_⟩
  | refine ⟨_, _, rfl, rfl, ?_⟩
  | refine ⟨_, _, _, _, rfl, rfl, (show (_ : Prop) from by first | exact SqL.of (by assumption) | exact SqL.of upd_same | assumption | exact upd_same), rfl, ?_⟩
  | refine Or.inl ⟨_, rfl, ?_⟩)
local macro_rules | `(tactic| walk_at "ex") => `(tactic| first | exact Ex.refl _ | assumption | (refine ex_new ?_ (by assumption); walk_at "ex"))
local macro_rules | `(tactic| walk_at "r") => `(tactic| repeat (walk_at "r1"))

section
variable {P : Program} {w : World} {K : PySem.W.Frag} {mg : Str → Option Value} {base : Heap} {A : Ad}
theorem strip_getD_of {xs : List Int} {k : Nat} {z : Int} (h : xs[k]? = some z) : xs.getD k 0 = z := by
  rw [List.getD_eq_getElem?_getD, h]
  rfl
theorem markV_int {xs : List Int} {i : Nat} {y : V} (h : (xs.map V.int)[i]? = some y) : ∃ z, xs[i]? = some z ∧ y = V.int z := by
  rw [List.getElem?_map] at h
  cases e : xs[i]? with
  | none => rw [e] at h; cases h
  | some z =>
    rw [e] at h
    exact ⟨z, rfl, (Option.some.inj h).symm⟩
theorem deq (x y : Nat) : decide (V.int (x : Int) = V.int (y : Int)) = decide (x = y) := by
  by_cases c : x = y
  · rw [c, decide_eq_true rfl, decide_eq_true rfl]
  · rw [decide_eq_false c, decide_eq_false]
    intro h
    injection h with h
    exact c (Int.ofNat.inj h)
theorem dne (x y : Nat) : (!decide (V.int (x : Int) = V.int (y : Int))) = decide (x ≠ y) := by
  rw [deq]
  by_cases c : x = y
  · rw [decide_eq_true c, decide_eq_false (fun h => h c)]
    rfl
  · rw [decide_eq_false c, decide_eq_true c]
    rfl
theorem atLast {l : List Nat} (h : 0 < l.length) : atI (nI l) (-1) = some (V.int ((gt l (l.length - 1) : Nat) : Int)) := by
  have e : l = l.take (l.length - 1) ++ [gt l (l.length - 1)] := by
    have t := take_succ' (l := l) (q := l.length - 1) (by omega)
    rw [show l.length - 1 + 1 = l.length by omega, List.take_length] at t
    exact t
  have g := atI_last (nI (l.take (l.length - 1))) (V.int ((gt l (l.length - 1) : Nat) : Int))
  rw [← nI_app, ← e] at g
  exact g
theorem rgN (n : Nat) : rgV 0 (n : Int) = nI (List.range n) := by
  rw [rgV_map, List.map_map]
  rfl
theorem cutDrop {l : List Nat} {k : Nat} (h : k ≤ l.length) : cutV (nI l) (some (k : Int)) none = nI (l.drop k) := by
  unfold cutV
  rw [HT.sIx_nat, HT.sIx_none, nI_len, Nat.min_eq_left h]
  unfold nI
  rw [← List.map_drop, ← List.map_take, List.take_of_length_le (by rw [List.length_drop]; exact Nat.le_refl _)]
theorem cutTake {l : List Nat} {k : Nat} (h : k ≤ l.length) : cutV (nI l) none (some (k : Int)) = nI (l.take k) := by
  unfold cutV
  rw [HT.sIx_nat, HT.sIx_none, nI_len, Nat.min_eq_left h, Nat.sub_zero]
  unfold nI
  rw [List.drop_zero, List.map_take]
theorem cat_nI {l m : List Nat} : nI l ++ nI m = nI (l ++ m) := (List.map_append ..).symm
theorem rev_nI {l : List Nat} : (nI l).reverse = nI l.reverse := (List.map_reverse ..).symm
theorem tail_nI {l : List Nat} : (nI l).tail = nI l.tail := (List.map_tail ..).symm
theorem nat_in {x : Nat} {xs : List Nat} : inV (V.int (x : Int)) (nI xs) = decide (x ∈ xs) := by
  rw [inV_nI, Bool.eq_iff_iff, decide_eq_true_eq]
  exact List.contains_iff_mem
theorem ok_InvalidImage (T : Txt K mg A)   : Okd P w K mg base CX0 1 A.i_InvalidImage P_InvalidImage (spInit A.InvalidImage "record") := by
  obtain ⟨fd, F⟩ := T.f_InvalidImage.fn

  refine ⟨fd, F.ok sc_InvalidImage (fun vs H Q E h => ?_) (fun cdv A' outer s H vs Q E hr h => ?_), F.binds fun _ _ _ _ _ _ us hl => match us, hl with | [_, _], _ => rfl⟩
  · obtain ⟨a, v, rfl, _⟩ := h
    rfl
  · obtain ⟨a, v, rfl, ha, k⟩ := h
    refine ⟨_, (pss_one (ps_ost (pv 0) (pv 1))), ?_⟩
    exact ⟨_, rfl, _, rfl, a, A.InvalidImage, rfl, T.e_InvalidImage.oex, T.f_InvalidImage.nf, Or.inl ⟨ha, fun dx hdx ne => k dx hdx ne⟩⟩


theorem ok_NotState (T : Txt K mg A)   : Okd P w K mg base CX0 1 A.i_NotState P_NotState (spInit A.NotState "record") := by
  obtain ⟨fd, F⟩ := T.f_NotState.fn

  refine ⟨fd, F.ok sc_NotState (fun vs H Q E h => ?_) (fun cdv A' outer s H vs Q E hr h => ?_), F.binds fun _ _ _ _ _ _ us hl => match us, hl with | [_, _], _ => rfl⟩
  · obtain ⟨a, v, rfl, _⟩ := h
    rfl
  · obtain ⟨a, v, rfl, ha, k⟩ := h
    refine ⟨_, (pss_one (ps_ost (pv 0) (pv 1))), ?_⟩
    exact ⟨_, rfl, _, rfl, a, A.NotState, rfl, T.e_NotState.oex, T.f_NotState.nf, Or.inl ⟨ha, fun dx hdx ne => k dx hdx ne⟩⟩

end

section
variable {P : Program} {w : World} {K : PySem.W.Frag} {mg : Str → Option Value} {base : Heap} {A : Ad}
theorem ref_at {ts : List Addr} {i : Nat} {x : V} (h : (ts.map V.ref)[i]? = some x) : ∃ t, ts[i]? = some t ∧ x = V.ref t := by
  rw [List.getElem?_map] at h
  cases z : ts[i]? with
  | none => rw [z] at h; cases h
  | some y => rw [z] at h; exact ⟨y, rfl, (Option.some.inj h).symm⟩
theorem atR {ts : List Addr} {i : Nat} {t : Addr} (h : ts[i]? = some t) : atI (ts.map V.ref) (i : Int) = some (V.ref t) := atI_nat (by rw [List.getElem?_map, h]; rfl)
theorem app_at {α β : Type} {R : α → β → Prop} {us : List α} {fs : List β} {t : α} {e : β} (ul : us.length = fs.length) (h : ∀ (k : Nat) (a : α) (b : β), us[k]? = some a → fs[k]? = some b → R a b) (h1 : R t e)   : ∀ (k : Nat) (a : α) (b : β), (us ++ [t])[k]? = some a → (fs ++ [e])[k]? = some b → R a b := by
  intro k a b ha hb
  by_cases c : k < us.length
  · rw [List.getElem?_append_left c] at ha
    rw [List.getElem?_append_left (by omega)] at hb
    exact h k a b ha hb
  · rw [List.getElem?_append_right (by omega)] at ha
    rw [List.getElem?_append_right (by omega), ← ul] at hb
    match hz : k - us.length with
    | 0 =>
      rw [hz] at ha hb
      have ha := Option.some.inj ha
      have hb := Option.some.inj hb
      rw [← ha, ← hb]
      exact h1
    | z + 1 =>
      rw [hz] at ha
      cases ha
theorem ins_at {α β : Type} {R : α → β → Prop} {us : List α} {fs : List β} {t : α} {e : β} {j : Nat} (ul : us.length = fs.length) (hj : j ≤ us.length) (h : ∀ (k : Nat) (a : α) (b : β), us[k]? = some a → fs[k]? = some b → R a b) (h1 : R t e)   : ∀ (k : Nat) (a : α) (b : β), (us.take j ++ [t] ++ us.drop j)[k]? = some a → (fs.take j ++ [e] ++ fs.drop j)[k]? = some b → R a b := by
  intro k a b ha hb
  rw [List.append_assoc, List.getElem?_append, List.length_take, Nat.min_eq_left hj] at ha
  rw [List.append_assoc, List.getElem?_append, List.length_take, Nat.min_eq_left (by omega)] at hb
  by_cases c : k < j
  · rw [if_pos c, List.getElem?_take_of_lt c] at ha hb
    exact h k a b ha hb
  · rw [if_neg c] at ha hb
    match hz : k - j with
    | 0 =>
      rw [hz] at ha hb
      have ha := Option.some.inj ha
      have hb := Option.some.inj hb
      rw [← ha, ← hb]
      exact h1
    | z + 1 =>
      rw [hz] at ha hb
      have ha : (us.drop j)[z]? = some a := ha
      have hb : (fs.drop j)[z]? = some b := hb
      rw [List.getElem?_drop] at ha hb
      exact h _ a b ha hb
theorem w4_eq {i j : Nat} (hi : i < 4) (hj : j < 4) : decide (V.str (w4 i) = V.str (w4 j)) = decide (i = j) := by
  by_cases c : i = j
  · rw [c, decide_eq_true rfl, decide_eq_true rfl]
  · rw [decide_eq_false c, decide_eq_false]
    intro h
    injection h with h
    have all : ∀ i, i < 4 → ∀ j, j < 4 → i ≠ j → w4 i ≠ w4 j := by decide +kernel
    exact all i hi j hj c h
theorem w4_pair {i : Nat} (hi : i < 4) : decide (V.str (w4 i) = V.str (Str.ofString "pair")) = decide (i = 1) := w4_eq (j := 1) hi (by decide)
theorem w4_chain {i : Nat} (hi : i < 4) : decide (V.str (w4 i) = V.str (Str.ofString "chain")) = decide (i = 2) := w4_eq (j := 2) hi (by decide)
theorem w4_ring {i : Nat} (hi : i < 4) : decide (V.str (w4 i) = V.str (Str.ofString "ring")) = decide (i = 3) := w4_eq (j := 3) hi (by decide)
end

section
variable {P : Program} {w : World} {K : PySem.W.Frag} {mg : Str → Option Value} {base : Heap} {A : Ad}
theorem ifF {b : Bool} {p q : Prop} (h : b = false) (k : q) : if b = true then p else q := by
  rw [h]
  exact iteF k
theorem ifT {b : Bool} {p q : Prop} (h : b = true) (k : p) : if b = true then p else q := by
  rw [h]
  exact iteT k
theorem ndec {p : Prop} [Decidable p] (h : p) : (!decide p) = false := by
  rw [decide_eq_true h]
  rfl
theorem bit1 : ∀ n, n < 200 → Builtin.bitAnd ((n : Nat) : Int) 1 = ((n % 2 : Nat) : Int) := by decide +kernel
theorem inCR : ∀ w, w < 4 → inV (V.str (w4 w)) [V.str (Str.ofString "chain"), V.str (Str.ofString "ring")] = decide (1 < w) := by decide +kernel
theorem flat_few : ∀ {ps : List Pc}, (∀ p ∈ ps, 0 < p.2.1.length) → ps.length ≤ (ps.flatMap (·.2.1)).length
  | [], _ => Nat.zero_le _
  | p :: ps, h => by
    have ih := flat_few (ps := ps) fun q hq => h q (List.mem_cons_of_mem _ hq)
    have := h p (List.mem_cons_self ..)
    rw [List.flatMap_cons, List.length_append, List.length_cons]
    omega
theorem Cut.few {n : Nat} {ps : List Pc} (C : Cut n ps) : ps.length ≤ n := by
  have := flat_few fun p hp => (C.ok p hp).pos
  have e := C.perm.length_eq
  rw [List.length_range] at e
  omega
theorem Cut.lt {n : Nat} {ps : List Pc} (C : Cut n ps) {p : Pc} (hp : p ∈ ps) : ∀ x ∈ p.2.1, x < n := fun x hx => List.mem_range.mp (C.perm.mem_iff.mp (List.mem_flatMap.mpr ⟨p, hp, hx⟩))
theorem Cut.len {n : Nat} {ps : List Pc} (C : Cut n ps) {p : Pc} (hp : p ∈ ps) : p.2.1.length ≤ n := nodup_len (C.ok p hp).nd (C.lt hp)
theorem Cut.nd {n : Nat} {ps : List Pc} (C : Cut n ps) : (ps.flatMap (·.2.1)).Nodup := C.perm.nodup_iff.mpr List.nodup_range
theorem one_least {i : Nat} : ∀ {ps : List Pc}, (ps.flatMap (·.2.1)).Nodup → (∀ p ∈ ps, PcOk p) → ps.filter (fun p => isCR p && decide (mn p.2.1 = i)) = (atJ ps i).toList
  | [], _, _ => rfl
  | a :: ps, nd, ok => by
    rw [List.flatMap_cons, List.nodup_append] at nd
    have ih := one_least (i := i) nd.2.1 fun p hp => ok p (List.mem_cons_of_mem _ hp)
    unfold atJ at *
    rw [List.filter_cons, List.find?_cons]
    by_cases c : (isCR a && decide (mn a.2.1 = i)) = true
    · rw [c, if_pos rfl]
      have : ps.filter (fun p => isCR p && decide (mn p.2.1 = i)) = [] := by
        rw [List.filter_eq_nil_iff]
        intro p hp c2
        rw [Bool.and_eq_true, decide_eq_true_eq] at c c2
        exact nd.2.2 _ (mn_in (ok a (List.mem_cons_self ..))) _ (List.mem_flatMap.mpr ⟨p, hp, mn_in (ok p (List.mem_cons_of_mem _ hp))⟩) (c.2.trans c2.2.symm)
      rw [this]
      rfl
    · have c := Bool.not_eq_true _ ▸ c
      rw [c, if_neg (by decide)]
      exact ih
end

section
variable {P : Program} {w : World} {K : PySem.W.Frag} {mg : Str → Option Value} {base : Heap} {A : Ad}
theorem sq_ (x y : Str) : decide (V.str x = V.str y) = decide (x = y) := by
  by_cases c : x = y
  · rw [c, decide_eq_true rfl, decide_eq_true rfl]
  · rw [decide_eq_false c, decide_eq_false (fun h => by injection h with h; exact c h)]
theorem iq_ (x y : Int) : decide (V.int x = V.int y) = decide (x = y) := by
  by_cases c : x = y
  · rw [c, decide_eq_true rfl, decide_eq_true rfl]
  · rw [decide_eq_false c, decide_eq_false (fun h => by injection h with h; exact c h)]
end

section
variable {P : Program} {w : World} {K : PySem.W.Frag} {mg : Str → Option Value} {base : Heap} {A : Ad}
theorem rg_mp (st n : Nat) : rgV (st : Int) ((st : Int) + (n : Int)) = nI (mp (fun j => st + j) n) := by
  unfold rgV nI mp
  rw [show ((st : Int) + (n : Int) - (st : Int)).toNat = n by omega, List.map_map]
  rfl
theorem set_nI {R : List Nat} {i v : Nat} : (nI R).set i (V.int (v : Int)) = nI (R.set i v) := (List.map_set ..).symm
theorem set_at {R : List Nat} {i w : Nat} {v : V} (h : v = V.int (w : Int)) : (nI R).set i v = nI (R.set i w) := by
  rw [h]
  exact set_nI
/-- the pairs made so far -/
def pst (n sk m j : Nat) : Nat := if j < sk + 2 * m then stp sk 0 (n - 1) j else j
theorem pst_zero {n sk j : Nat} (h : sk < 2) : pst n sk 0 j = j := by
  unfold pst stp
  split
  · split
    · split <;> omega
    · split <;> omega
  · rfl
theorem pst_step {n sk m j st : Nat} (h : sk < 2) (hm : sk + 2 * m + 1 < n) (hj : j < n) : (if j = sk + 2 * m + 1 then st + (sk + 2 * m) else if j = sk + 2 * m then st + (sk + 2 * m) + 1 else st + pst n sk m j) = st + pst n sk (m + 1) j := by
  unfold pst stp
  by_cases c1 : j = sk + 2 * m + 1
  · rw [if_pos c1, if_pos (by omega), if_neg (by omega), if_pos (by omega)]
    omega
  · rw [if_neg c1]
    by_cases c2 : j = sk + 2 * m
    · rw [if_pos c2, if_pos (by omega), if_pos (by omega), if_pos (by omega)]
      omega
    · rw [if_neg c2]
      by_cases c3 : j < sk + 2 * m
      · rw [if_pos c3, if_pos (show j < sk + 2 * (m + 1) by omega)]
      · rw [if_neg c3, if_neg (show ¬ j < sk + 2 * (m + 1) by omega)]
theorem pst_end {n sk j : Nat} (h : sk < 2) (hj : j < n) : pst n sk ((n - sk) / 2) j = stp sk 0 (n - 1) j := by
  unfold pst
  split
  · rfl
  · unfold stp
    rw [if_pos (by omega), if_neg (by omega)]
theorem rg_two : ∀ sk, sk < 2 → ∀ n, n < 65 → 2 ≤ n → Builtin.Range.small ((sk : Nat) : Int) (((n : Nat) : Int) - 1) 2 = true ∧ Builtin.Range.rangeSize ((sk : Nat) : Int) (((n : Nat) : Int) - 1) 2 = (((n - sk) / 2 : Nat) : Int) := by decide +kernel
theorem ok_paired (T : Txt K mg A)   : Okd P w K mg base CX0 1 A.paired P_paired spPd := by
  obtain ⟨fd, F⟩ := T.d_paired

  refine ⟨fd, F.ok sc_paired (fun vs H Q E h => ?_) (fun cdv A' outer s H vs Q E hr h => ?_), F.binds fun _ _ _ _ _ _ us hl => match us, hl with | [_, _, _], _ => rfl⟩
  · obtain ⟨st, n, sk, rfl, _⟩ := h
    rfl
  · obtain ⟨st, n, sk, rfl, hsk, h2, h64, hst, k⟩ := h
    refine ⟨_, (pss_cons (ps_set (i := 3) sc_paired.nd rfl (Or.inl rfl) (pe_listRg (by rfl) (by rfl) T.n_list (prg_2 (by rfl) T.n_range (pv 0) (pe_op op_add (pv 0) (pv 1)))))
      (pss_cons (ps_for PassesOwn.never rfl (pi_range3 (by rfl) T.n_range (pa_cons (pv 2) (pa_cons (pe_op op_sub (pv 1) pe_int) (pa_cons pe_int pa_nil)))) (pg_name (i := 4) sc_paired.nd rfl (Or.inl rfl)) (pss_cons (ps_asg (pe_op op_add (pe_op op_add (pv 0) (pv 4)) pe_int) (pg_sub (pv 3) (pv 4) set_list))
      (pss_one (ps_asg (pe_op op_add (pv 0) (pv 4)) (pg_sub (pv 3) (pe_op op_add (pv 4) pe_int) set_list)))))
      (pss_one (ps_ret (pv 3))))), ?_⟩
    refine ⟨_, rfl, _, rfl, _, rfl, _, _, rfl, rfl, _, _, rfl, rfl, RgOk.of_le (by omega) (by omega) (by omega) (by omega), fun p hp => ?_⟩
    rw [rg_mp]
    have l0 : ListN (upd H p (.lst (nI (mp (fun j => st + j) n)))) p (mp (fun j => st + j) n) := upd_same
    have e0 := Ex.new (o := .lst (nI (mp (fun j => st + j) n))) hp
    generalize upd H p (.lst (nI (mp (fun j => st + j) n))) = H1 at l0 e0 ⊢
    obtain ⟨r1, r2⟩ := rg_two sk hsk n (by omega) h2
    refine ⟨_, rfl, _, rfl, _, _, rfl, rfl, (sk : Int), (n : Int) - 1, 2, (n - sk) / 2, rfl, ⟨by decide, by decide, r1, r2⟩, for_rangeC (fun m σ G => ∃ v4 : Option V, σ = [some (.int (st : Int)), some (.int (n : Int)), some (.int (sk : Int)), some (.ref p), v4] ∧ (∀ x o, x ≠ p → H1 x = some o → G x = some o) ∧ ListN G p (mp (fun j => st + pst n sk m j) n)) ⟨none, rfl, fun _ _ _ h => h, ?_⟩ ?_ ?_⟩
    · rw [show mp (fun j => st + pst n sk 0 j) n = mp (fun j => st + j) n from mp_congr fun j _ => by rw [pst_zero hsk]]
      exact l0
    · rintro m σ G hm ⟨v4, rfl, K1, lG⟩
      have m1 : sk + 2 * m + 1 < n := by omega
      rw [show (sk : Int) + (m : Int) * 2 = ((sk + 2 * m : Nat) : Int) by omega]
      refine ⟨_, rfl, _, rfl, _, _, rfl, rfl, _, _, rfl, rfl, _, rfl, _, rfl, p, _, _, sk + 2 * m, rfl, rfl, lG, Evl.ixN_nat (by rw [nI_len, mp_len]; omega), ?_⟩
      rw [set_at (w := st + (sk + 2 * m) + 1), mp_set]
      rotate_left
      · rfl
      have l1 : ListN (upd G p (.lst (nI (mp (fun j => if j = sk + 2 * m then st + (sk + 2 * m) + 1 else st + pst n sk m j) n)))) p (mp (fun j => if j = sk + 2 * m then st + (sk + 2 * m) + 1 else st + pst n sk m j) n) := upd_same
      have K2 : ∀ x o, x ≠ p → G x = some o → upd G p (.lst (nI (mp (fun j => if j = sk + 2 * m then st + (sk + 2 * m) + 1 else st + pst n sk m j) n))) x = some o := fun x o h1 h => by rw [upd_ne h1]; exact h
      generalize upd G p (.lst (nI (mp (fun j => if j = sk + 2 * m then st + (sk + 2 * m) + 1 else st + pst n sk m j) n))) = G2 at l1 K2 ⊢
      refine ⟨_, rfl, _, rfl, _, _, rfl, rfl, _, rfl, _, rfl, _, _, rfl, rfl, p, _, _, sk + 2 * m + 1, rfl, rfl, l1, Evl.ixN_nat (by rw [nI_len, mp_len]; omega), ?_⟩
      rw [set_at (w := st + (sk + 2 * m)), mp_set]
      rotate_left
      · rfl
      refine ⟨_, rfl, fun x o h1 h => by rw [upd_ne h1]; exact K2 x o h1 (K1 x o h1 h), ?_⟩
      show upd G2 p _ p = _
      rw [upd_same]
      exact congrArg (fun l => some (HO.lst (nI l))) (mp_congr fun j hj => pst_step hsk m1 hj)
    · rintro σ G ⟨v4, rfl, K1, lG⟩
      rw [show mp (fun j => st + pst n sk ((n - sk) / 2) j) n = mp (fun j => st + stp sk 0 (n - 1) j) n from mp_congr fun j hj => by rw [pst_end hsk hj]] at lG
      exact ⟨_, rfl, k p G hp (fun x o h => K1 x o (ne_of_none h hp) (e0 _ _ h)) lG⟩

end

section
variable {P : Program} {w : World} {K : PySem.W.Frag} {mg : Str → Option Value} {base : Heap} {A : Ad}
def fstG (st : Nat) (e : Ent) : List Nat := mp (fun j => st + stp 0 0 (nG e - 1) j) (nG e)
def secG (st : Nat) (e : Ent) : List Nat := if e.1 = 1 then mp (fun j => if j = nG e - 1 then st else if j = 0 then st + nG e - 1 else st + stp 1 0 (nG e - 1) j) (nG e) else mp (fun j => st + stp 1 0 (nG e - 1) j) (nG e)
theorem blk_eq {st : Nat} {e : Ent} (g : GdE e) : blkG 0 st e = (if e.2.2 = 1 then secG st e else fstG st e) ∧ blkG 1 st e = (if e.2.2 = 1 then fstG st e else secG st e) := by
  have g2 := g.n2
  have gw := g.w
  have hn : 2 ≤ nG e := by unfold nG; omega
  by_cases r : e.1 = 1
  · obtain ⟨r1, r2, r3⟩ := g.ring r
    have n2 : nG e % 2 = 0 := by unfold nG; omega
    have s0 : sG e = 0 := if_neg (by omega)
    have w3 : wG e = 3 := if_neg (by omega)
    rw [if_neg (by omega), if_neg (by omega)]
    unfold blkG fstG secG
    rw [if_pos r, s0, w3]
    refine ⟨mp_congr fun j hj => ?_, mp_congr fun j hj => ?_⟩
    · show st + nb 0 3 (nG e) 0 j = st + stp 0 0 (nG e - 1) j
      rw [nb_cr (by decide)]
      unfold stp
      split
      · split <;> split <;> omega
      · split <;> split <;> omega
    · show st + nb 1 3 (nG e) 0 j = _
      rw [nb_cr (by decide)]
      unfold stp
      by_cases c1 : j = nG e - 1
      · rw [if_pos c1, if_pos (by omega), if_neg (by omega), if_pos rfl]
        rfl
      · rw [if_neg c1]
        by_cases c2 : j = 0
        · rw [if_pos c2, if_neg (by omega), if_neg (by omega), if_pos rfl]
          omega
        · rw [if_neg c2]
          split
          · split <;> split <;> omega
          · split <;> split <;> omega
  · have w2 : wG e = 2 := if_pos (by omega)
    unfold blkG fstG secG
    rw [if_neg r, w2]
    by_cases c : e.2.2 = 1
    · have s1 : sG e = 1 := if_pos c
      rw [if_pos c, if_pos c, s1]
      refine ⟨mp_congr fun j hj => ?_, mp_congr fun j hj => ?_⟩
      · show st + nb 0 2 (nG e) 1 j = st + stp 1 0 (nG e - 1) j
        rw [nb_cr (by decide), if_neg (show ¬ (2 : Nat) = 3 by decide), if_neg (show ¬ (2 : Nat) = 3 by decide)]
        unfold stp
        by_cases q : (0 + j) % 2 = 1
        · rw [if_pos q, if_pos (by omega)]
          split <;> split <;> omega
        · rw [if_neg q, if_neg (by omega)]
          split <;> split <;> omega
      · show st + nb 1 2 (nG e) 1 j = st + stp 0 0 (nG e - 1) j
        rw [nb_cr (by decide), if_neg (show ¬ (2 : Nat) = 3 by decide), if_neg (show ¬ (2 : Nat) = 3 by decide)]
        unfold stp
        by_cases q : (0 + j) % 2 = 0
        · rw [if_pos q, if_pos (by omega)]
          split <;> split <;> omega
        · rw [if_neg q, if_neg (by omega)]
          split <;> split <;> omega
    · have s1 : sG e = 0 := if_neg c
      rw [if_neg c, if_neg c, s1]
      refine ⟨mp_congr fun j hj => ?_, mp_congr fun j hj => ?_⟩
      · show st + nb 0 2 (nG e) 0 j = st + stp 0 0 (nG e - 1) j
        rw [nb_cr (by decide), if_neg (show ¬ (2 : Nat) = 3 by decide), if_neg (show ¬ (2 : Nat) = 3 by decide)]
        unfold stp
        split
        · split <;> split <;> omega
        · split <;> split <;> omega
      · show st + nb 1 2 (nG e) 0 j = st + stp 1 0 (nG e - 1) j
        rw [nb_cr (by decide), if_neg (show ¬ (2 : Nat) = 3 by decide), if_neg (show ¬ (2 : Nat) = 3 by decide)]
        unfold stp
        split
        · split <;> split <;> omega
        · split <;> split <;> omega
theorem rowG_snoc {r : Nat} {e : Ent} : ∀ {st : Nat} {es : List Ent}, rowG r st (es ++ [e]) = rowG r st es ++ blkG r (st + totG es) e
  | st, [] => by
    show blkG r st e ++ [] = [] ++ _
    rw [List.append_nil]
    rfl
  | st, d :: es => by
    show blkG r st d ++ rowG r (st + nG d) (es ++ [e]) = (blkG r st d ++ rowG r (st + nG d) es) ++ _
    rw [rowG_snoc, List.append_assoc]
    show _ = blkG r st d ++ (rowG r (st + nG d) es ++ blkG r (st + (nG d + totG es)) e)
    rw [Nat.add_assoc]
theorem totG_app : ∀ {es fs : List Ent}, totG (es ++ fs) = totG es + totG fs
  | [], fs => (Nat.zero_add _).symm
  | e :: es, fs => by
    show nG e + totG (es ++ fs) = nG e + totG es + totG fs
    rw [totG_app]
    omega
end

section
variable {P : Program} {w : World} {K : PySem.W.Frag} {mg : Str → Option Value} {base : Heap} {A : Ad}
theorem no_fault {es : List Ent} (g : ∀ e ∈ es, GdE e) : Sta (rowG 0 0 es) ∧ Sta (rowG 1 0 es) ∧ faultF (toI (rowG 0 0 es)) (toI (rowG 1 0 es)) = none := by
  obtain ⟨sA, sB⟩ := (bl_G g).sta
  refine ⟨sA, sB, ?_⟩
  unfold faultF
  rw [(sta_fault sA).2]
  simp only [(sta_fault sB).2]
  rw [if_neg (fun h => h (by rw [toI_len, toI_len, rowG_len, rowG_len]))]
theorem gd_of {es : List GE} (v : Valid es) : ∀ f ∈ es.map frG, GdE f := fun f hf => by
  obtain ⟨e, he, rfl⟩ := List.mem_map.mp hf
  exact gdE (v.1 e he)
theorem ok_sample (T : Txt K mg A)  (g_sample_rows : Okd P w K mg base (L2N.CX P w) 3 A.sample_rows P_sample_rows (spSr A)) (g_m_init : Okd P w K mg base (L2N.CX P w) 6 A.m_init P_m_init (spUi A)) : Okd P w K mg base (L2N.CX P w) 8 A.sample P_sample (spSa A) := by
  obtain ⟨fd, F⟩ := T.d_sample
  obtain ⟨fd_sample_rows, G_sample_rows, b_sample_rows⟩ := g_sample_rows
  obtain ⟨fd_m_init, G_m_init, b_m_init⟩ := g_m_init
  refine ⟨fd, F.okN sc_sample (fun vs H Q E h => ?_) (fun cdv A' outer s H vs Q E hr h => ?_), F.binds fun _ _ _ _ _ _ us hl => match us, hl with | [_], _ => rfl⟩
  · obtain ⟨p, es, rfl, _⟩ := h
    rfl
  · obtain ⟨p, es, rfl, hp, hl, tot, kq, kr⟩ := h
    refine ⟨_, (pss_cons (ps_asg (pe_callS G_sample_rows (hr.mono (by decide)) rfl T.g_sample_rows T.k_sample_rows b_sample_rows (fun σ => L2N.passAt (L2N.takes_of rfl rfl rfl rfl) σ) (pa_cons (pv 0) pa_nil)) (pg_tup (by rfl) (pgs_cons (pg_name (i := 1) sc_sample.nd rfl (Or.inl rfl)) (pgs_cons (pg_name (i := 2) sc_sample.nd rfl (Or.inl rfl)) pgs_nil))))
      (pss_one (ps_ret (DaS.pe_makeP T.mkR G_m_init (hr.mono (by decide)) (by rfl) T.g_Update b_m_init (fun σ => L2N.passAt (L2N.takes_of rfl rfl rfl rfl) σ) (pa_cons (pv 1) (pa_cons (pv 2) pa_nil)))))), ?_⟩
    refine ⟨_, rfl, p, es, rfl, hp, hl, tot, fun v t a b H1 ht ha hb e1 hT la lb => ?_, fun nv H' e => kr nv H' e⟩
    have kq := kq v
    have tot := tot v
    obtain ⟨sA, sB, nf⟩ := no_fault (gd_of v)
    have al : (rowG 0 0 (es.map frG)).length = totG (es.map frG) := rowG_len
    have bl : (rowG 1 0 (es.map frG)).length = totG (es.map frG) := rowG_len
    refine ⟨t, _, rfl, SqT.of hT, rfl, _, _, rfl, _, _, rfl, rfl, ?_⟩
    generalize rowG 0 0 (es.map frG) = A0 at la al nf sA kq
    generalize rowG 1 0 (es.map frG) = B0 at lb bl nf sB kq
    refine ⟨_, rfl, _, rfl, fun u dx hu hdx nux => ?_⟩
    have ea : Ex H1 (upd (upd H1 dx (.own u)) u (.ins A.Update dx [])) := fun x o h => by
      rw [upd_ne (ne_of_none h hu), upd_ne (ne_of_none h hdx)]
      exact h
    have hua : upd (upd H1 dx (.own u)) u (.ins A.Update dx []) u = some (.ins A.Update dx []) := upd_same
    generalize upd (upd H1 dx (.own u)) u (.ins A.Update dx []) = Ha at ea hua ⊢
    refine ⟨u, a, b, dx, toI A0, toI B0, rfl, hua, (la.ex ea).int, (lb.ex ea).int, by rw [toI_len]; omega, by rw [toI_len]; omega, fun _ ub ua Hb hub hua2 nba Kb hu2 lub lua => ?_, fun g hg => by rw [nf] at hg; cases hg⟩
    rw [toI_nat] at lub lua
    have nubu : ub ≠ u := fun z => by rw [z, hua] at hub; cases hub
    have nuau : ua ≠ u := fun z => by rw [z, hua] at hua2; cases hua2
    have hu0 : H u = none := back_none e1 hu
    exact ⟨rfl, kq u Hb hu0 (fun x o h => Kb x o (ne_of_none h hu0) (ea _ _ (e1 _ _ h))) ⟨dx, ub, ua, hu2, lub, lua, nubu, nuau⟩⟩

end

section
variable {P : Program} {w : World} {K : PySem.W.Frag} {mg : Str → Option Value} {base : Heap} {A : Ad}
theorem gd_rev {f : Ent} (g : GdE f) : GdE (revE f) := by
  have gw := g.w
  have g2 := g.n2
  refine ⟨gw, g2, fun z => ?_, fun o => ?_, fun z o => ?_⟩
  · obtain ⟨a, b, c⟩ := g.ring z
    exact ⟨a, b, by show -f.2.2 = 0; omega⟩
  · have := g.odd o
    show -f.2.2 = 0
    omega
  · have := g.even z o
    show -f.2.2 = 1 ∨ -f.2.2 = -1
    omega
theorem rev_rev (f : Ent) : revE (revE f) = f := by
  obtain ⟨a, b, c⟩ := f
  show (a, b, - -c) = (a, b, c)
  rw [Int.neg_neg]
theorem valid_of {gs : List Ent} (g : ∀ f ∈ gs, GdE f) (p : gs.Pairwise fun e f => leE e f = true) : Valid (gs.map toG) ∧ (gs.map toG).map frG = gs := by
  have e : (gs.map toG).map frG = gs := by
    rw [List.map_map]
    exact (List.map_congr_left (g := id) fun f hf => (good_toG (g f hf)).2).trans (List.map_id gs)
  refine ⟨⟨fun x hx => ?_, by rw [e]; exact p⟩, e⟩
  obtain ⟨f, hf, rfl⟩ := List.mem_map.mp hx
  exact (good_toG (g f hf)).1
theorem kind_gens {H : Hp} {p : Addr} {fs : List Ent} (h : KindAt H p fs) : GensT H p (fs.map toG) := by
  obtain ⟨ts, h1, h2, h3⟩ := h
  refine ⟨ts, h1, by rw [List.length_map]; exact h2, fun i t e a b => ?_⟩
  rw [List.getElem?_map] at b
  cases z : fs[i]? with
  | none => rw [z] at b; cases b
  | some f =>
    rw [z] at b
    rw [← Option.some.inj b]
    exact h3 i t f a z
theorem ok_law_kept (T : Txt K mg A)  (g_law_reversed : Okd P w K mg base CX0 2 A.law_reversed P_law_reversed spRv) (g_law_sample_due : Okd P w K mg base CX0 1 A.law_sample_due P_law_sample_due spSd) (g_check_kind : Okd P w K mg base (L2N.CX P w) 2 A.check_kind P_check_kind (spCk A)) (g_sample_rows : Okd P w K mg base (L2N.CX P w) 3 A.sample_rows P_sample_rows (spSr A)) (g_law_row : Okd P w K mg base CX0 2 A.law_row P_law_row spRw) (g_law_kind_told : Okd P w K mg base CX0 2 A.law_kind_told P_law_kind_told spKtd8) (g_kind_of : Okd P w K mg base (L2N.CX P w) 7 A.kind_of P_kind_of (spKd A)) (g_reverse_kind : Okd P w K mg base (L2N.CX P w) 3 A.reverse_kind P_reverse_kind (spRk A)) (g_sample : Okd P w K mg base (L2N.CX P w) 8 A.sample P_sample (spSa A)) (g_m_kind : Okd P w K mg base CX0 8 A.m_kind P_m_kind (spUk A)) : Okd P w K mg base CX0 11 A.law_kept P_law_kept spKp8 := by
  obtain ⟨fd, F⟩ := T.d_law_kept
  obtain ⟨fd_law_reversed, G_law_reversed, b_law_reversed⟩ := g_law_reversed
  obtain ⟨fd_law_sample_due, G_law_sample_due, b_law_sample_due⟩ := g_law_sample_due
  obtain ⟨fd_check_kind, G_check_kind, b_check_kind⟩ := g_check_kind
  obtain ⟨fd_sample_rows, G_sample_rows, b_sample_rows⟩ := g_sample_rows
  obtain ⟨fd_law_row, G_law_row, b_law_row⟩ := g_law_row
  obtain ⟨fd_law_kind_told, G_law_kind_told, b_law_kind_told⟩ := g_law_kind_told
  obtain ⟨fd_kind_of, G_kind_of, b_kind_of⟩ := g_kind_of
  obtain ⟨fd_reverse_kind, G_reverse_kind, b_reverse_kind⟩ := g_reverse_kind
  obtain ⟨fd_sample, G_sample, b_sample⟩ := g_sample
  obtain ⟨fd_m_kind, G_m_kind, b_m_kind⟩ := g_m_kind
  refine ⟨fd, F.ok sc_law_kept (fun vs H Q E h => ?_) (fun cdv A' outer s H vs Q E hr h => ?_), F.binds fun _ _ _ _ _ _ us hl => match us, hl with | [_], _ => rfl⟩
  · obtain ⟨q, fs, rfl, _⟩ := h
    rfl
  · obtain ⟨q, fs, rfl, EA, gd, pw, tot, fl, k⟩ := h
    refine ⟨_, (pss_cons (ps_set (i := 1) sc_law_kept.nd rfl (Or.inl rfl) (pe_callTy call_tuple_of (by rfl) T.n_tuple (by decide +kernel) (pa_cons (pv 0) pa_nil)))
      (pss_cons (ps_set (i := 2) sc_law_kept.nd rfl (Or.inl rfl) (pe_callTy call_tuple_of (by rfl) T.n_tuple (by decide +kernel) (pa_cons (pe_call G_law_reversed (hr.mono (by decide)) (by rfl) T.g_law_reversed T.k_law_reversed b_law_reversed .nil pass0 (pa_cons (pv 0) pa_nil)) pa_nil)))
      (pss_cons (ps_set (i := 3) sc_law_kept.nd rfl (Or.inl rfl) (pe_call G_law_sample_due (hr.mono (by decide)) (by rfl) T.g_law_sample_due T.k_law_sample_due b_law_sample_due .nil pass0 (pa_cons (pv 0) pa_nil)))
      (pss_cons (ps_if (pt_cmpR op_notN (pe_callS G_check_kind (hr.mono (by decide)) rfl T.g_check_kind T.k_check_kind b_check_kind (fun σ => L2N.passAt L2N.takes0N σ) (pa_cons (pv 1) pa_nil)) pe_non (nomark _)) (pss_one (ps_ret pe_bl)) pss_nil)
      (pss_cons (ps_set (i := 4) sc_law_kept.nd rfl (Or.inl rfl) (pe_callS G_sample_rows (hr.mono (by decide)) rfl T.g_sample_rows T.k_sample_rows b_sample_rows (fun σ => L2N.passAt L2N.takes0N σ) (pa_cons (pv 1) pa_nil)))
      (pss_cons (ps_if (PW.pt (pw_or (pt_not (pt_val (pe_callB call_isi (by rfl) T.n_isinstance (by decide +kernel) (pa_cons (pv 4) (pa_cons (pe_bltn (v := .ty "tuple") (u := .type "tuple") (by rfl) T.n_tuple (by decide +kernel) rfl) pa_nil))))) (pw_or1 (pt_cmpR op_ne (pe_callB call_len_seq (by rfl) T.n_len PySem.boot_len (pa_cons (pv 4) pa_nil)) pe_int (nomark _))))) (pss_one (ps_ret pe_bl)) pss_nil)
      (pss_cons (ps_if (PW.pt (pw_or (pt_not (pt_val (pe_call G_law_row (hr.mono (by decide)) (by rfl) T.g_law_row T.k_law_row b_law_row .nil pass0 (pa_cons (pe_ix ix_tup (pv 4) pe_int (fun _ _ => rfl)) (pa_cons (pe_ix ix_list (pv 3) pe_int (fun _ _ => rfl)) pa_nil))))) (pw_or1 (pt_not (pt_val (pe_call G_law_row (hr.mono (by decide)) (by rfl) T.g_law_row T.k_law_row b_law_row .nil pass0 (pa_cons (pe_ix ix_tup (pv 4) pe_int (fun _ _ => rfl)) (pa_cons (pe_ix ix_list (pv 3) pe_int (fun _ _ => rfl)) pa_nil)))))))) (pss_one (ps_ret pe_bl)) pss_nil)
      (pss_cons (ps_if (pt_not (pt_val (pe_call G_law_kind_told (hr.mono (by decide)) (by rfl) T.g_law_kind_told T.k_law_kind_told b_law_kind_told .nil pass0 (pa_cons (pe_callS G_kind_of (hr.mono (by decide)) rfl T.g_kind_of T.k_kind_of b_kind_of (fun σ => L2N.passAt L2N.takes0N σ) (pa_cons (pe_callTy call_list_of (by rfl) T.n_list (by decide +kernel) (pa_cons (pe_ix ix_list (pv 3) pe_int (fun _ _ => rfl)) pa_nil)) (pa_cons (pe_callTy call_list_of (by rfl) T.n_list (by decide +kernel) (pa_cons (pe_ix ix_list (pv 3) pe_int (fun _ _ => rfl)) pa_nil)) pa_nil))) (pa_cons (pv 1) pa_nil))))) (pss_one (ps_ret pe_bl)) pss_nil)
      (pss_cons (ps_if (pt_not (pt_val (pe_call G_law_kind_told (hr.mono (by decide)) (by rfl) T.g_law_kind_told T.k_law_kind_told b_law_kind_told .nil pass0 (pa_cons (pe_callS G_kind_of (hr.mono (by decide)) rfl T.g_kind_of T.k_kind_of b_kind_of (fun σ => L2N.passAt L2N.takes0N σ) (pa_cons (pe_callTy call_list_of (by rfl) T.n_list (by decide +kernel) (pa_cons (pe_ix ix_list (pv 3) pe_int (fun _ _ => rfl)) pa_nil)) (pa_cons (pe_callTy call_list_of (by rfl) T.n_list (by decide +kernel) (pa_cons (pe_ix ix_list (pv 3) pe_int (fun _ _ => rfl)) pa_nil)) pa_nil))) (pa_cons (pv 2) pa_nil))))) (pss_one (ps_ret pe_bl)) pss_nil)
      (pss_cons (ps_if (PW.pt (pw_or (pt_not (pt_val (pe_call G_law_kind_told (hr.mono (by decide)) (by rfl) T.g_law_kind_told T.k_law_kind_told b_law_kind_told .nil pass0 (pa_cons (pe_callS G_reverse_kind (hr.mono (by decide)) rfl T.g_reverse_kind T.k_reverse_kind b_reverse_kind (fun σ => L2N.passAt L2N.takes0N σ) (pa_cons (pv 1) pa_nil)) (pa_cons (pv 2) pa_nil))))) (pw_or1 (pt_not (pt_val (pe_call G_law_kind_told (hr.mono (by decide)) (by rfl) T.g_law_kind_told T.k_law_kind_told b_law_kind_told .nil pass0 (pa_cons (pe_callS G_reverse_kind (hr.mono (by decide)) rfl T.g_reverse_kind T.k_reverse_kind b_reverse_kind (fun σ => L2N.passAt L2N.takes0N σ) (pa_cons (pv 2) pa_nil)) (pa_cons (pv 1) pa_nil)))))))) (pss_one (ps_ret pe_bl)) pss_nil)
      (pss_cons (ps_set (i := 5) sc_law_kept.nd rfl (Or.inl rfl) (pe_callS G_sample (hr.mono (by decide)) rfl T.g_sample T.k_sample b_sample (fun σ => L2N.passAt L2N.takes0N σ) (pa_cons (pv 1) pa_nil)))
      (pss_cons (ps_if (PW.pt (pw_or (pt_not (pt_val (pe_callB call_isi (by rfl) T.n_isinstance (by decide +kernel) (pa_cons (pv 5) (pa_cons (pe_glob (v := .ref A.Update) rfl T.g_Update rfl) pa_nil))))) (pw_or1 (pt_not (pt_val (pe_call G_law_kind_told (hr.mono (by decide)) (by rfl) T.g_law_kind_told T.k_law_kind_told b_law_kind_told .nil pass0 (pa_cons (pe_prop (pv 5) T.cR T.pp_kind G_m_kind (hr.mono (by decide)) b_m_kind .nil pass0 rfl) (pa_cons (pv 1) pa_nil)))))))) (pss_one (ps_ret pe_bl)) pss_nil)
      (pss_one (ps_ret (pe_and (pe_call G_law_row (hr.mono (by decide)) (by rfl) T.g_law_row T.k_law_row b_law_row .nil pass0 (pa_cons (pe_fld (pv 5) rfl) (pa_cons (pe_ix ix_list (pv 3) pe_int (fun _ _ => rfl)) pa_nil))) (pe_one (pe_call G_law_row (hr.mono (by decide)) (by rfl) T.g_law_row T.k_law_row b_law_row .nil pass0 (pa_cons (pe_fld (pv 5) rfl) (pa_cons (pe_ix ix_list (pv 3) pe_int (fun _ _ => rfl)) pa_nil))))))))))))))))))), ?_⟩
    have lA : (rowG 0 0 fs).length = totG fs := rowG_len
    have lB : (rowG 1 0 fs).length = totG fs := rowG_len
    obtain ⟨V1, F1⟩ := valid_of gd pw
    obtain ⟨sA, sB, nf⟩ := no_fault gd
    have nf2 : faultF (toI (rowG 1 0 fs)) (toI (rowG 0 0 fs)) = none := by
      unfold faultF
      rw [(sta_fault sB).2]
      simp only [(sta_fault sA).2]
      rw [if_neg (fun h => h (by rw [toI_len, toI_len, lA, lB]))]
    have BL := bl_G gd
    obtain ⟨en0, en1⟩ := entsD_G (st := 0) gd
    have b0 := BL.ents tot
    have b1 := BL.swap.ents tot
    rw [en0] at b0
    rw [show (1 - 0 : Nat) = 1 from rfl, en1] at b1
    have EA0 := EA
    obtain ⟨ts, hts, tl, tat⟩ := EA
    refine ⟨_, rfl, q, _, rfl, Or.inl ⟨SqL.of hts, fun p1 hp1 => ?_⟩⟩
    have e1 := Ex.new (o := .tup (ts.map V.ref)) hp1
    have K1 : KindAt (upd H p1 (.tup (ts.map V.ref))) p1 fs := ⟨ts, upd_same, tl, fun i t f x y => e1 _ _ (tat i t f x y)⟩
    generalize upd H p1 (.tup (ts.map V.ref)) = H1 at e1 K1 ⊢
    refine ⟨_, rfl, q, fs, rfl, EA0.ex e1, fl, (fun f hf => (gd f hf).w), fun d gs H2 hd e2 EG pm pw2 => ?_⟩
    obtain ⟨us, hus, ul, uat⟩ := EG
    have gd2 : ∀ g ∈ gs, GdE g := fun g hg => by
      obtain ⟨f, hf, rfl⟩ := List.mem_map.mp (pm.mem_iff.mp hg)
      exact gd_rev (gd f hf)
    have gl : gs.length ≤ 60 := by rw [pm.length_eq, List.length_map]; exact fl
    obtain ⟨V2, F2⟩ := valid_of gd2 pw2
    refine ⟨d, _, rfl, Or.inl ⟨SqL.of hus, fun p2 hp2 => ?_⟩⟩
    have e3 := Ex.new (o := .tup (us.map V.ref)) hp2
    have K2 : KindAt (upd H2 p2 (.tup (us.map V.ref))) p2 gs := ⟨us, upd_same, ul, fun i t f x y => e3 _ _ (uat i t f x y)⟩
    have e13 := e2.trans e3
    generalize upd H2 p2 (.tup (us.map V.ref)) = H3 at K2 e13 ⊢
    refine ⟨_, rfl, q, fs, rfl, (EA0.ex e1).ex e13, gd, tot, fun t a b H4 ht e4 hT la lb => ?_⟩
    have K1 := K1.ex (e13.trans e4)
    have K2 := K2.ex e4
    have e04 := (e1.trans e13).trans e4
    have l1 : (fs.map toG).length ≤ 70 := by rw [List.length_map]; omega
    have l2 : (gs.map toG).length ≤ 70 := by rw [List.length_map]; omega
    refine ⟨_, rfl, p1, fs.map toG, rfl, kind_gens K1, l1, fun _ H5 E5 => ?_, fun nv => absurd V1 nv⟩
    refine ⟨rfl, _, rfl, ifF (ndec rfl) ?_⟩
    refine ⟨_, rfl, p1, fs.map toG, rfl, kind_gens (K1.ex E5), l1, (fun _ => by rw [F1]; exact tot), fun _ t2 a2 b2 H6 ht2 ha2 hb2 e6 hT2 la2 lb2 => ?_, fun nv => absurd V1 nv⟩
    rw [F1] at la2 lb2
    have E6 := E5.trans e6
    refine ⟨_, rfl, _, _, _, _, true, rfl, ClsV.ty "tuple", TyX.base (TyOf.tup hT2), kit_ty (by decide +kernel), ?_⟩
    refine ⟨true, rfl, iteF ?_⟩
    refine ⟨_, rfl, t2, _, rfl, .inr (SqT.of hT2), rfl, _, rfl, ?_⟩
    refine ifF (ndec rfl) ?_
    refine ⟨_, rfl, t2, _, _, _, rfl, rfl, SqT.of hT2, atI_nat (j := 0) rfl, _, rfl, t, _, _, _, rfl, rfl, SqL.of (E6 _ _ hT), atI_nat (j := 0) rfl, a2, a, rowG 0 0 fs, rfl, la2, la.ex E6, by omega, fun H7 e7 => ⟨true, rfl, iteF ?_⟩⟩
    have E7 := E6.trans e7
    refine ⟨_, rfl, t2, _, _, _, rfl, rfl, SqT.of (e7 _ _ hT2), atI_nat (j := 1) rfl, _, rfl, t, _, _, _, rfl, rfl, SqL.of (E7 _ _ hT), atI_nat (j := 1) rfl, b2, b, rowG 1 0 fs, rfl, lb2.ex e7, lb.ex E7, by omega, fun H8 e8 => ⟨true, rfl, iteF ?_⟩⟩
    have E8 := E7.trans e8
    refine ⟨_, rfl, t, _, _, _, rfl, rfl, SqL.of (E8 _ _ hT), atI_nat (j := 0) rfl, a, _, rfl, Or.inl (la.ex E8).sz, fun c1 hc1 => ?_⟩
    have w1 : ListN (upd H8 c1 (.lst (nI (rowG 0 0 fs)))) c1 (rowG 0 0 fs) := upd_same
    have E9a := E8.trans (Ex.new (o := .lst (nI (rowG 0 0 fs))) hc1)
    generalize upd H8 c1 (.lst (nI (rowG 0 0 fs))) = G1 at w1 E9a ⊢
    refine ⟨_, rfl, t, _, _, _, rfl, rfl, SqL.of (E9a _ _ hT), atI_nat (j := 1) rfl, b, _, rfl, Or.inl (lb.ex E9a).sz, fun c2 hc2 => ?_⟩
    have w2 : ListN (upd G1 c2 (.lst (nI (rowG 1 0 fs)))) c2 (rowG 1 0 fs) := upd_same
    have w1 := w1.ex (Ex.new (o := .lst (nI (rowG 1 0 fs))) hc2)
    have E9b := E9a.trans (Ex.new (o := .lst (nI (rowG 1 0 fs))) hc2)
    generalize upd G1 c2 (.lst (nI (rowG 1 0 fs))) = G2 at w1 w2 E9b ⊢
    refine ⟨c1, c2, toI (rowG 0 0 fs), toI (rowG 1 0 fs), rfl, w1.int, w2.int, by rw [toI_len]; omega, by rw [toI_len]; omega, fun _ k1 es1 G3 hk1 e9 pa pb KT => ?_, fun g hg => by rw [nf] at hg; cases hg⟩
    rw [toI_nat, toI_nat, toI_len, show ((rowG 0 0 fs)).length = totG fs from rowG_len] at pa
    have ee : es1 = fs := sorted_one (pa.trans b0) pb pw
    rw [ee] at KT
    have E9c := E9b.trans e9
    refine ⟨_, rfl, k1, p1, fs, rfl, KT, K1.ex E9c, by omega, fun G4 e10 => ⟨true, rfl, iteF ?_⟩⟩
    have E9 := E9c.trans e10
    clear w1 w2 KT pa pb
    refine ⟨_, rfl, t, _, _, _, rfl, rfl, SqL.of (E9 _ _ hT), atI_nat (j := 1) rfl, b, _, rfl, Or.inl (lb.ex E9).sz, fun c1 hc1 => ?_⟩
    have w1 : ListN (upd G4 c1 (.lst (nI (rowG 1 0 fs)))) c1 (rowG 1 0 fs) := upd_same
    have E10a := E9.trans (Ex.new (o := .lst (nI (rowG 1 0 fs))) hc1)
    generalize upd G4 c1 (.lst (nI (rowG 1 0 fs))) = G1 at w1 E10a ⊢
    refine ⟨_, rfl, t, _, _, _, rfl, rfl, SqL.of (E10a _ _ hT), atI_nat (j := 0) rfl, a, _, rfl, Or.inl (la.ex E10a).sz, fun c2 hc2 => ?_⟩
    have w2 : ListN (upd G1 c2 (.lst (nI (rowG 0 0 fs)))) c2 (rowG 0 0 fs) := upd_same
    have w1 := w1.ex (Ex.new (o := .lst (nI (rowG 0 0 fs))) hc2)
    have E10b := E10a.trans (Ex.new (o := .lst (nI (rowG 0 0 fs))) hc2)
    generalize upd G1 c2 (.lst (nI (rowG 0 0 fs))) = G2 at w1 w2 E10b ⊢
    refine ⟨c1, c2, toI (rowG 1 0 fs), toI (rowG 0 0 fs), rfl, w1.int, w2.int, by rw [toI_len]; omega, by rw [toI_len]; omega, fun _ k1 es1 G3 hk1 e9 pa pb KT => ?_, fun g hg => by rw [nf2] at hg; cases hg⟩
    rw [toI_nat, toI_nat, toI_len, show ((rowG 1 0 fs)).length = totG fs from rowG_len] at pa
    have ee : es1 = gs := sorted_one ((pa.trans b1).trans pm.symm) pb pw2
    rw [ee] at KT
    have E10c := E10b.trans e9
    refine ⟨_, rfl, k1, p2, gs, rfl, KT, K2.ex E10c, by omega, fun G4 e10 => ⟨true, rfl, iteF ?_⟩⟩
    have Ea := E10c.trans e10
    clear w1 w2 KT pa pb
    refine ⟨_, rfl, p1, fs.map toG, rfl, kind_gens (K1.ex Ea), l1, fun _ k3 es3 G5 hk3 e11 KT pa pb => ?_, fun nv => absurd V1 nv⟩
    rw [F1] at pa
    have ee : es3 = gs := sorted_one (pa.trans pm.symm) pb pw2
    rw [ee] at KT
    have Eb := Ea.trans e11
    refine ⟨_, rfl, k3, p2, gs, rfl, KT, K2.ex Eb, by omega, fun G6 e12 => ⟨true, rfl, iteF ?_⟩⟩
    have Ec := Eb.trans e12
    refine ⟨_, rfl, p2, gs.map toG, rfl, kind_gens (K2.ex Ec), l2, fun _ k4 es4 G7 hk4 e13 KT4 pa4 pb4 => ?_, fun nv => absurd V2 nv⟩
    rw [F2] at pa4
    have back : (gs.map revE).Perm fs := by
      have p := pm.map revE
      rw [List.map_map, show fs.map (revE ∘ revE) = fs from (List.map_congr_left (g := id) fun f _ => rev_rev f).trans (List.map_id fs)] at p
      exact p
    have ee4 : es4 = fs := sorted_one (pa4.trans back) pb4 pw
    rw [ee4] at KT4
    have Ed := Ec.trans e13
    refine ⟨_, rfl, k4, p1, fs, rfl, KT4, K1.ex Ed, by omega, fun G8 e14 => ⟨true, rfl, iteF ?_⟩⟩
    have Ee := Ed.trans e14
    refine ⟨_, rfl, p1, fs.map toG, rfl, kind_gens (K1.ex Ee), l1, (fun _ => by rw [F1]; exact tot), fun _ u G9 hu e15 U => ?_, fun nv => absurd V1 nv⟩
    rw [F1] at U
    have Ef := Ee.trans e15
    obtain ⟨dx, ub, ua, huu, lub, lua, nbu, nau⟩ := U
    refine ⟨_, rfl, _, _, _, _, true, rfl, ClsV.own _, TyX.base (TyOf.ins huu T.cR T.cc T.cn T.ct T.co), kit_self, ?_⟩
    refine ⟨true, rfl, iteF ?_⟩
    refine ⟨_, rfl, u, dx, _, rfl, huu, u, rowG 0 0 fs, rowG 1 0 fs, rfl, ⟨dx, ub, ua, huu, lub, lua, nbu, nau⟩, sA, sB, by omega, by omega, fun t3 es5 Gg ht3 eg p3a p3b KT3 => ?_⟩
    rw [lA] at p3a
    have ee5 : es5 = fs := sorted_one (p3a.trans b0) p3b pw
    rw [ee5] at KT3
    have Eg := Ef.trans eg
    refine ⟨_, rfl, t3, p1, fs, rfl, KT3, K1.ex Eg, by omega, fun Gh eh => ⟨true, rfl, iteF ?_⟩⟩
    have Eh := Eg.trans eh
    have egh := eg.trans eh
    refine ⟨_, rfl, u, _, dx, _, _, rfl, egh _ _ huu, T.cR, T.nc_before, rfl, _, rfl, t, _, _, _, rfl, rfl, SqL.of (Eh _ _ hT), atI_nat (j := 0) rfl, ub, a, rowG 0 0 fs, rfl, lub.ex egh, la.ex Eh, by omega, fun Gi ei => ⟨_, rfl, iteT ?_⟩⟩
    have Ei := Eh.trans ei
    have egi := egh.trans ei
    refine ⟨_, rfl, u, _, dx, _, _, rfl, egi _ _ huu, T.cR, T.nc_after, rfl, _, rfl, t, _, _, _, rfl, rfl, SqL.of (Ei _ _ hT), atI_nat (j := 1) rfl, ua, b, rowG 1 0 fs, rfl, lua.ex egi, lb.ex Ei, by omega, fun Gj ej => ?_⟩
    exact k Gj ((e04.trans Ei).trans ej)

end

section
variable {P : Program} {w : World} {K : PySem.W.Frag} {mg : Str → Option Value} {base : Heap} {A : Ad}
theorem sum_tot : ∀ {es : List GE}, (∀ e ∈ es, goodE e = true) → (es.map fun e => e.2.1).sum = ((totG (es.map frG) : Nat) : Int)
  | [], _ => rfl
  | e :: es, h => by
    have ih := sum_tot (es := es) fun f hf => h f (List.mem_cons_of_mem _ hf)
    have g2 := (gdE (h e (List.mem_cons_self ..))).n2
    have g2 : 2 ≤ e.2.1 := g2
    rw [List.map_cons, List.sum_cons, ih]
    show _ = ((nG (frG e) + totG (es.map frG) : Nat) : Int)
    have : ((nG (frG e) : Nat) : Int) = e.2.1 := by
      show ((e.2.1.toNat : Nat) : Int) = e.2.1
      omega
    omega
theorem ok_law_judged (T : Txt K mg A)  (g_law_valid : Okd P w K mg base CX0 2 A.law_valid P_law_valid spVd) (g_law_kept : Okd P w K mg base CX0 11 A.law_kept P_law_kept spKp8) (g_law_refused : Okd P w K mg base CX0 10 A.law_refused P_law_refused spRf) : Okd P w K mg base CX0 12 A.law_judged P_law_judged spJd := by
  obtain ⟨fd, F⟩ := T.d_law_judged
  obtain ⟨fd_law_valid, G_law_valid, b_law_valid⟩ := g_law_valid
  obtain ⟨fd_law_kept, G_law_kept, b_law_kept⟩ := g_law_kept
  obtain ⟨fd_law_refused, G_law_refused, b_law_refused⟩ := g_law_refused
  refine ⟨fd, F.ok sc_law_judged (fun vs H Q E h => ?_) (fun cdv A' outer s H vs Q E hr h => ?_), F.binds fun _ _ _ _ _ _ us hl => match us, hl with | [_], _ => rfl⟩
  · obtain ⟨q, es, rfl, _⟩ := h
    rfl
  · obtain ⟨q, es, rfl, hq, hl, hs, k⟩ := h
    refine ⟨_, (pss_cons (ps_if (pt_val (pe_call G_law_valid (hr.mono (by decide)) (by rfl) T.g_law_valid T.k_law_valid b_law_valid .nil pass0 (pa_cons (pv 0) pa_nil))) (pss_one (ps_ret (pe_or (pe_cmpR op_gt (pe_callB (cr_sum (by rfl)) (by rfl) T.n_sum (by decide +kernel) (pa_cons (pe_lc (own := [("entry", 2)]) (tt := tYes) (by rfl) sc_law_judged.nd (pi_list (pv 0)) (blkOk_by (own := [("entry", 2)]) (N := N_law_judged) (sc := defScope s_law_judged) (by decide +kernel)) (fun _ _ _ _ _ => (pg_name (i := 2) sc_law_judged.nd rfl (Or.inl rfl))) (fun _ _ _ _ _ => pts_nil) (fun _ _ _ _ _ => (pe_ix (ix_tupK (K := K) rfl) (pv 2) pe_int (fun _ _ => rfl)))) pa_nil)) pe_int (nomark _)) (pe_one (pe_call G_law_kept (hr.mono (by decide)) (by rfl) T.g_law_kept T.k_law_kept b_law_kept .nil pass0 (pa_cons (pv 0) pa_nil)))))) pss_nil)
      (pss_cons (ps_for PassesOwn.never rfl (pi_range1 (by rfl) T.n_range (pa_cons pe_int pa_nil)) (pg_name (i := 1) sc_law_judged.nd rfl (Or.inl rfl)) (pss_one (ps_if (pt_not (pt_val (pe_call G_law_refused (hr.mono (by decide)) (by rfl) T.g_law_refused T.k_law_refused b_law_refused .nil pass0 (pa_cons (pv 1) (pa_cons (pe_callTy call_tuple_of (by rfl) T.n_tuple (by decide +kernel) (pa_cons (pv 0) pa_nil)) pa_nil))))) (pss_one (ps_ret pe_bl)) pss_nil)))
      (pss_one (ps_ret pe_bl)))), ?_⟩
    refine ⟨_, rfl, q, es, rfl, hq, hl, hs, fun H1 e1 => ⟨fun v => ?_, fun nv => ?_⟩⟩
    · refine ⟨true, rfl, iteT ?_⟩
      obtain ⟨ts, hts, tl, tat⟩ := hq
      have good := v.1
      have htsG := e1 _ _ hts
      refine ⟨_, rfl, q, rfl, ⟨_, SqL.of htsG⟩, fun D hD => ?_⟩
      refine lc_list (K := K) (a := q) (xs := ts.map V.ref) (fun j G => Ex H1 G ∧ G D = some (.lst (((es.take j).map fun e => e.2.1).map V.int))) ⟨Ex.new hD, upd_same⟩ (fun j G _ q => SqL.of (q.1 _ _ htsG)) ?_ ?_
      · rintro j x G hx ⟨e, hd⟩
        obtain ⟨t1, ht1, rfl⟩ := ref_at hx
        have jl : j < es.length := by have := (List.getElem?_eq_some_iff.mp ht1).1; omega
        have he1 : es[j]? = some es[j] := List.getElem?_eq_getElem jl
        have E1 := e _ _ (e1 _ _ (tat j _ _ ht1 he1))
        refine ⟨rfl, _, rfl, t1, _, _, _, rfl, rfl, SqT.of E1, atI_nat (j := 1) rfl, ?_⟩
        refine ⟨_, hd, small1000 (by rw [List.length_map, List.length_map, List.length_take]; omega), fun x o ho => ?_, ?_⟩
        · rw [upd_ne (ne_of_none ho hD)]
          exact e _ _ ho
        · rw [upd_same, List.take_add_one, he1, List.map_append, List.map_append]
          rfl
      rintro G1 ⟨e2, hd⟩
      rw [List.length_map, tl, List.take_length] at hd
      refine ⟨D, _, rfl, SqL.of hd, _, _, rfl, rfl, _, rfl, ?_⟩
      rw [sum_tot good]
      have e12 := e1.trans e2
      refine ite_b (fun c => ?_) (fun c => ?_)
      · exact k G1 e12
      have c := of_decide_eq_false c
      have fat : ∀ (i : Nat) (t : Addr) (f : Ent), ts[i]? = some t → (es.map frG)[i]? = some f → EntAt H t f := fun i t f a b => by
        rw [List.getElem?_map] at b
        cases z : es[i]? with
        | none => rw [z] at b; cases b
        | some e =>
          rw [z] at b
          rw [← Option.some.inj b]
          exact gen_ent (good e (List.mem_of_getElem? z)) (tat i t e a z)
      exact ⟨_, rfl, q, es.map frG, rfl, ⟨ts, e12 _ _ hts, by rw [List.length_map]; exact tl, fun i t f a b => e12 _ _ (fat i t f a b)⟩, gd_of v, v.2, by omega, by rw [List.length_map]; exact hl, fun H' e' => k H' (e12.trans e')⟩
    · refine ⟨false, rfl, iteF ?_⟩
      obtain ⟨ts, hts, tl, tat⟩ := hq
      refine ⟨_, rfl, by decide, by decide, ?_⟩
      refine for_range (lo := 0) (n := 4) (fun m σ G => ∃ v1 v2 : Option V, σ = [some (.ref q), v1, v2] ∧ Ex H G) ⟨none, none, rfl, e1⟩ ?_ ?_
      · rintro m σ G hm ⟨v1, v2, rfl, e⟩
        rw [Int.zero_add]
        refine ⟨_, rfl, _, rfl, q, _, rfl, Or.inl ⟨SqL.of (e _ _ hts), fun p hp => ?_⟩⟩
        have eP := Ex.new (o := .tup (ts.map V.ref)) hp
        refine ⟨p, es, m, rfl, hm, ⟨ts, upd_same, tl, fun i t c a b => eP _ _ (e _ _ (tat i t c a b))⟩, by omega, nv, fun H' e' => ⟨true, rfl, iteF ⟨_, _, rfl, (e.trans eP).trans e'⟩⟩⟩
      · rintro σ G ⟨v1, v2, rfl, e⟩
        exact k G e

end

section
variable {P : Program} {w : World} {K : PySem.W.Frag} {mg : Str → Option Value} {base : Heap} {A : Ad}
theorem set_at2 {α β : Type} {R : α → β → Prop} {us : List α} {fs : List β} {t : α} {e : β} {i : Nat} (h : ∀ (k : Nat) (a : α) (b : β), us[k]? = some a → fs[k]? = some b → R a b) (h1 : R t e) : ∀ (k : Nat) (a : α) (b : β), (us.set i t)[k]? = some a → (fs.set i e)[k]? = some b → R a b := by
  intro k a b ha hb
  rw [List.getElem?_set] at ha hb
  by_cases c : i = k
  · rw [if_pos c] at ha hb
    split at ha
    · split at hb
      · rw [← Option.some.inj ha, ← Option.some.inj hb]
        exact h1
      · cases hb
    · cases ha
  · rw [if_neg c] at ha hb
    exact h k a b ha hb
theorem mem_set2 {es : List GE} {i : Nat} {e : GE} {P : GE → Prop} (h : ∀ x ∈ es, P x) (h1 : P e) : ∀ x ∈ es.set i e, P x := fun x hx => by
  rcases List.mem_or_eq_of_mem_set hx with h2 | h2
  · exact h x h2
  · rw [h2]
    exact h1
theorem ok_law_bent (T : Txt K mg A)  (g_law_draw : Okd P w K mg base CX0 2 A.law_draw P_law_draw spDw) (g_law_strange : Okd P w K mg base CX0 3 A.law_strange P_law_strange spSg) : Okd P w K mg base CX0 4 A.law_bent P_law_bent spBe8 := by
  obtain ⟨fd, F⟩ := T.d_law_bent
  obtain ⟨fd_law_draw, G_law_draw, b_law_draw⟩ := g_law_draw
  obtain ⟨fd_law_strange, G_law_strange, b_law_strange⟩ := g_law_strange
  refine ⟨fd, F.ok sc_law_bent (fun vs H Q E h => ?_) (fun cdv A' outer s H vs Q E hr h => ?_), F.binds fun _ _ _ _ _ _ us hl => match us, hl with | [_, _], _ => rfl⟩
  · obtain ⟨b, c, q, fs, rfl, _⟩ := h
    rfl
  · obtain ⟨b, c, q, fs, rfl, B, hq, hl, gd, k⟩ := h
    refine ⟨_, (pss_cons (ps_set (i := 2) sc_law_bent.nd rfl (Or.inl rfl) (pe_call G_law_draw (hr.mono (by decide)) (by rfl) T.g_law_draw T.k_law_draw b_law_draw .nil pass0 (pa_cons (pv 0) (pa_cons pe_int pa_nil))))
      (pss_cons (ps_set (i := 3) sc_law_bent.nd rfl (Or.inl rfl) (pe_callTy call_list_of (by rfl) T.n_list (by decide +kernel) (pa_cons (pv 1) pa_nil)))
      (pss_cons (ps_if (pt_cmpR op_eq (pv 2) pe_int (nomark _)) (pss_cons (ps_expr (pe_bm PySem.F.plainAttrs_list PySem.F.slot_list_insert PySem.F.type_list_insert mt_insert (pv 3) (pa_cons (pe_call G_law_draw (hr.mono (by decide)) (by rfl) T.g_law_draw T.k_law_draw b_law_draw .nil pass0 (pa_cons (pv 0) (pa_cons (pe_op op_add (pe_callB call_len_seq (by rfl) T.n_len PySem.boot_len (pa_cons (pv 3) pa_nil)) pe_int) pa_nil))) (pa_cons (pe_call G_law_strange (hr.mono (by decide)) (by rfl) T.g_law_strange T.k_law_strange b_law_strange .nil pass0 (pa_cons (pv 0) pa_nil)) pa_nil))))
      (pss_one (ps_ret (pv 3)))) pss_nil)
      (pss_cons (ps_if (pt_cmpR op_eq (pe_callB call_len_seq (by rfl) T.n_len PySem.boot_len (pa_cons (pv 3) pa_nil)) pe_int (nomark _)) (pss_one (ps_ret (pe_lst (pa_cons (pe_call G_law_strange (hr.mono (by decide)) (by rfl) T.g_law_strange T.k_law_strange b_law_strange .nil pass0 (pa_cons (pv 0) pa_nil)) pa_nil)))) pss_nil)
      (pss_cons (ps_set (i := 4) sc_law_bent.nd rfl (Or.inl rfl) (pe_call G_law_draw (hr.mono (by decide)) (by rfl) T.g_law_draw T.k_law_draw b_law_draw .nil pass0 (pa_cons (pv 0) (pa_cons (pe_callB call_len_seq (by rfl) T.n_len PySem.boot_len (pa_cons (pv 3) pa_nil)) pa_nil))))
      (pss_cons (ps_if (pt_cmpR op_eq (pv 2) pe_int (nomark _)) (pss_one (ps_asg (pe_call G_law_strange (hr.mono (by decide)) (by rfl) T.g_law_strange T.k_law_strange b_law_strange .nil pass0 (pa_cons (pv 0) pa_nil)) (pg_sub (pv 3) (pv 4) set_list))) (pss_one (ps_if (pt_cmpR op_eq (pv 2) pe_int (nomark _)) (pss_one (ps_asg (pe_tup (pa_cons (pe_ix ix_tup (pe_ix ix_list (pv 3) (pv 4) (fun _ _ => rfl)) pe_int (fun _ _ => rfl)) (pa_cons (pe_ix ix_tup (pe_ix ix_list (pv 3) (pv 4) (fun _ _ => rfl)) pe_int (fun _ _ => rfl)) (pa_cons (pe_op op_sub (pe_call G_law_draw (hr.mono (by decide)) (by rfl) T.g_law_draw T.k_law_draw b_law_draw .nil pass0 (pa_cons (pv 0) (pa_cons pe_int pa_nil))) pe_int) pa_nil)))) (pg_sub (pv 3) (pv 4) set_list))) (pss_one (ps_if (pt_cmpR op_eq (pv 2) pe_int (nomark _)) (pss_one (ps_asg (pe_tup (pa_cons (pe_ix ix_tup (pe_ix ix_list (pv 3) (pv 4) (fun _ _ => rfl)) pe_int (fun _ _ => rfl)) (pa_cons (pe_op op_sub (pe_op op_add (pe_ix ix_tup (pe_ix ix_list (pv 3) (pv 4) (fun _ _ => rfl)) pe_int (fun _ _ => rfl)) (pe_call G_law_draw (hr.mono (by decide)) (by rfl) T.g_law_draw T.k_law_draw b_law_draw .nil pass0 (pa_cons (pv 0) (pa_cons pe_int pa_nil)))) pe_int) (pa_cons (pe_ix ix_tup (pe_ix ix_list (pv 3) (pv 4) (fun _ _ => rfl)) pe_int (fun _ _ => rfl)) pa_nil)))) (pg_sub (pv 3) (pv 4) set_list))) (pss_one (ps_if (pt_cmpR op_eq (pv 2) pe_int (nomark _)) (pss_cons (ps_set (i := 5) sc_law_bent.nd rfl (Or.inl rfl) (pe_call G_law_draw (hr.mono (by decide)) (by rfl) T.g_law_draw T.k_law_draw b_law_draw .nil pass0 (pa_cons (pv 0) (pa_cons (pe_callB call_len_seq (by rfl) T.n_len PySem.boot_len (pa_cons (pv 3) pa_nil)) pa_nil))))
      (pss_cons (ps_set (i := 6) sc_law_bent.nd rfl (Or.inl rfl) (pe_ix ix_list (pv 3) (pv 4) (fun _ _ => rfl)))
      (pss_cons (ps_asg (pe_ix ix_list (pv 3) (pv 5) (fun _ _ => rfl)) (pg_sub (pv 3) (pv 4) set_list))
      (pss_one (ps_asg (pv 6) (pg_sub (pv 3) (pv 5) set_list)))))) (pss_one (ps_ret (StK.pe_back (pv 3) (pe_un un_neg pe_int)))))))))))
      (pss_one (ps_ret (pv 3))))))))), ?_⟩
    obtain ⟨ts, hts, tl, tat⟩ := hq
    have nqb : q ≠ b := fun z => by
      obtain ⟨ns, d0, i0, k0, s0, hb, _⟩ := B
      rw [z, hb] at hts
      cases ts with
      | nil => cases hts
      | cons x xs =>
        have h := HO.lst.inj (Option.some.inj hts)
        cases xs with
        | nil => cases h
        | cons x2 xs => cases h
    have nb : ∀ {G : Hp} {t : Addr} {e : GE}, Bx G b c → GenAt G t e → t ≠ b := fun {G t e} BG h z => by
      obtain ⟨ns, d0, i0, k0, s0, hb, _⟩ := BG
      have h : G t = some _ := h
      rw [z, hb] at h
      cases h
    refine ⟨_, rfl, b, c, 6, rfl, by decide, by decide, B, fun way H1 hw B1 M1 => ?_⟩
    have hts1 := M1 _ _ nqb hts
    refine ⟨_, rfl, q, _, rfl, Or.inl (SqL.of hts1), fun r hr => ?_⟩
    obtain ⟨nrb, nrc⟩ := B1.ne hr
    have fr : H r = none := bx_back B1 M1 hr
    have eR := Ex.new (o := .lst (ts.map V.ref)) hr
    have hR : upd H1 r (.lst (ts.map V.ref)) r = some (.lst (ts.map V.ref)) := upd_same
    have B2 := B1.ex eR
    have M2 : Mut b H (upd H1 r (.lst (ts.map V.ref))) := fun x o h1 h => eR _ _ (M1 _ _ h1 h)
    have gat : ∀ (i : Nat) (t : Addr) (e : GE), ts[i]? = some t → (fs.map toG)[i]? = some e → GenAt (upd H1 r (.lst (ts.map V.ref))) t e := fun i t e x y => by
      rw [List.getElem?_map] at y
      cases z : fs[i]? with
      | none => rw [z] at y; cases y
      | some f =>
        rw [z] at y
        rw [← Option.some.inj y]
        have g0 : GenAt H t (toG f) := tat i t f x z
        exact eR _ _ (M1 _ _ (nb B g0) g0)
    have el : ts.length = (fs.map toG).length := by rw [List.length_map]; exact tl
    have sm : ∀ e ∈ fs.map toG, e.2.1 ≤ 64 := fun e he => by
      obtain ⟨f, hf, rfl⟩ := List.mem_map.mp he
      exact (gd f hf).2
    have el2 : (fs.map toG).length ≤ 50 := by rw [List.length_map]; exact hl
    generalize upd H1 r (.lst (ts.map V.ref)) = H2 at hR B2 M2 gat ⊢
    generalize fs.map toG = es at gat el sm el2
    clear eR hts1 hts tat
    have fin : ∀ (us : List Addr) (es' : List GE) (G : Hp), Bx G b c → Mut b H G → G r = some (.lst (us.map V.ref)) → us.length = es'.length → (∀ (i : Nat) (t : Addr) (e : GE), us[i]? = some t → es'[i]? = some e → GenAt G t e) → es'.length ≤ 60 → (∀ e ∈ es', e.2.1 ≤ 190) → Q (.ref r) G := fun us es' G BG MG hG l1 at1 l2 s2 => k r es' G fr BG MG ⟨us, hG, l1, at1⟩ l2 s2
    have nr : ∀ {G : Hp} {t : Addr} {e : GE} {xs : List V}, G r = some (.lst xs) → GenAt G t e → t ≠ r := fun {G t e xs} hG h z => by
      have h : G t = some _ := h
      rw [z, hG] at h
      cases h
    have s190 : ∀ e ∈ es, e.2.1 ≤ 190 := fun e he => Int.le_trans (sm e he) (by decide)
    have lnR : (ts.map V.ref).length = ts.length := List.length_map ..
    have put : ∀ (G : Hp) (xs : List V), Bx G b c → Mut b H G → Bx (upd G r (.lst xs)) b c ∧ Mut b H (upd G r (.lst xs)) ∧ ∀ x o, x ≠ r → G x = some o → upd G r (.lst xs) x = some o := fun G xs BG MG =>
      ⟨BG.keep (fun o h => by rw [upd_ne (Ne.symm nrb)]; exact h) (fun o h => by rw [upd_ne (Ne.symm nrc)]; exact h), fun x o h1 h => by rw [upd_ne (ne_of_none h fr)]; exact MG _ _ h1 h, fun x o h1 h => by rw [upd_ne h1]; exact h⟩
    have kp : ∀ (G : Hp), Mut b H2 G → ∀ (i : Nat) (t : Addr) (e : GE), ts[i]? = some t → es[i]? = some e → GenAt G t e := fun G M i t e x y => M _ _ (nb B2 (gat i t e x y)) (gat i t e x y)
    refine ⟨_, rfl, rfl, _, rfl, ?_⟩
    refine ite_b (fun c0 => ?_) (fun c0 => ?_)
    · refine ⟨_, rfl, Or.inl ⟨rfl, _, SqL.of hR⟩, _, rfl, _, rfl, r, _, rfl, .inl (SqL.of hR), _, _, rfl, rfl, b, c, ((ts.map V.ref).length : Int) + 1, rfl, by omega, by rw [lnR]; omega, B2, fun d G1 hd B3 M3 => ?_⟩
      refine ⟨_, rfl, b, c, rfl, B3, fun t e G2 ht B4 M4 hg lo hi => ?_⟩
      have M34 := M3.trans M4
      have hR4 := M34 _ _ nrb hR
      refine ⟨r, _, (d : Int), _, rfl, rfl, hR4, small1000 (by rw [lnR]; omega), by omega, by rw [lnR] at hd; omega, ?_⟩
      obtain ⟨B5, M5, K5⟩ := put G2 (List.take (d : Int).toNat (ts.map V.ref) ++ [V.ref t] ++ List.drop (d : Int).toNat (ts.map V.ref)) B4 (M2.trans M34)
      rw [lnR] at hd
      refine ⟨_, rfl, fin (ts.take d ++ [t] ++ ts.drop d) (es.take d ++ [e] ++ es.drop d) _ B5 M5 ?_ ?_ (ins_at el (by omega) (fun i t' e' x y => K5 _ _ (nr hR4 (kp _ M34 i t' e' x y)) (kp _ M34 i t' e' x y)) (K5 _ _ (nr hR4 hg) hg)) ?_ ?_⟩
      · rw [upd_same, Int.toNat_natCast, List.map_append, List.map_append, List.map_take, List.map_drop]
        rfl
      · rw [List.length_append, List.length_append, List.length_append, List.length_append, List.length_take, List.length_take, List.length_drop, List.length_drop, el]
        rfl
      · rw [List.length_append, List.length_append, List.length_take, List.length_drop]
        show _ + 1 + _ ≤ 60
        omega
      · intro x hx
        rcases List.mem_append.mp hx with h | h
        · rcases List.mem_append.mp h with h | h
          · exact s190 _ (List.mem_of_mem_take h)
          · rw [List.mem_singleton.mp h]
            omega
        · exact s190 _ (List.mem_of_mem_drop h)
    refine ⟨_, rfl, r, _, rfl, .inl (SqL.of hR), rfl, _, rfl, ?_⟩
    rw [lnR]
    refine ite_b (fun c1 => ?_) (fun c1 => ?_)
    · refine ⟨_, rfl, b, c, rfl, B2, fun t e G2 ht B4 M4 hg lo hi => ⟨(by show 1 ≤ sizeLine; decide), fun p hp => ?_⟩⟩
      have eP := Ex.new (o := .lst [V.ref t]) hp
      have M24 := M2.trans M4
      exact k p [e] _ (bx_back B4 M24 hp) (B4.ex eP) (fun x o h1 h => eP _ _ (M24 _ _ h1 h)) ⟨[t], upd_same, rfl, fun i t' e' x y => by
        match i, x, y with
        | 0, x, y =>
          rw [← Option.some.inj x, ← Option.some.inj y]
          exact eP _ _ hg
        | i + 1, x, y => cases x⟩ (by show 1 ≤ 60; decide) (fun x hx => by rw [List.mem_singleton.mp hx]; omega)
    have pos : 0 < ts.length := by
      have c1 := of_decide_eq_false c1
      have : ¬ ts.length = 0 := fun z => c1 (by rw [z]; rfl)
      omega
    refine ⟨_, rfl, _, rfl, r, _, rfl, .inl (SqL.of hR), b, c, ((ts.map V.ref).length : Int), rfl, by rw [lnR]; omega, by rw [lnR]; omega, B2, fun at_ G1 ha B3 M3 => ?_⟩
    rw [lnR] at ha
    have al : at_ < ts.length := by omega
    have hR3 := M3 _ _ nrb hR
    have M23 := M2.trans M3
    have a1 : ts[at_]? = some ts[at_] := List.getElem?_eq_getElem al
    have ae : es[at_]? = some es[at_] := List.getElem?_eq_getElem (by omega)
    have ge := kp _ M3 _ _ _ a1 ae
    have se := sm _ (List.getElem_mem (show at_ < es.length by omega))
    refine ⟨_, rfl, rfl, _, rfl, ?_⟩
    have st1 : ∀ (G : Hp) (t : Addr) (e : GE), Bx G b c → Mut b G1 G → GenAt G t e → e.2.1 ≤ 190 → Q (.ref r) (upd G r (.lst ((ts.map V.ref).set at_ (V.ref t)))) := fun G t e BG MG g s => by
      have hRG := MG _ _ nrb hR3
      obtain ⟨B5, M5, K5⟩ := put G ((ts.map V.ref).set at_ (V.ref t)) BG (M23.trans MG)
      exact fin (ts.set at_ t) (es.set at_ e) _ B5 M5 (by rw [upd_same, List.map_set]) (by rw [List.length_set, List.length_set]; exact el) (set_at2 (fun i t' e' x y => K5 _ _ (nr hRG (kp _ (M3.trans MG) i t' e' x y)) (kp _ (M3.trans MG) i t' e' x y)) (K5 _ _ (nr hRG g) g)) (by rw [List.length_set]; omega) (mem_set2 (P := fun x => x.2.1 ≤ 190) s190 s)
    have ix0 : ixN (ts.map V.ref).length ((at_ : Nat) : Int) = some at_ := Evl.ixN_nat (by rw [lnR]; exact al)
    refine ite_b (fun c2 => ?_) (fun c2 => ?_)
    · refine ⟨_, rfl, b, c, rfl, B3, fun t e G2 ht B4 M4 hg lo hi => ?_⟩
      refine ⟨_, rfl, _, rfl, r, _, _, at_, rfl, rfl, M4 _ _ nrb hR3, ix0, ?_⟩
      exact ⟨_, rfl, st1 G2 t e B4 M4 hg (by omega)⟩
    refine ⟨_, rfl, rfl, _, rfl, ?_⟩
    refine ite_b (fun c3 => ?_) (fun c3 => ?_)
    · refine ⟨_, rfl, _, rfl, r, _, _, _, rfl, rfl, SqL.of hR3, atR a1, ts[at_], _, _, _, rfl, rfl, SqT.of ge, atI_nat (j := 0) rfl, _, rfl, _, rfl, r, _, _, _, rfl, rfl, SqL.of hR3, atR a1, ts[at_], _, _, _, rfl, rfl, SqT.of ge, atI_nat (j := 1) rfl, _, rfl, b, c, 5, rfl, by decide, by decide, B3, fun d2 G2 hd2 B4 M4 => ⟨_, _, rfl, rfl, (by show 3 ≤ sizeLine; decide), fun t ht => ?_⟩⟩
      have eT := Ex.new (o := .tup [V.str (es[at_]).1, V.int (es[at_]).2.1, V.int ((d2 : Int) - 2)]) ht
      have M4T : Mut b G1 (upd G2 t (.tup [V.str (es[at_]).1, V.int (es[at_]).2.1, V.int ((d2 : Int) - 2)])) := fun x o h1 h => eT _ _ (M4 _ _ h1 h)
      refine ⟨_, rfl, _, rfl, r, _, _, at_, rfl, rfl, M4T _ _ nrb hR3, ix0, ?_⟩
      exact ⟨_, rfl, st1 _ t ((es[at_]).1, (es[at_]).2.1, (d2 : Int) - 2) (B4.ex eT) M4T upd_same (by show (es[at_]).2.1 ≤ 190; omega)⟩
    refine ⟨_, rfl, rfl, _, rfl, ?_⟩
    refine ite_b (fun c4 => ?_) (fun c4 => ?_)
    · refine ⟨_, rfl, _, rfl, r, _, _, _, rfl, rfl, SqL.of hR3, atR a1, ts[at_], _, _, _, rfl, rfl, SqT.of ge, atI_nat (j := 0) rfl, _, rfl, _, rfl, r, _, _, _, rfl, rfl, SqL.of hR3, atR a1, ts[at_], _, _, _, rfl, rfl, SqT.of ge, atI_nat (j := 1) rfl, _, rfl, b, c, 5, rfl, by decide, by decide, B3, fun d2 G2 hd2 B4 M4 => ?_⟩
      have ge4 : GenAt G2 ts[at_] es[at_] := M4 _ _ (nb B3 ge) ge
      refine ⟨_, _, rfl, rfl, _, _, rfl, rfl, _, rfl, _, rfl, r, _, _, _, rfl, rfl, SqL.of (M4 _ _ nrb hR3), atR a1, ts[at_], _, _, _, rfl, rfl, SqT.of ge4, atI_nat (j := 2) rfl, (by show 3 ≤ sizeLine; decide), fun t ht => ?_⟩
      have eT := Ex.new (o := .tup [V.str (es[at_]).1, V.int ((es[at_]).2.1 + (d2 : Int) - 2), V.int (es[at_]).2.2]) ht
      have M4T : Mut b G1 (upd G2 t (.tup [V.str (es[at_]).1, V.int ((es[at_]).2.1 + (d2 : Int) - 2), V.int (es[at_]).2.2])) := fun x o h1 h => eT _ _ (M4 _ _ h1 h)
      refine ⟨_, rfl, _, rfl, r, _, _, at_, rfl, rfl, M4T _ _ nrb hR3, ix0, ?_⟩
      exact ⟨_, rfl, st1 _ t ((es[at_]).1, (es[at_]).2.1 + (d2 : Int) - 2, (es[at_]).2.2) (B4.ex eT) M4T upd_same (by show (es[at_]).2.1 + (d2 : Int) - 2 ≤ 190; omega)⟩
    refine ⟨_, rfl, rfl, _, rfl, ?_⟩
    refine ite_b (fun c5 => ?_) (fun c5 => ?_)
    · refine ⟨_, rfl, _, rfl, r, _, rfl, .inl (SqL.of hR3), b, c, ((ts.map V.ref).length : Int), rfl, by rw [lnR]; omega, by rw [lnR]; omega, B3, fun o G2 ho B4 M4 => ?_⟩
      rw [lnR] at ho
      have ol : o < ts.length := by omega
      have hR4 := M4 _ _ nrb hR3
      have o1 : ts[o]? = some ts[o] := List.getElem?_eq_getElem ol
      have oe : es[o]? = some es[o] := List.getElem?_eq_getElem (by omega)
      have M34 := M3.trans M4
      refine ⟨_, rfl, _, rfl, r, _, _, _, rfl, rfl, SqL.of hR4, atR a1, ?_⟩
      refine ⟨_, rfl, _, rfl, r, _, _, _, rfl, rfl, SqL.of hR4, atR o1, _, rfl, _, rfl, r, _, _, at_, rfl, rfl, hR4, ix0, ?_⟩
      obtain ⟨B5, M5, K5⟩ := put G2 ((ts.map V.ref).set at_ (V.ref ts[o])) B4 (M2.trans M34)
      have hR5 : upd G2 r (.lst ((ts.map V.ref).set at_ (V.ref ts[o]))) r = some (.lst ((ts.set at_ ts[o]).map V.ref)) := by rw [upd_same, List.map_set]
      generalize upd G2 r (.lst ((ts.map V.ref).set at_ (V.ref ts[o]))) = G3 at B5 M5 K5 hR5 ⊢
      refine ⟨_, rfl, _, rfl, _, rfl, r, _, _, o, rfl, rfl, hR5, Evl.ixN_nat (by rw [List.length_map, List.length_set]; exact ol), ?_⟩
      obtain ⟨B6, M6, K6⟩ := put G3 (((ts.set at_ ts[o]).map V.ref).set o (V.ref ts[at_])) B5 M5
      have K56 : ∀ {t : Addr} {e : GE}, GenAt G2 t e → GenAt (upd G3 r (.lst (((ts.set at_ ts[o]).map V.ref).set o (V.ref ts[at_])))) t e := fun {t e} h => K6 _ _ (nr hR4 h) (K5 _ _ (nr hR4 h) h)
      refine ⟨_, rfl, fin ((ts.set at_ ts[o]).set o ts[at_]) ((es.set at_ es[o]).set o es[at_]) _ B6 M6 (by rw [upd_same, List.map_set, List.map_set, List.map_set]) (by rw [List.length_set, List.length_set, List.length_set, List.length_set]; exact el) (set_at2 (set_at2 (fun i t' e' x y => K56 (kp _ M34 i t' e' x y)) (K56 (kp _ M34 _ _ _ o1 oe))) (K56 (kp _ M34 _ _ _ a1 ae))) (by rw [List.length_set, List.length_set]; omega) (mem_set2 (P := fun x => x.2.1 ≤ 190) (mem_set2 (P := fun x => x.2.1 ≤ 190) s190 (s190 _ (List.mem_of_getElem? oe))) (s190 _ (List.mem_of_getElem? ae)))⟩
    · refine ⟨_, rfl, _, rfl, rfl, r, _, rfl, SqL.of hR3, fun p hp => ?_⟩
      have eP := Ex.new (o := .lst (ts.map V.ref).reverse) hp
      refine k p es.reverse _ (bx_back B3 M23 hp) (B3.ex eP) (fun x o h1 h => eP _ _ (M23 _ _ h1 h)) ⟨ts.reverse, by rw [upd_same, List.map_reverse], by rw [List.length_reverse, List.length_reverse]; exact el, fun i t e x y => ?_⟩ (by rw [List.length_reverse]; omega) (fun x hx => s190 _ (List.mem_reverse.mp hx))
      have il : i < ts.length := by
        have := (List.getElem?_eq_some_iff.mp x).1
        rw [List.length_reverse] at this
        exact this
      rw [List.getElem?_reverse il] at x
      rw [List.getElem?_reverse (by omega), ← el] at y
      exact eP _ _ (kp _ M3 _ _ _ x y)

end

section
variable {P : Program} {w : World} {K : PySem.W.Frag} {mg : Str → Option Value} {base : Heap} {A : Ad}
theorem totG_perm {es fs : List Ent} (p : es.Perm fs) : totG es = totG fs := by
  induction p with
  | nil => rfl
  | cons x _ ih => show nG x + _ = nG x + _; rw [ih]
  | swap x y l => show nG y + (nG x + totG l) = nG x + (nG y + totG l); omega
  | trans _ _ h1 h2 => exact h1.trans h2
theorem ok_law_entries (T : Txt K mg A)  (g_law_draw : Okd P w K mg base CX0 2 A.law_draw P_law_draw spDw) (g_law_entry : Okd P w K mg base CX0 3 A.law_entry P_law_entry spLe) (g_law_ascending : Okd P w K mg base CX0 1 A.law_ascending P_law_ascending spAsc) : Okd P w K mg base CX0 4 A.law_entries P_law_entries spEs := by
  obtain ⟨fd, F⟩ := T.d_law_entries
  obtain ⟨fd_law_draw, G_law_draw, b_law_draw⟩ := g_law_draw
  obtain ⟨fd_law_entry, G_law_entry, b_law_entry⟩ := g_law_entry
  obtain ⟨fd_law_ascending, G_law_ascending, b_law_ascending⟩ := g_law_ascending
  refine ⟨fd, F.ok sc_law_entries (fun vs H Q E h => ?_) (fun cdv A' outer s H vs Q E hr h => ?_), F.binds fun _ _ _ _ _ _ us hl => match us, hl with | [_], _ => rfl⟩
  · obtain ⟨b, c, rfl, _⟩ := h
    rfl
  · obtain ⟨b, c, rfl, B, k⟩ := h
    refine ⟨_, (pss_cons (ps_set (i := 1) sc_law_entries.nd rfl (Or.inl rfl) (pe_call G_law_draw (hr.mono (by decide)) (by rfl) T.g_law_draw T.k_law_draw b_law_draw .nil pass0 (pa_cons (pv 0) (pa_cons pe_int pa_nil))))
      (pss_cut (ps_if (pt_cmpR op_eq (pe_call G_law_draw (hr.mono (by decide)) (by rfl) T.g_law_draw T.k_law_draw b_law_draw .nil pass0 (pa_cons (pv 0) (pa_cons pe_int pa_nil))) pe_int (nomark _)) (pss_one (ps_set (i := 1) sc_law_entries.nd rfl (Or.inl rfl) (pe_call G_law_draw (hr.mono (by decide)) (by rfl) T.g_law_draw T.k_law_draw b_law_draw .nil pass0 (pa_cons (pv 0) (pa_cons pe_int pa_nil))))) pss_nil)
      (pss_cons (ps_set (i := 2) sc_law_entries.nd rfl (Or.inl rfl) (pe_ix ix_list (pe_lst (pa_cons pe_int (pa_cons pe_int (pa_cons pe_int (pa_cons pe_int pa_nil))))) (pe_call G_law_draw (hr.mono (by decide)) (by rfl) T.g_law_draw T.k_law_draw b_law_draw .nil pass0 (pa_cons (pv 0) (pa_cons pe_int pa_nil))) (fun _ _ => rfl)))
      (pss_cons (ps_set (i := 3) sc_law_entries.nd rfl (Or.inl rfl) pe_int)
      (pss_cons (ps_set (i := 4) sc_law_entries.nd rfl (Or.inl rfl) (pe_lst pa_nil))
      (pss_cons (ps_for PassesOwn.never rfl (pi_range1 (by rfl) T.n_range (pa_cons (pv 1) pa_nil)) (pg_name (i := 5) sc_law_entries.nd rfl (Or.inl rfl)) (pss_one (ps_if (pt_cmpR op_ge (pv 3) pe_int (nomark _)) (pss_cons (ps_expr (pe_bm PySem.F.plainAttrs_list PySem.F.slot_list_append PySem.F.type_list_append mt_append (pv 4) (pa_cons (pe_call G_law_entry (hr.mono (by decide)) (by rfl) T.g_law_entry T.k_law_entry b_law_entry .nil pass0 (pa_cons (pv 0) (pa_cons (pe_callB (call_min2 (by rfl)) (by rfl) T.n_min (by decide +kernel) (pa_cons (pv 3) (pa_cons (pv 2) pa_nil))) pa_nil))) pa_nil)))
      (pss_one (ps_set (i := 3) sc_law_entries.nd rfl (Or.inl rfl) (pe_op op_sub (pv 3) (pe_ix ix_tup (pe_ix ix_list (pv 4) (pe_un un_neg pe_int) (fun _ _ => rfl)) pe_int (fun _ _ => rfl)))))) pss_nil)))
      (pss_one (ps_ret (pe_call G_law_ascending (hr.mono (by decide)) (by rfl) T.g_law_ascending T.k_law_ascending b_law_ascending .nil pass0 (pa_cons (pv 4) pa_nil)))))))))), ?_⟩
    refine ⟨_, rfl, b, c, 7, rfl, by decide, by decide, B, fun many H1 hm B1 M1 => ?_⟩
    refine ⟨fun σ G => ∃ many : Nat, many ≤ 33 ∧ σ = [some (.ref b), some (.int (many : Int)), none, none, none, none] ∧ Bx G b c ∧ Mut b H G, ?_, ?_⟩
    · refine ⟨_, rfl, b, c, 8, rfl, by decide, by decide, B1, fun d2 H2 hd2 B2 M2 => ⟨rfl, _, rfl, ?_⟩⟩
      refine ite_b (fun _ => ?_) (fun _ => ⟨many, by omega, rfl, B2, M1.trans M2⟩)
      exact ⟨_, rfl, b, c, 33, rfl, by decide, by decide, B2, fun d3 H3 hd3 B3 M3 => ⟨d3, by omega, rfl, B3, (M1.trans M2).trans M3⟩⟩
    clear hm B1 M1 H1 many
    rintro σ G ⟨many, hm, rfl, BG, MG⟩
    refine ⟨(by show 4 ≤ sizeLine; decide), fun ml hml => ?_⟩
    have lml : ListN (upd G ml (.lst (nI [4, 7, 16, 64]))) ml [4, 7, 16, 64] := upd_same
    have eml := Ex.new (o := .lst (nI [4, 7, 16, 64])) hml
    obtain ⟨nmb, nmc⟩ := BG.ne hml
    have B0 := BG.ex eml
    have M0 : Mut b H (upd G ml (.lst (nI [4, 7, 16, 64]))) := fun x o h1 h => eml _ _ (MG _ _ h1 h)
    refine ⟨_, rfl, b, c, 4, rfl, by decide, by decide, B0, fun d G1 hd B1 M1 => ?_⟩
    have lml2 : ListN G1 ml [4, 7, 16, 64] := M1 _ _ nmb lml
    have hd4 : d < [4, 7, 16, 64].length := by show d < 4; omega
    refine ⟨ml, _, _, _, rfl, rfl, lml2.sz, atN hd4, ?_⟩
    obtain ⟨m4, m64⟩ : 4 ≤ [4, 7, 16, 64].getD d 0 ∧ [4, 7, 16, 64].getD d 0 ≤ 64 := by
      have : ∀ i, i < 4 → 4 ≤ [4, 7, 16, 64].getD i 0 ∧ [4, 7, 16, 64].getD i 0 ≤ 64 := by decide
      exact this d hd4
    generalize [4, 7, 16, 64].getD d 0 = rc at m4 m64 ⊢
    have M01 := M0.trans M1
    refine ⟨(by show 0 ≤ sizeLine; decide), fun D hD => ?_⟩
    obtain ⟨nDb, nDc⟩ := B1.ne hD
    have fD : H D = none := bx_back B1 M01 hD
    have eD := Ex.new (o := .lst []) hD
    have hD0 : upd G1 D (.lst []) D = some (.lst []) := upd_same
    have BD := B1.ex eD
    have MD : Mut b H (upd G1 D (.lst [])) := fun x o h1 h => eD _ _ (M01 _ _ h1 h)
    generalize upd G1 D (.lst []) = G2 at hD0 BD MD ⊢
    refine ⟨_, rfl, _, rfl, by omega, by omega, ?_⟩
    rw [Int.toNat_natCast]
    refine for_range (lo := 0) (n := many) (fun i σ G => ∃ (room : Nat) (v5 : Option V) (us : List Addr) (fs : List Ent), σ = [some (.ref b), some (.int (many : Int)), some (.int (rc : Int)), some (.int (room : Int)), some (.ref D), v5] ∧ Bx G b c ∧ Mut b H G ∧ G D = some (.lst (us.map V.ref)) ∧ us.length = fs.length ∧ fs.length ≤ i ∧ (∀ (j : Nat) (t : Addr) (f : Ent), us[j]? = some t → fs[j]? = some f → EntAt G t f) ∧ (∀ f ∈ fs, GdE f) ∧ totG fs + room = 64) ⟨64, none, [], [], rfl, BD, MD, hD0, rfl, Nat.le_refl _, (fun j t f z => by cases z), (fun f hf => by cases hf), rfl⟩ ?_ ?_
    · rintro i σ G hi ⟨room, v5, us, fs, rfl, BG, MG, hG, ul, fl, uat, gd, tot⟩
      rw [Int.zero_add]
      refine ⟨_, rfl, _, _, rfl, rfl, _, rfl, ?_⟩
      refine ite_b (fun c1 => ?_) (fun c1 => ⟨room, _, us, fs, rfl, BG, MG, hG, ul, by omega, uat, gd, tot⟩)
      have c1 := of_decide_eq_true c1
      obtain ⟨re, hre, r1, r2, r3⟩ : ∃ re : Nat, (if (rc : Int) < (room : Int) then (rc : Int) else (room : Int)) = (re : Int) ∧ 2 ≤ re ∧ re ≤ room ∧ re ≤ 64 := by
        by_cases cm : (rc : Int) < (room : Int)
        · exact ⟨rc, by rw [if_pos cm], by omega, by omega, by omega⟩
        · exact ⟨room, by rw [if_neg cm], by omega, by omega, by omega⟩
      refine ⟨_, rfl, Or.inl ⟨rfl, _, SqL.of hG⟩, _, rfl, _, rfl, _, rfl, _, _, rfl, ?_⟩
      refine ⟨b, c, re, (by show [V.ref b, V.int (if (rc : Int) < (room : Int) then (rc : Int) else (room : Int))] = _; rw [hre]), r1, r3, BG, fun t f G3 ht B3 M3 hf gf le => ?_⟩
      have hG3 := M3 _ _ nDb hG
      have gf2 := gf.n2
      have hr : (room : Int) - f.2.1 = ((room - nG f : Nat) : Int) := by unfold nG; omega
      have ntD : t ≠ D := fun z => by rw [z, hG] at ht; cases ht
      refine ⟨_, _, _, rfl, rfl, hG3, small1000 (by rw [List.length_map]; omega), ?_⟩
      have nD : ∀ x o, x ≠ D → G3 x = some o → upd G3 D (.lst (us.map V.ref ++ [V.ref t])) x = some o := fun x o h1 h => by
        rw [upd_ne h1]
        exact h
      have hD4 : upd G3 D (.lst (us.map V.ref ++ [V.ref t])) D = some (.lst (us.map V.ref ++ [V.ref t])) := upd_same
      generalize upd G3 D (.lst (us.map V.ref ++ [V.ref t])) = G4 at nD hD4 ⊢
      have hf4 := nD _ _ ntD hf
      refine ⟨_, rfl, _, rfl, _, rfl, D, _, _, _, rfl, rfl, SqL.of hD4, atI_last (us.map V.ref) (V.ref t), t, _, _, _, rfl, rfl, SqT.of hf4, atI_nat (j := 1) rfl, _, _, rfl, rfl, ?_⟩
      have tD : ∀ x o, G x = some (.tup o) → x ≠ D ∧ x ≠ b := fun x o h => ⟨(fun z => by rw [z, hG] at h; cases h), (fun z => by
        obtain ⟨ns, d0, i0, k0, s0, hb, _⟩ := BG
        rw [z, hb] at h
        cases h)⟩
      refine ⟨room - nG f, _, us ++ [t], fs ++ [f], congrArg (fun z : Int => [some (V.ref b), some (.int (many : Int)), some (.int (rc : Int)), some (V.int z), some (.ref D), some (V.int (i : Int))]) hr, B3.keep (fun o h => nD _ _ (Ne.symm nDb) h) (fun o h => nD _ _ (Ne.symm nDc) h), fun x o h1 h => nD _ _ (ne_of_none h fD) (M3 _ _ h1 (MG _ _ h1 h)), by rw [hD4, List.map_append]; rfl, by rw [List.length_append, List.length_append, ul]; rfl, by rw [List.length_append]; exact Nat.succ_le_succ fl, app_at ul (fun j t' f' x y => ?_) hf4, fun f' hf' => ?_, ?_⟩
      · have h := uat j t' f' x y
        exact nD _ _ (tD _ _ h).1 (M3 _ _ (tD _ _ h).2 h)
      · rcases List.mem_append.mp hf' with h | h
        · exact gd _ h
        · rw [List.mem_singleton.mp h]
          exact gf
      · rw [totG_app]
        show totG fs + (nG f + 0) + (room - nG f) = 64
        unfold nG
        omega
    rintro σ G ⟨room, v5, us, fs, rfl, BG, MG, hG, ul, fl, uat, gd, tot⟩
    refine ⟨_, rfl, D, fs, rfl, ⟨us, hG, ul, uat⟩, by omega, (fun f hf => (gd f hf).w), fun d gs H' hd e EA pm pw => k d gs H' (bx_back BG MG hd) (BG.ex e) (fun x o h1 h => e _ _ (MG _ _ h1 h)) EA (fun f hf => gd f (pm.mem_iff.mp hf)) pw (by rw [totG_perm pm]; omega) (by rw [pm.length_eq]; omega)⟩

end

section
variable {P : Program} {w : World} {K : PySem.W.Frag} {mg : Str → Option Value} {base : Heap} {A : Ad}
theorem ok_law_entry (T : Txt K mg A)  (g_law_draw : Okd P w K mg base CX0 2 A.law_draw P_law_draw spDw) : Okd P w K mg base CX0 3 A.law_entry P_law_entry spLe := by
  obtain ⟨fd, F⟩ := T.d_law_entry
  obtain ⟨fd_law_draw, G_law_draw, b_law_draw⟩ := g_law_draw
  refine ⟨fd, F.ok sc_law_entry (fun vs H Q E h => ?_) (fun cdv A' outer s H vs Q E hr h => ?_), F.binds fun _ _ _ _ _ _ us hl => match us, hl with | [_, _], _ => rfl⟩
  · obtain ⟨b, c, rc, rfl, _⟩ := h
    rfl
  · obtain ⟨b, c, rc, rfl, h2, h64, B, k⟩ := h
    refine ⟨_, (pss_cons (ps_set (i := 2) sc_law_entry.nd rfl (Or.inl rfl) (pe_op op_add pe_int (pe_call G_law_draw (hr.mono (by decide)) (by rfl) T.g_law_draw T.k_law_draw b_law_draw .nil pass0 (pa_cons (pv 0) (pa_cons (pe_op op_sub (pv 1) pe_int) pa_nil)))))
      (pss_cons (ps_if (PW.pt (pw_and (pt_cmpR op_ge (pv 2) pe_int (nomark _)) (pw_and (pt_cmpR op_eq (pe_op op_and (pv 2) pe_int) pe_int (nomark _)) (pw_and1 (pt_cmpR op_eq (pe_call G_law_draw (hr.mono (by decide)) (by rfl) T.g_law_draw T.k_law_draw b_law_draw .nil pass0 (pa_cons (pv 0) (pa_cons pe_int pa_nil))) pe_int (nomark _)))))) (pss_one (ps_ret (pe_tup (pa_cons pe_str (pa_cons (pv 2) (pa_cons pe_int pa_nil)))))) pss_nil)
      (pss_cons (ps_if (pt_cmpR op_eq (pe_op op_and (pv 2) pe_int) pe_int (nomark _)) (pss_one (ps_ret (pe_tup (pa_cons pe_str (pa_cons (pv 2) (pa_cons pe_int pa_nil)))))) pss_nil)
      (pss_one (ps_ret (pe_tup (pa_cons pe_str (pa_cons (pv 2) (pa_cons (pe_ix ix_list (pe_lst (pa_cons (pe_un un_neg pe_int) (pa_cons pe_int pa_nil))) (pe_call G_law_draw (hr.mono (by decide)) (by rfl) T.g_law_draw T.k_law_draw b_law_draw .nil pass0 (pa_cons (pv 0) (pa_cons pe_int pa_nil))) (fun _ _ => rfl)) pa_nil))))))))), ?_⟩
    refine ⟨_, rfl, _, rfl, _, _, rfl, rfl, b, c, (rc : Int) - 1, rfl, by omega, by omega, B, fun d H1 hd B1 M1 => ?_⟩
    refine ⟨_, _, rfl, rfl, ?_⟩
    have ans : ∀ (w : Nat) (g : Int) (G : Hp) (t : Addr), Bx G b c → Mut b H G → G t = none → w < 2 → (w = 1 → 4 ≤ 2 + d ∧ (2 + d) % 2 = 0 ∧ g = 0) → ((2 + d) % 2 = 1 → g = 0) → (w = 0 → (2 + d) % 2 = 0 → g = 1 ∨ g = -1) → Q (.ref t) (upd G t (.tup [.str (wE w), .int (2 + (d : Int)), .int g])) := fun w g G t BG MG ht hw r o v =>
      k t (w, 2 + (d : Int), g) _ (bx_back BG MG ht) (BG.ex (Ex.new ht)) (fun x o h1 h => Ex.new ht _ _ (MG _ _ h1 h)) upd_same ⟨hw, by show (2 : Int) ≤ 2 + (d : Int); omega, fun z => by
        obtain ⟨a1, a2, a3⟩ := r z
        exact ⟨by show (4 : Int) ≤ 2 + (d : Int); omega, by show (2 + (d : Int)) % 2 = 0; omega, a3⟩, fun z => o (by have z : (2 + (d : Int)) % 2 = 1 := z; omega), fun z1 z2 => v z1 (by have z2 : (2 + (d : Int)) % 2 = 0 := z2; omega)⟩ (by show 2 + (d : Int) ≤ (rc : Int); omega)
    have bt : Builtin.bitAnd (2 + (d : Int)) 1 = (((2 + d) % 2 : Nat) : Int) := bit1 (2 + d) (by omega)
    have pick : ∀ d2 : Nat, d2 < 2 → ∃ z : Int, [V.int (-1), V.int 1][d2]? = some (V.int z) ∧ (z = 1 ∨ z = -1) := fun d2 h => by
      match d2, h with
      | 0, _ => exact ⟨-1, rfl, .inr rfl⟩
      | 1, _ => exact ⟨1, rfl, .inl rfl⟩
    have one : ∀ G, Bx G b c → Mut b H G → (2 + d) % 2 = 1 → ∀ t, G t = none → Q (.ref t) (upd G t (.tup [.str (wE 0), .int (2 + (d : Int)), .int 0])) := fun G BG MG o t ht => ans 0 0 G t BG MG ht (by decide) (fun z => by cases z) (fun _ => rfl) (fun _ z => by omega)
    refine ⟨_, rfl, _, _, rfl, rfl, _, rfl, ?_⟩
    refine ite_b (fun c1 => ?_) (fun c1 => ?_)
    rotate_left
    · skip
      refine ⟨_, rfl, _, _, rfl, rfl, rfl, _, rfl, ?_⟩
      show if decide (V.int (Builtin.bitAnd (2 + (d : Int)) 1) = V.int 1) = true then _ else _
      rw [bt, show decide (V.int (((2 + d) % 2 : Nat) : Int) = V.int 1) = decide ((2 + d) % 2 = 1) from deq _ 1]
      refine ite_b (fun o => ?_) (fun o => ?_)
      · exact ⟨_, rfl, (by show 3 ≤ sizeLine; decide), fun t ht => one H1 B1 M1 (of_decide_eq_true o) t ht⟩
      refine ⟨_, rfl, _, rfl, (by show 2 ≤ sizeLine; decide), fun p0 hp0 => ?_⟩
      have eP := Ex.new (o := .lst [V.int (-1), V.int 1]) hp0
      have hP : upd H1 p0 (.lst [V.int (-1), V.int 1]) p0 = some (.lst [V.int (-1), V.int 1]) := upd_same
      refine ⟨_, rfl, b, c, 2, rfl, by decide, by decide, B1.ex eP, fun d2 Gx hd2 Bx_ Mx => ?_⟩
      obtain ⟨z, hz, zz⟩ := pick d2 (by omega)
      refine ⟨p0, _, _, _, rfl, rfl, SqL.of (Mx _ _ (B1.ne hp0).1 hP), atI_nat hz, (by show 3 ≤ sizeLine; decide), fun t ht => ?_⟩
      exact ans 0 z Gx t Bx_ (fun x o h1 h => Mx _ _ h1 (eP _ _ (M1 _ _ h1 h))) ht (by decide) (fun z => by cases z) (fun z => absurd z (of_decide_eq_false o)) (fun _ _ => zz)
    have c1 := of_decide_eq_true c1
    have c1 : (4 : Int) ≤ 2 + (d : Int) := c1
    refine ⟨_, rfl, _, _, rfl, rfl, rfl, _, rfl, ?_⟩
    show if decide (V.int (Builtin.bitAnd (2 + (d : Int)) 1) = V.int 0) = true then _ else _
    rw [bt, show decide (V.int (((2 + d) % 2 : Nat) : Int) = V.int 0) = decide ((2 + d) % 2 = 0) from deq _ 0]
    refine ite_b (fun c2 => ?_) (fun c2 => ?_)
    rotate_left
    · skip
      refine ⟨_, rfl, _, _, rfl, rfl, rfl, _, rfl, ?_⟩
      show if decide (V.int (Builtin.bitAnd (2 + (d : Int)) 1) = V.int 1) = true then _ else _
      rw [bt, show decide (V.int (((2 + d) % 2 : Nat) : Int) = V.int 1) = decide ((2 + d) % 2 = 1) from deq _ 1]
      refine ite_b (fun o => ?_) (fun o => ?_)
      · exact ⟨_, rfl, (by show 3 ≤ sizeLine; decide), fun t ht => one H1 B1 M1 (of_decide_eq_true o) t ht⟩
      refine ⟨_, rfl, _, rfl, (by show 2 ≤ sizeLine; decide), fun p0 hp0 => ?_⟩
      have eP := Ex.new (o := .lst [V.int (-1), V.int 1]) hp0
      have hP : upd H1 p0 (.lst [V.int (-1), V.int 1]) p0 = some (.lst [V.int (-1), V.int 1]) := upd_same
      refine ⟨_, rfl, b, c, 2, rfl, by decide, by decide, B1.ex eP, fun d2 Gx hd2 Bx_ Mx => ?_⟩
      obtain ⟨z, hz, zz⟩ := pick d2 (by omega)
      refine ⟨p0, _, _, _, rfl, rfl, SqL.of (Mx _ _ (B1.ne hp0).1 hP), atI_nat hz, (by show 3 ≤ sizeLine; decide), fun t ht => ?_⟩
      exact ans 0 z Gx t Bx_ (fun x o h1 h => Mx _ _ h1 (eP _ _ (M1 _ _ h1 h))) ht (by decide) (fun z => by cases z) (fun z => absurd z (of_decide_eq_false o)) (fun _ _ => zz)
    have c2 := of_decide_eq_true c2
    refine ⟨_, rfl, b, c, 2, rfl, by decide, by decide, B1, fun d3 H2 hd3 B2 M2 => ⟨rfl, _, rfl, ?_⟩⟩
    have M12 := M1.trans M2
    refine ite_b (fun c3 => ?_) (fun c3 => ?_)
    · exact ⟨_, rfl, (by show 3 ≤ sizeLine; decide), fun t ht => ans 1 0 H2 t B2 M12 ht (by decide) (fun _ => ⟨by omega, c2, rfl⟩) (fun _ => rfl) (fun z => by cases z)⟩
    refine ⟨_, rfl, _, _, rfl, rfl, rfl, _, rfl, ?_⟩
    show if decide (V.int (Builtin.bitAnd (2 + (d : Int)) 1) = V.int 1) = true then _ else _
    rw [bt, show decide (V.int (((2 + d) % 2 : Nat) : Int) = V.int 1) = decide ((2 + d) % 2 = 1) from deq _ 1]
    refine ite_b (fun o => ?_) (fun o => ?_)
    · exact ⟨_, rfl, (by show 3 ≤ sizeLine; decide), fun t ht => one H2 B2 M12 (of_decide_eq_true o) t ht⟩
    refine ⟨_, rfl, _, rfl, (by show 2 ≤ sizeLine; decide), fun p0 hp0 => ?_⟩
    have eP := Ex.new (o := .lst [V.int (-1), V.int 1]) hp0
    have hP : upd H2 p0 (.lst [V.int (-1), V.int 1]) p0 = some (.lst [V.int (-1), V.int 1]) := upd_same
    refine ⟨_, rfl, b, c, 2, rfl, by decide, by decide, B2.ex eP, fun d2 Gx hd2 Bx_ Mx => ?_⟩
    obtain ⟨z, hz, zz⟩ := pick d2 (by omega)
    refine ⟨p0, _, _, _, rfl, rfl, SqL.of (Mx _ _ (B2.ne hp0).1 hP), atI_nat hz, (by show 3 ≤ sizeLine; decide), fun t ht => ?_⟩
    exact ans 0 z Gx t Bx_ (fun x o h1 h => Mx _ _ h1 (eP _ _ (M12 _ _ h1 h))) ht (by decide) (fun z => by cases z) (fun z => absurd z (of_decide_eq_false o)) (fun _ _ => zz)

end

section
variable {P : Program} {w : World} {K : PySem.W.Frag} {mg : Str → Option Value} {base : Heap} {A : Ad}
theorem ok_law_strange (T : Txt K mg A)  (g_law_draw : Okd P w K mg base CX0 2 A.law_draw P_law_draw spDw) : Okd P w K mg base CX0 3 A.law_strange P_law_strange spSg := by
  obtain ⟨fd, F⟩ := T.d_law_strange
  obtain ⟨fd_law_draw, G_law_draw, b_law_draw⟩ := g_law_draw
  refine ⟨fd, F.ok sc_law_strange (fun vs H Q E h => ?_) (fun cdv A' outer s H vs Q E hr h => ?_), F.binds fun _ _ _ _ _ _ us hl => match us, hl with | [_], _ => rfl⟩
  · obtain ⟨b, c, rfl, _⟩ := h
    rfl
  · obtain ⟨b, c, rfl, B, k⟩ := h
    refine ⟨_, (pss_cons (ps_set (i := 1) sc_law_strange.nd rfl (Or.inl rfl) (pe_lst (pa_cons pe_str (pa_cons pe_str (pa_cons pe_str (pa_cons pe_str (pa_cons pe_str (pa_cons pe_str (pa_cons pe_str (pa_cons pe_str (pa_cons pe_str (pa_cons pe_str pa_nil))))))))))))
      (pss_one (ps_ret (pe_tup (pa_cons (pe_ix ix_list (pv 1) (pe_call G_law_draw (hr.mono (by decide)) (by rfl) T.g_law_draw T.k_law_draw b_law_draw .nil pass0 (pa_cons (pv 0) (pa_cons pe_int pa_nil))) (fun _ _ => rfl)) (pa_cons (pe_op op_sub (pe_call G_law_draw (hr.mono (by decide)) (by rfl) T.g_law_draw T.k_law_draw b_law_draw .nil pass0 (pa_cons (pv 0) (pa_cons pe_int pa_nil))) pe_int) (pa_cons (pe_op op_sub (pe_call G_law_draw (hr.mono (by decide)) (by rfl) T.g_law_draw T.k_law_draw b_law_draw .nil pass0 (pa_cons (pv 0) (pa_cons pe_int pa_nil))) pe_int) pa_nil))))))), ?_⟩
    refine ⟨(by show 10 ≤ sizeLine; decide), fun wl hwl => ?_⟩
    generalize hm : [V.str (Str.ofString "chain"), V.str (Str.ofString "ring"), V.str (Str.ofString "chain"), V.str (Str.ofString "ring"), V.str (Str.ofString "Chain"), V.str (Str.ofString "rings"), V.str (Str.ofString ""), V.str (Str.ofString "line"), V.str (Str.ofString "chai"), V.str (Str.ofString "ring ")] = menu
    have mi : ∀ d, d < 10 → ∃ z : Str, menu[d]? = some (V.str z) := fun d hd => by
      rw [← hm]
      match d, hd with
      | 0, _ => exact ⟨_, rfl⟩
      | 1, _ => exact ⟨_, rfl⟩
      | 2, _ => exact ⟨_, rfl⟩
      | 3, _ => exact ⟨_, rfl⟩
      | 4, _ => exact ⟨_, rfl⟩
      | 5, _ => exact ⟨_, rfl⟩
      | 6, _ => exact ⟨_, rfl⟩
      | 7, _ => exact ⟨_, rfl⟩
      | 8, _ => exact ⟨_, rfl⟩
      | 9, _ => exact ⟨_, rfl⟩
    have eM := Ex.new (o := .lst menu) hwl
    have hM : upd H wl (.lst menu) wl = some (.lst menu) := upd_same
    obtain ⟨nwb, _⟩ := B.ne hwl
    have B0 := B.ex eM
    generalize upd H wl (.lst menu) = H0 at eM hM B0 ⊢
    refine ⟨_, rfl, _, rfl, b, c, 10, rfl, by decide, by decide, B0, fun d H1 hd B1 M1 => ?_⟩
    obtain ⟨z, hz⟩ := mi d (by omega)
    refine ⟨wl, _, _, _, rfl, rfl, SqL.of (M1 _ _ nwb hM), atI_nat hz, ?_⟩
    refine ⟨_, rfl, b, c, 12, rfl, by decide, by decide, B1, fun d2 H2 hd2 B2 M2 => ⟨_, _, rfl, rfl, ?_⟩⟩
    refine ⟨_, rfl, b, c, 5, rfl, by decide, by decide, B2, fun d3 H3 hd3 B3 M3 => ⟨_, _, rfl, rfl, (by show 3 ≤ sizeLine; decide), fun t ht => ?_⟩⟩
    have MM : Mut b H H3 := fun x o h1 h => M3 _ _ h1 (M2 _ _ h1 (M1 _ _ h1 (eM _ _ h)))
    exact k t (z, (d2 : Int) - 2, (d3 : Int) - 2) _ (bx_back B3 MM ht) (B3.ex (Ex.new ht)) (fun x o h1 h => Ex.new ht _ _ (MM _ _ h1 h)) upd_same (by show -10 ≤ (d2 : Int) - 2; omega) (by show (d2 : Int) - 2 ≤ 20; omega)

end

section
variable {P : Program} {w : World} {K : PySem.W.Frag} {mg : Str → Option Value} {base : Heap} {A : Ad}
theorem ok_law_good_entry (T : Txt K mg A)   : Okd P w K mg base CX0 1 A.law_good_entry P_law_good_entry spGe := by
  obtain ⟨fd, F⟩ := T.d_law_good_entry

  refine ⟨fd, F.ok sc_law_good_entry (fun vs H Q E h => ?_) (fun cdv A' outer s H vs Q E hr h => ?_), F.binds fun _ _ _ _ _ _ us hl => match us, hl with | [_], _ => rfl⟩
  · obtain ⟨t, e, rfl, _⟩ := h
    rfl
  · obtain ⟨t, e, rfl, ht, hs, k⟩ := h
    refine ⟨_, (pss_cons (ps_asg (pv 0) (pg_tup (by rfl) (pgs_cons (pg_name (i := 1) sc_law_good_entry.nd rfl (Or.inl rfl)) (pgs_cons (pg_name (i := 2) sc_law_good_entry.nd rfl (Or.inl rfl)) (pgs_cons (pg_name (i := 3) sc_law_good_entry.nd rfl (Or.inl rfl)) pgs_nil)))))
      (pss_cons (ps_if (pt_cmpR op_eq (pv 1) pe_str (nomark _)) (pss_one (ps_ret (pe_and (pe_cmpR op_ge (pv 2) pe_int (nomark _)) (pe_and (pe_cmpR op_eq (pe_op op_and (pv 2) pe_int) pe_int (nomark _)) (pe_one (pe_cmpR op_eq (pv 3) pe_int (nomark _))))))) pss_nil)
      (pss_cons (ps_if (PW.pt (pw_or (pt_cmpR op_ne (pv 1) pe_str (nomark _)) (pw_or1 (pt_cmpR op_lt (pv 2) pe_int (nomark _))))) (pss_one (ps_ret pe_bl)) pss_nil)
      (pss_cons (ps_if (pt_cmpR op_eq (pe_op op_and (pv 2) pe_int) pe_int (nomark _)) (pss_one (ps_ret (pe_cmpR op_eq (pv 3) pe_int (nomark _)))) pss_nil)
      (pss_one (ps_ret (pe_or (pe_cmpR op_eq (pv 3) pe_int (nomark _)) (pe_one (pe_cmpR op_eq (pv 3) (pe_un un_neg pe_int) (nomark _)))))))))), ?_⟩
    have k0 := k H (Ex.refl H)
    unfold goodE at k0
    have bitA : 0 ≤ e.2.1 → Builtin.bitAnd e.2.1 1 = e.2.1 % 2 := fun h => by
      have := bit1 e.2.1.toNat (by omega)
      rw [show ((e.2.1.toNat : Nat) : Int) = e.2.1 by omega] at this
      rw [this]
      omega
    refine ⟨_, rfl, t, _, rfl, SqT.of ht, rfl, _, _, rfl, _, _, rfl, _, _, rfl, rfl, ?_⟩
    refine ⟨_, rfl, rfl, _, rfl, ?_⟩
    rw [sq_]
    refine ite_b (fun c => ?_) (fun c => ?_)
    · rw [if_pos (of_decide_eq_true c)] at k0
      refine ⟨_, rfl, _, _, rfl, rfl, _, rfl, ite_b (fun c1 => ?_) (fun c1 => ?_)⟩
      rotate_left
      · rw [c1, Bool.false_and] at k0
        exact k0
      have c1' := of_decide_eq_true c1
      rw [c1, Bool.true_and] at k0
      refine ⟨_, rfl, _, _, rfl, rfl, rfl, _, rfl, ?_⟩
      show if decide (V.int (Builtin.bitAnd e.2.1 1) = V.int 0) = true then _ else _
      rw [bitA (by omega), iq_]
      refine ite_b (fun c2 => ?_) (fun c2 => ?_)
      rotate_left
      · rw [c2, Bool.false_and] at k0
        exact k0
      rw [c2, Bool.true_and] at k0
      refine ⟨_, rfl, rfl, ?_⟩
      rw [iq_]
      exact k0
    rw [if_neg (of_decide_eq_false c)] at k0
    refine ⟨_, rfl, rfl, _, rfl, ?_⟩
    rw [sq_]
    by_cases c1 : e.1 = (Str.ofString "chain")
    rotate_left
    · rw [if_neg c1] at k0
      rw [decide_eq_false c1]
      exact iteT (iteT k0)
    rw [decide_eq_true c1]
    rw [if_pos c1] at k0
    refine iteF ?_
    refine ⟨_, rfl, _, _, rfl, rfl, _, rfl, ?_⟩
    refine ite_b (fun c2 => ?_) (fun c2 => ?_)
    · rw [if_pos (of_decide_eq_true c2)] at k0
      exact k0
    have c2' := of_decide_eq_false c2
    rw [if_neg c2'] at k0
    refine ⟨_, rfl, _, _, rfl, rfl, rfl, _, rfl, ?_⟩
    show if decide (V.int (Builtin.bitAnd e.2.1 1) = V.int 1) = true then _ else _
    rw [bitA (by omega), iq_]
    refine ite_b (fun c3 => ?_) (fun c3 => ?_)
    · have c3 := of_decide_eq_true c3
      rw [if_neg (by omega)] at k0
      refine ⟨_, rfl, rfl, ?_⟩
      rw [iq_]
      exact k0
    have c3 := of_decide_eq_false c3
    rw [if_pos (by omega)] at k0
    refine ⟨_, rfl, rfl, _, rfl, ?_⟩
    rw [iq_]
    refine ite_b (fun c4 => ?_) (fun c4 => ?_)
    · rw [c4, Bool.true_or] at k0
      exact k0
    · rw [c4, Bool.false_or] at k0
      refine ⟨_, rfl, _, rfl, rfl, ?_⟩
      show Q (V.bl (decide (V.int e.2.2 = V.int (-1)))) H
      rw [iq_]
      exact k0

end

section
variable {P : Program} {w : World} {K : PySem.W.Frag} {mg : Str → Option Value} {base : Heap} {A : Ad}
theorem adj_all {fs : List Ent} (h : ∀ m (h1 : m + 1 < fs.length), leE fs[m] fs[m + 1] = true) : fs.Pairwise fun e f => leE e f = true := by
  have go : ∀ d i (hi : i + d + 1 < fs.length), leE fs[i] fs[i + d + 1] = true := fun d => by
    induction d with
    | zero => exact fun i hi => h i hi
    | succ d ih => exact fun i hi => le_trans' (ih i (by omega)) (h (i + d + 1) (by omega))
  rw [List.pairwise_iff_getElem]
  intro i j hi hj hij
  have e := go (j - i - 1) i (by omega)
  have ej : i + (j - i - 1) + 1 = j := by omega
  simp only [ej] at e
  exact e
theorem ok_law_valid (T : Txt K mg A)  (g_law_good_entry : Okd P w K mg base CX0 1 A.law_good_entry P_law_good_entry spGe) : Okd P w K mg base CX0 2 A.law_valid P_law_valid spVd := by
  obtain ⟨fd, F⟩ := T.d_law_valid
  obtain ⟨fd_law_good_entry, G_law_good_entry, b_law_good_entry⟩ := g_law_good_entry
  refine ⟨fd, F.ok sc_law_valid (fun vs H Q E h => ?_) (fun cdv A' outer s H vs Q E hr h => ?_), F.binds fun _ _ _ _ _ _ us hl => match us, hl with | [_], _ => rfl⟩
  · obtain ⟨q, es, rfl, _⟩ := h
    rfl
  · obtain ⟨q, es, rfl, hq, hl, hs, k⟩ := h
    refine ⟨_, (pss_cons (ps_for PassesOwn.never rfl (pi_list (pv 0)) (pg_name (i := 1) sc_law_valid.nd rfl (Or.inl rfl)) (pss_one (ps_if (pt_not (pt_val (pe_call G_law_good_entry (hr.mono (by decide)) (by rfl) T.g_law_good_entry T.k_law_good_entry b_law_good_entry .nil pass0 (pa_cons (pv 1) pa_nil)))) (pss_one (ps_ret pe_bl)) pss_nil)))
      (pss_cons (ps_for PassesOwn.never rfl (pi_range2 (by rfl) T.n_range (pa_cons pe_int (pa_cons (pe_callB call_len_seq (by rfl) T.n_len PySem.boot_len (pa_cons (pv 0) pa_nil)) pa_nil))) (pg_name (i := 2) sc_law_valid.nd rfl (Or.inl rfl)) (pss_one (ps_if (pt_cmpR (DaS.op_ltD hr.units) (pe_ix ix_list (pv 0) (pv 2) (fun _ _ => rfl)) (pe_ix ix_list (pv 0) (pe_op op_sub (pv 2) pe_int) (fun _ _ => rfl)) (nomark _)) (pss_one (ps_ret pe_bl)) pss_nil)))
      (pss_one (ps_ret pe_bl)))), ?_⟩
    obtain ⟨ts, hts, tl, tat⟩ := hq
    have ln : (ts.map V.ref).length = es.length := by rw [List.length_map, tl]
    refine ⟨_, rfl, q, rfl, ⟨_, SqL.of hts⟩, for_list (K := K) (a := q) (xs := ts.map V.ref) (fun i σ G => ∃ v1 v2 : Option V, σ = [some (.ref q), v1, v2] ∧ Ex H G ∧ ∀ e ∈ es.take i, goodE e = true) ⟨none, none, rfl, Ex.refl H, fun e he => by cases he⟩ (fun i σ G _ ⟨_, _, _, e, _⟩ => SqL.of (e _ _ hts)) ?_ ?_⟩
    · rintro i x σ G hx ⟨v1, v2, rfl, e, gd⟩
      obtain ⟨t1, ht1, rfl⟩ := ref_at hx
      have il : i < es.length := by have := (List.getElem?_eq_some_iff.mp ht1).1; omega
      have he1 : es[i]? = some es[i] := List.getElem?_eq_getElem il
      refine ⟨_, rfl, t1, es[i], rfl, e _ _ (tat i _ _ ht1 he1), hs _ (List.getElem_mem il), fun G2 e2 => ⟨_, rfl, ?_⟩⟩
      cases c : goodE es[i] with
      | false => exact iteT ((k G2 (e.trans e2)).2 fun v => by have := v.1 _ (List.getElem_mem il); rw [c] at this; cases this)
      | true =>
        refine iteF ⟨_, _, rfl, e.trans e2, fun f hf => ?_⟩
        rw [List.take_add_one, he1] at hf
        rcases List.mem_append.mp hf with h | h
        · exact gd f h
        · rw [List.mem_singleton.mp h]
          exact c
    rintro σ G ⟨v1, v2, rfl, e, gd⟩
    rw [ln, List.take_length] at gd
    have fl : (es.map frG).length = es.length := List.length_map ..
    have fat : ∀ (i : Nat) (t : Addr) (f : Ent), ts[i]? = some t → (es.map frG)[i]? = some f → EntAt H t f := fun i t f a b => by
      rw [List.getElem?_map] at b
      cases z : es[i]? with
      | none => rw [z] at b; cases b
      | some e =>
        rw [z] at b
        rw [← Option.some.inj b]
        exact gen_ent (gd e (List.mem_of_getElem? z)) (tat i t e a z)
    have w2 : ∀ f ∈ es.map frG, f.1 < 2 := fun f hf => by
      obtain ⟨e, _, rfl⟩ := List.mem_map.mp hf
      exact frG_lt e
    have kk : ∀ H', Ex H H' → ((es.map frG).Pairwise (fun e f => leE e f = true) → Q (.bl true) H') ∧ (¬ (es.map frG).Pairwise (fun e f => leE e f = true) → Q (.bl false) H') := fun H' e' => ⟨fun p => (k H' e').1 ⟨gd, p⟩, fun p => (k H' e').2 fun v => p v.2⟩
    clear k
    generalize es.map frG = fs at fl fat w2 kk
    have htsG := e _ _ hts
    refine ⟨_, rfl, q, _, rfl, .inl (SqL.of htsG), 1, _, rfl, ⟨by decide, by decide, by rw [ln]; omega, by rw [ln]; omega⟩, ?_⟩
    rw [ln, show (((es.length : Nat) : Int) - 1).toNat = es.length - 1 by omega]
    refine for_range (lo := 1) (n := es.length - 1) (fun i σ G => ∃ v1 v2 : Option V, σ = [some (.ref q), v1, v2] ∧ Ex H G ∧ ∀ m, m < i → ∀ (h1 : m + 1 < fs.length), leE fs[m] fs[m + 1] = true) ⟨v1, v2, rfl, e, fun m hm => absurd hm (Nat.not_lt_zero _)⟩ ?_ ?_
    · rintro i σ G hi ⟨v1, v2, rfl, e, ad⟩
      rw [show (1 : Int) + (i : Int) = ((i + 1 : Nat) : Int) by omega]
      have a1 : ts[i + 1]? = some ts[i + 1] := List.getElem?_eq_getElem (by omega)
      have a0 : ts[i]? = some ts[i] := List.getElem?_eq_getElem (by omega)
      have f1 : fs[i + 1]? = some fs[i + 1] := List.getElem?_eq_getElem (by omega)
      have f0 : fs[i]? = some fs[i] := List.getElem?_eq_getElem (by omega)
      have E1 := e _ _ (fat _ _ _ a1 f1)
      have E0 := e _ _ (fat _ _ _ a0 f0)
      have W1 := w2 _ (List.getElem_mem (show i + 1 < fs.length by omega))
      have W0 := w2 _ (List.getElem_mem (show i < fs.length by omega))
      refine ⟨_, rfl, _, rfl, q, _, _, _, rfl, rfl, SqL.of (e _ _ hts), atR a1, _, rfl, _, rfl, _, _, rfl, rfl, q, _, _, _, rfl, rfl, SqL.of (e _ _ hts), (show atI (ts.map V.ref) (((i + 1 : Nat) : Int) - 1) = some (V.ref ts[i]) from by rw [show ((i + 1 : Nat) : Int) - 1 = (i : Int) by omega]; exact atR a0), encE fs[i + 1], encE fs[i], ⟨dp_ent E1, dp_ent E0, alike_ent _ _, (fun h => by cases h), Nat.le_trans (depth_ent _) (by decide)⟩, _, rfl, ?_⟩
      rw [data_lt W1 W0]
      have ll : leE fs[i] fs[i + 1] = !ltE fs[i + 1] fs[i] := le_lt
      refine ite_b (fun c => ?_) (fun c => ?_)
      · rw [c] at ll
        refine (kk G e).2 fun pw => ?_
        have := List.pairwise_iff_getElem.mp pw i (i + 1) (by omega) (by omega) (by omega)
        rw [ll] at this
        cases this
      · rw [c] at ll
        refine ⟨_, _, rfl, e, fun m hm h1 => ?_⟩
        by_cases z : m = i
        · subst z
          exact ll
        · exact ad m (by omega) h1
    · rintro σ G ⟨v1, v2, rfl, e, ad⟩
      exact (kk G e).1 (adj_all fun m h1 => ad m (by omega) h1)

end

section
variable {P : Program} {w : World} {K : PySem.W.Frag} {mg : Str → Option Value} {base : Heap} {A : Ad}
theorem ok_law_reversed (T : Txt K mg A)  (g_law_ascending : Okd P w K mg base CX0 1 A.law_ascending P_law_ascending spAsc) : Okd P w K mg base CX0 2 A.law_reversed P_law_reversed spRv := by
  obtain ⟨fd, F⟩ := T.d_law_reversed
  obtain ⟨fd_law_ascending, G_law_ascending, b_law_ascending⟩ := g_law_ascending
  refine ⟨fd, F.ok sc_law_reversed (fun vs H Q E h => ?_) (fun cdv A' outer s H vs Q E hr h => ?_), F.binds fun _ _ _ _ _ _ us hl => match us, hl with | [_], _ => rfl⟩
  · obtain ⟨q, fs, rfl, _⟩ := h
    rfl
  · obtain ⟨q, fs, rfl, hq, hl, h2, k⟩ := h
    refine ⟨_, (pss_one (ps_ret (pe_call G_law_ascending (hr.mono (by decide)) (by rfl) T.g_law_ascending T.k_law_ascending b_law_ascending .nil pass0 (pa_cons (pe_lc (own := [("word", 3), ("length", 2), ("gain", 1)]) (g := gTup K 3 (gCons (gName 3) (gCons (gName 2) (gCons (gName 1) gNil)))) (tt := tYes) (by rfl) sc_law_reversed.nd (pi_list (pv 0)) (blkOk_by (own := [("word", 3), ("length", 2), ("gain", 1)]) (N := N_law_reversed) (sc := defScope s_law_reversed) (by decide +kernel)) (fun _ _ _ _ _ => (pg_tup (by rfl) (pgs_cons (pg_name (i := 3) sc_law_reversed.nd rfl (Or.inl rfl)) (pgs_cons (pg_name (i := 2) sc_law_reversed.nd rfl (Or.inl rfl)) (pgs_cons (pg_name (i := 1) sc_law_reversed.nd rfl (Or.inl rfl)) pgs_nil))))) (fun _ _ _ _ _ => pts_nil) (fun _ _ _ _ _ => (pe_tup (pa_cons (pv 3) (pa_cons (pv 2) (pa_cons (pe_op op_sub pe_int (pv 1)) pa_nil)))))) pa_nil)))), ?_⟩
    obtain ⟨ts, hts, tl, tat⟩ := hq
    refine ⟨_, rfl, q, rfl, ⟨_, SqL.of hts⟩, fun D hD => ?_⟩
    refine lc_list (K := K) (a := q) (xs := ts.map V.ref) (fun j G => Ex H G ∧ EntsAt G D ((fs.take j).map revE)) ⟨Ex.new hD, [], upd_same, rfl, fun i t e z => by cases z⟩ (fun j G _ q => SqL.of (q.1 _ _ hts)) ?_ ?_
    · rintro j x G hx ⟨e, us, hus, ul, uat⟩
      obtain ⟨t1, ht1, rfl⟩ := ref_at hx
      have jl : j < fs.length := by have := (List.getElem?_eq_some_iff.mp ht1).1; omega
      have hf1 : fs[j]? = some fs[j] := List.getElem?_eq_getElem jl
      have E1 := (tat j _ _ ht1 hf1)
      have ej : (fs.take (j + 1)).map revE = (fs.take j).map revE ++ [revE fs[j]] := by
        rw [List.take_add_one, hf1, List.map_append]
        rfl
      rw [ej]
      have ul2 : us.length ≤ 70 := by rw [ul, List.length_map, List.length_take]; omega
      generalize (fs.take j).map revE = gs at ul uat ⊢
      generalize fs[j] = f at E1 ⊢
      have EG := e _ _ E1
      refine ⟨t1, _, rfl, SqT.of EG, rfl, _, _, rfl, _, _, rfl, _, _, rfl, rfl, rfl, ?_⟩
      refine ⟨_, rfl, _, rfl, _, rfl, _, _, rfl, rfl, (by show 3 ≤ sizeLine; decide), fun t ht => ?_⟩
      have eT := Ex.new (o := .tup [V.str (wE f.1), V.int f.2.1, V.int (0 - f.2.2)]) ht
      have hT : upd G t (.tup [V.str (wE f.1), V.int f.2.1, V.int (0 - f.2.2)]) t = some (.tup [V.str (wE f.1), V.int f.2.1, V.int (0 - f.2.2)]) := upd_same
      generalize upd G t (.tup [V.str (wE f.1), V.int f.2.1, V.int (0 - f.2.2)]) = G3 at eT hT ⊢
      rw [Int.zero_sub] at hT
      have husT := eT _ _ hus
      have nD : ∀ x o, G3 x = some (.tup o) → upd G3 D (.lst (us.map V.ref ++ [V.ref t])) x = some (.tup o) := fun x o h => by
        rw [upd_ne (fun z => by rw [z, husT] at h; cases h)]
        exact h
      refine ⟨_, husT, small1000 (by rw [List.length_map]; omega), fun x o ho => ?_, us ++ [t], ?_, ?_, app_at ul (fun i t' e' a b => nD _ _ (eT _ _ (uat i t' e' a b))) (nD _ _ hT)⟩
      · rw [upd_ne (ne_of_none ho hD)]
        exact eT _ _ (e _ _ ho)
      · rw [upd_same, List.map_append]
        rfl
      · rw [List.length_append, List.length_append, ul]
        rfl
    rintro G1 ⟨e2, us, hus, ul, uat⟩
    have ltr : (ts.map V.ref).length = fs.length := by rw [List.length_map]; omega
    rw [ltr, List.take_length] at ul uat
    refine ⟨D, fs.map revE, rfl, ⟨us, hus, ul, uat⟩, by rw [List.length_map]; omega, fun e he => ?_, fun d gs H' hd e EA pm pw => k d gs H' (back_none e2 hd) (e2.trans e) EA pm pw⟩
    obtain ⟨f, hf, rfl⟩ := List.mem_map.mp he
    exact h2 f hf

end

section
variable {P : Program} {w : World} {K : PySem.W.Frag} {mg : Str → Option Value} {base : Heap} {A : Ad}
theorem ok_law_sample_due (T : Txt K mg A)   : Okd P w K mg base CX0 1 A.law_sample_due P_law_sample_due spSd := by
  obtain ⟨fd, F⟩ := T.d_law_sample_due

  refine ⟨fd, F.ok sc_law_sample_due (fun vs H Q E h => ?_) (fun cdv A' outer s H vs Q E hr h => ?_), F.binds fun _ _ _ _ _ _ us hl => match us, hl with | [_], _ => rfl⟩
  · obtain ⟨q, fs, rfl, _⟩ := h
    rfl
  · obtain ⟨q, fs, rfl, hq, gd, tot, k⟩ := h
    refine ⟨_, (pss_cons (ps_set (i := 1) sc_law_sample_due.nd rfl (Or.inl rfl) (pe_lst pa_nil))
      (pss_cons (ps_set (i := 2) sc_law_sample_due.nd rfl (Or.inl rfl) (pe_lst pa_nil))
      (pss_cons (ps_for PassesOwn.never rfl (pi_list (pv 0)) (pg_tup (by rfl) (pgs_cons (pg_name (i := 3) sc_law_sample_due.nd rfl (Or.inl rfl)) (pgs_cons (pg_name (i := 4) sc_law_sample_due.nd rfl (Or.inl rfl)) (pgs_cons (pg_name (i := 5) sc_law_sample_due.nd rfl (Or.inl rfl)) pgs_nil)))) (pss_cons (ps_set (i := 6) sc_law_sample_due.nd rfl (Or.inl rfl) (pe_callB call_len_seq (by rfl) T.n_len PySem.boot_len (pa_cons (pv 1) pa_nil)))
      (pss_cons (ps_set (i := 7) sc_law_sample_due.nd rfl (Or.inl rfl) (pe_lst (pa_cons (pe_listRg (by rfl) (by rfl) T.n_list (prg_2 (by rfl) T.n_range (pv 6) (pe_op op_add (pv 6) (pv 4)))) (pa_cons (pe_listRg (by rfl) (by rfl) T.n_list (prg_2 (by rfl) T.n_range (pv 6) (pe_op op_add (pv 6) (pv 4)))) pa_nil))))
      (pss_cons (ps_for PassesOwn.never rfl (pi_range1 (by rfl) T.n_range (pa_cons (pe_op op_sub (pv 4) pe_int) pa_nil)) (pg_name (i := 8) sc_law_sample_due.nd rfl (Or.inl rfl)) (pss_cons (ps_set (i := 9) sc_law_sample_due.nd rfl (Or.inl rfl) (pe_ix ix_list (pv 7) (pe_op op_and (pv 8) pe_int) (fun _ _ => rfl)))
      (pss_cons (ps_asg (pe_op op_add (pe_op op_add (pv 6) (pv 8)) pe_int) (pg_sub (pv 9) (pv 8) set_list))
      (pss_one (ps_asg (pe_op op_add (pv 6) (pv 8)) (pg_sub (pv 9) (pe_op op_add (pv 8) pe_int) set_list))))))
      (pss_cut (ps_if (pt_cmpR op_eq (pv 3) pe_str (nomark _)) (pss_cons (ps_set (i := 9) sc_law_sample_due.nd rfl (Or.inl rfl) (pe_ix ix_list (pv 7) pe_int (fun _ _ => rfl)))
      (pss_cons (ps_asg (pv 6) (pg_sub (pv 9) (pe_op op_sub (pv 4) pe_int) set_list))
      (pss_one (ps_asg (pe_op op_sub (pe_op op_add (pv 6) (pv 4)) pe_int) (pg_sub (pv 9) pe_int set_list))))) pss_nil)
      (pss_cut (ps_if (pt_cmpR op_eq (pv 5) pe_int (nomark _)) (pss_one (ps_set (i := 7) sc_law_sample_due.nd rfl (Or.inl rfl) (StK.pe_back (pv 7) (pe_un un_neg pe_int)))) pss_nil)
      (pss_cons (ps_set (i := 1) sc_law_sample_due.nd rfl (Or.inl rfl) (pe_op op_cat (pv 1) (pe_ix ix_list (pv 7) pe_int (fun _ _ => rfl))))
      (pss_one (ps_set (i := 2) sc_law_sample_due.nd rfl (Or.inl rfl) (pe_op op_cat (pv 2) (pe_ix ix_list (pv 7) pe_int (fun _ _ => rfl))))))))))))
      (pss_one (ps_ret (pe_lst (pa_cons (pv 1) (pa_cons (pv 2) pa_nil)))))))), ?_⟩
    obtain ⟨ts, hts, tl, tat⟩ := hq
    refine ⟨(by show 0 ≤ sizeLine; decide), fun o0 ho0 => ?_⟩
    have lo0 : ListN (upd H o0 (.lst [])) o0 [] := upd_same
    have E1 := Ex.new (o := .lst []) ho0
    generalize upd H o0 (.lst []) = H1 at lo0 E1 ⊢
    refine ⟨(by show 0 ≤ sizeLine; decide), fun n0 hn0 => ?_⟩
    have ln0 : ListN (upd H1 n0 (.lst [])) n0 [] := upd_same
    have lo1 := lo0.ex (Ex.new (o := .lst []) hn0)
    have E2 := E1.trans (Ex.new (o := .lst []) hn0)
    generalize upd H1 n0 (.lst []) = H2 at ln0 lo1 E2 ⊢
    have hts2 := E2 _ _ hts
    refine ⟨_, rfl, q, rfl, ⟨_, SqL.of hts2⟩, for_list (K := K) (a := q) (xs := ts.map V.ref) (fun j σ G => ∃ (o1 n1 : Addr) (v3 v4 v5 v6 v7 v8 v9 : Option V), σ = [some (.ref q), some (.ref o1), some (.ref n1), v3, v4, v5, v6, v7, v8, v9] ∧ Ex H G ∧ ListN G o1 (rowG 0 0 (fs.take j)) ∧ ListN G n1 (rowG 1 0 (fs.take j))) ⟨o0, n0, none, none, none, none, none, none, none, rfl, E2, lo1, ln0⟩ (fun j σ G _ ⟨_, _, _, _, _, _, _, _, _, _, e, _⟩ => SqL.of (e _ _ hts)) ?_ ?_⟩
    · rintro j x σ G hx ⟨o1, n1, v3, v4, v5, v6, v7, v8, v9, rfl, eG, lo, ln⟩
      obtain ⟨t1, ht1, rfl⟩ := ref_at hx
      have jl : j < fs.length := by have := (List.getElem?_eq_some_iff.mp ht1).1; omega
      have hf1 : fs[j]? = some fs[j] := List.getElem?_eq_getElem jl
      have Et := tat j _ _ ht1 hf1
      have gf := gd _ (List.getElem_mem jl)
      have tk : fs.take (j + 1) = fs.take j ++ [fs[j]] := by rw [List.take_add_one, hf1]; rfl
      have sm : totG (fs.take j) + nG fs[j] ≤ totG fs := by
        have e : totG fs = totG (fs.take (j + 1)) + totG (fs.drop (j + 1)) := by rw [← totG_app, List.take_append_drop]
        rw [e, tk, totG_app]
        show _ ≤ totG (fs.take j) + (nG fs[j] + 0) + _
        omega
      have l0 : (rowG 0 0 (fs.take j)).length = totG (fs.take j) := rowG_len
      have l1 : (rowG 1 0 (fs.take j)).length = totG (fs.take j) := rowG_len
      rw [tk, rowG_snoc, rowG_snoc, Nat.zero_add]
      obtain ⟨q0, q1⟩ := blk_eq (st := totG (fs.take j)) gf
      rw [q0, q1]
      generalize rowG 0 0 (fs.take j) = R0 at lo l0 ⊢
      generalize rowG 1 0 (fs.take j) = R1 at ln l1 ⊢
      generalize totG (fs.take j) = st at l0 l1 sm ⊢
      generalize fs[j] = f at Et gf sm ⊢
      have fn := gf.n2
      have hn : f.2.1 = ((nG f : Nat) : Int) := by unfold nG; omega
      have n2 : 2 ≤ nG f := by omega
      have fl1 : (fstG st f).length = nG f := mp_len
      have fl2 : (secG st f).length = nG f := by unfold secG; split <;> exact mp_len
      have EG := eG _ _ Et
      rw [show EntAt H t1 f = (H t1 = some (.tup [.str (wE f.1), .int f.2.1, .int f.2.2])) from rfl] at Et
      have EG : G t1 = some (.tup [.str (wE f.1), .int f.2.1, .int f.2.2]) := EG
      rw [hn] at EG
      refine ⟨t1, _, rfl, SqT.of EG, rfl, _, _, rfl, _, _, rfl, _, _, rfl, rfl, ?_⟩
      refine ⟨_, rfl, o1, _, rfl, .inl lo.sz, ?_⟩
      rw [nI_len, l0]
      unfold fstG secG at *
      generalize hN : nG f = n at hn n2 fl1 fl2 sm ⊢
      refine ⟨_, rfl, _, rfl, _, rfl, _, _, rfl, rfl, _, _, rfl, rfl, RgOk.of_le (by omega) (by omega) (by omega) (by omega), fun x hx => ?_⟩
      rw [rg_mp]
      have lx : ListN (upd G x (.lst (nI (mp (fun j => st + j) n)))) x (mp (fun j => st + j) n) := upd_same
      have ex1 := Ex.new (o := .lst (nI (mp (fun j => st + j) n))) hx
      generalize upd G x (.lst (nI (mp (fun j => st + j) n))) = G1 at lx ex1 ⊢
      refine ⟨_, rfl, _, rfl, _, rfl, _, _, rfl, rfl, _, _, rfl, rfl, RgOk.of_le (by omega) (by omega) (by omega) (by omega), fun y hy => ?_⟩
      rw [rg_mp]
      have ly : ListN (upd G1 y (.lst (nI (mp (fun j => st + j) n)))) y (mp (fun j => st + j) n) := upd_same
      have ex2 := Ex.new (o := .lst (nI (mp (fun j => st + j) n))) hy
      have nxy : x ≠ y := ne_of_none (show G1 x = some _ from lx) hy
      have lx := lx.ex ex2
      have ex2 := ex1.trans ex2
      generalize upd G1 y (.lst (nI (mp (fun j => st + j) n))) = G2 at lx ly ex2 ⊢
      refine ⟨(by show 2 ≤ sizeLine; decide), fun rw_ hrw => ?_⟩
      have nrx : rw_ ≠ x := fun z => by have h : G2 x = some _ := lx; rw [← z, hrw] at h; cases h
      have nry : rw_ ≠ y := fun z => by have h : G2 y = some _ := ly; rw [← z, hrw] at h; cases h
      have ex3 := Ex.new (o := .lst [V.ref x, V.ref y]) hrw
      have lr : upd G2 rw_ (.lst [V.ref x, V.ref y]) rw_ = some (.lst [V.ref x, V.ref y]) := upd_same
      have lx := lx.ex ex3
      have ly := ly.ex ex3
      have ex3 := ex2.trans ex3
      have fy : G y = none := back_none ex1 hy
      generalize upd G2 rw_ (.lst [V.ref x, V.ref y]) = G3 at lx ly lr ex3 ⊢
      refine ⟨_, rfl, _, _, rfl, rfl, _, rfl, by omega, by omega, ?_⟩
      rw [show ((n : Int) - 1).toNat = n - 1 by omega]
      refine for_range (lo := 0) (n := n - 1) (fun m σ G4 => ∃ v8 v9 : Option V, σ = [some (.ref q), some (.ref o1), some (.ref n1), some (.str (wE f.1)), some (.int (n : Int)), some (.int f.2.2), some (.int (st : Int)), some (.ref rw_), v8, v9] ∧ (∀ z o, z ≠ x → z ≠ y → G3 z = some o → G4 z = some o) ∧ ListN G4 x (mp (fun j => st + stp 0 0 m j) n) ∧ ListN G4 y (mp (fun j => st + stp 1 0 m j) n)) ⟨v8, v9, rfl, fun _ _ _ _ h => h, ?_, ?_⟩ ?_ ?_
      · rw [show mp (fun j => st + stp 0 0 0 j) n = mp (fun j => st + j) n from mp_congr fun j _ => by rw [stp_zero]]
        exact lx
      · rw [show mp (fun j => st + stp 1 0 0 j) n = mp (fun j => st + j) n from mp_congr fun j _ => by rw [stp_zero]]
        exact ly
      · clear lx ly
        rintro m σ G4 hm ⟨v8, v9, rfl, K4, lx, ly⟩
        rw [Int.zero_add]
        have hr4 := K4 _ _ nrx nry lr
        have bt : Builtin.bitAnd (m : Int) 1 = ((m % 2 : Nat) : Int) := bit1 m (by omega)
        have par : m % 2 = 0 ∨ m % 2 = 1 := by omega
        rcases par with par | par
        · rw [par] at bt
          refine ⟨_, rfl, _, rfl, _, _, rfl, rfl, rw_, _, _, _, rfl, rfl, SqL.of hr4, (show atI [V.ref x, V.ref y] (Builtin.bitAnd (m : Int) 1) = some (V.ref x) from by rw [bt]; exact atI_nat rfl), ?_⟩
          refine ⟨_, rfl, _, rfl, _, _, rfl, rfl, _, _, rfl, rfl, _, rfl, _, rfl, x, _, _, m, rfl, rfl, lx, Evl.ixN_nat (by rw [nI_len, mp_len]; omega), ?_⟩
          rw [set_at (w := st + m + 1), mp_set]
          rotate_left
          · rfl
          have l1 : ListN (upd G4 x (.lst (nI (mp (fun j => if j = m then st + m + 1 else st + stp 0 0 m j) n)))) x (mp (fun j => if j = m then st + m + 1 else st + stp 0 0 m j) n) := upd_same
          have k1 : ∀ z o, z ≠ x → G4 z = some o → upd G4 x (.lst (nI (mp (fun j => if j = m then st + m + 1 else st + stp 0 0 m j) n))) z = some o := fun z o h1 h => by rw [upd_ne h1]; exact h
          generalize upd G4 x (.lst (nI (mp (fun j => if j = m then st + m + 1 else st + stp 0 0 m j) n))) = G5 at l1 k1 ⊢
          refine ⟨_, rfl, _, rfl, _, _, rfl, rfl, _, rfl, _, rfl, _, _, rfl, rfl, x, _, _, m + 1, rfl, rfl, l1, Evl.ixN_nat (by rw [nI_len, mp_len]; exact Nat.add_lt_of_lt_sub hm), ?_⟩
          rw [set_at (w := st + m), mp_set]
          rotate_left
          · rfl
          have k2 : ∀ z o, z ≠ x → G4 z = some o → upd G5 x (.lst (nI (mp (fun j => if j = m + 1 then st + m else if j = m then st + m + 1 else st + stp 0 0 m j) n))) z = some o := fun z o h1 h => by rw [upd_ne h1]; exact k1 z o h1 h
          have l2 : ListN (upd G5 x (.lst (nI (mp (fun j => if j = m + 1 then st + m else if j = m then st + m + 1 else st + stp 0 0 m j) n)))) x (mp (fun j => st + stp 0 0 (m + 1) j) n) := by
            show upd _ _ _ _ = _
            rw [upd_same]
            exact congrArg (fun l => some (HO.lst (nI l))) (mp_congr fun j hj => by
              rw [stp_go (r := 0) (s := 0) (k := m) (by omega)]
              split
              · rfl
              · split <;> rfl)
          refine ⟨_, _, rfl, fun z o h1 h2 h => k2 _ _ h1 (K4 z o h1 h2 h), l2, ?_⟩
          rw [show mp (fun j => st + stp 1 0 (m + 1) j) n = mp (fun j => st + stp 1 0 m j) n from mp_congr fun j _ => by rw [stp_same (r := 1) (s := 0) (k := m) (by decide) (by omega)]]
          exact k2 _ _ (Ne.symm nxy) ly
        · rw [par] at bt
          refine ⟨_, rfl, _, rfl, _, _, rfl, rfl, rw_, _, _, _, rfl, rfl, SqL.of hr4, (show atI [V.ref x, V.ref y] (Builtin.bitAnd (m : Int) 1) = some (V.ref y) from by rw [bt]; exact atI_nat rfl), ?_⟩
          refine ⟨_, rfl, _, rfl, _, _, rfl, rfl, _, _, rfl, rfl, _, rfl, _, rfl, y, _, _, m, rfl, rfl, ly, Evl.ixN_nat (by rw [nI_len, mp_len]; omega), ?_⟩
          rw [set_at (w := st + m + 1), mp_set]
          rotate_left
          · rfl
          have l1 : ListN (upd G4 y (.lst (nI (mp (fun j => if j = m then st + m + 1 else st + stp 1 0 m j) n)))) y (mp (fun j => if j = m then st + m + 1 else st + stp 1 0 m j) n) := upd_same
          have k1 : ∀ z o, z ≠ y → G4 z = some o → upd G4 y (.lst (nI (mp (fun j => if j = m then st + m + 1 else st + stp 1 0 m j) n))) z = some o := fun z o h1 h => by rw [upd_ne h1]; exact h
          generalize upd G4 y (.lst (nI (mp (fun j => if j = m then st + m + 1 else st + stp 1 0 m j) n))) = G5 at l1 k1 ⊢
          refine ⟨_, rfl, _, rfl, _, _, rfl, rfl, _, rfl, _, rfl, _, _, rfl, rfl, y, _, _, m + 1, rfl, rfl, l1, Evl.ixN_nat (by rw [nI_len, mp_len]; exact Nat.add_lt_of_lt_sub hm), ?_⟩
          rw [set_at (w := st + m), mp_set]
          rotate_left
          · rfl
          have k2 : ∀ z o, z ≠ y → G4 z = some o → upd G5 y (.lst (nI (mp (fun j => if j = m + 1 then st + m else if j = m then st + m + 1 else st + stp 1 0 m j) n))) z = some o := fun z o h1 h => by rw [upd_ne h1]; exact k1 z o h1 h
          have l2 : ListN (upd G5 y (.lst (nI (mp (fun j => if j = m + 1 then st + m else if j = m then st + m + 1 else st + stp 1 0 m j) n)))) y (mp (fun j => st + stp 1 0 (m + 1) j) n) := by
            show upd _ _ _ _ = _
            rw [upd_same]
            exact congrArg (fun l => some (HO.lst (nI l))) (mp_congr fun j hj => by
              rw [stp_go (r := 1) (s := 0) (k := m) (by omega)]
              split
              · rfl
              · split <;> rfl)
          refine ⟨_, _, rfl, fun z o h1 h2 h => k2 _ _ h2 (K4 z o h1 h2 h), ?_, l2⟩
          rw [show mp (fun j => st + stp 0 0 (m + 1) j) n = mp (fun j => st + stp 0 0 m j) n from mp_congr fun j _ => by rw [stp_same (r := 0) (s := 0) (k := m) (by decide) (by omega)]]
          exact k2 _ _ nxy lx
      clear lx ly
      rintro σ G4 ⟨v8, v9, rfl, K4, lx, ly⟩
      have eGG : Ex G G4 := fun z o h => K4 _ _ (ne_of_none h hx) (ne_of_none h fy) (ex3 _ _ h)
      have hr4 := K4 _ _ nrx nry lr
      have lS : (if f.1 = 1 then mp (fun j => if j = n - 1 then st else if j = 0 then st + n - 1 else st + stp 1 0 (n - 1) j) n else mp (fun j => st + stp 1 0 (n - 1) j) n).length = n := by split <;> exact mp_len
      have lF : (mp (fun j => st + stp 0 0 (n - 1) j) n).length = n := mp_len
      refine ⟨fun σ G5 => ∃ v8 v9 : Option V, σ = [some (.ref q), some (.ref o1), some (.ref n1), some (.str (wE f.1)), some (.int (n : Int)), some (.int f.2.2), some (.int (st : Int)), some (.ref rw_), v8, v9] ∧ Ex G G5 ∧ G5 rw_ = some (.lst [V.ref x, V.ref y]) ∧ ListN G5 x (mp (fun j => st + stp 0 0 (n - 1) j) n) ∧ ListN G5 y (if f.1 = 1 then mp (fun j => if j = n - 1 then st else if j = 0 then st + n - 1 else st + stp 1 0 (n - 1) j) n else mp (fun j => st + stp 1 0 (n - 1) j) n), ?_, ?_⟩
      · refine ⟨_, rfl, rfl, _, rfl, ?_⟩
        rw [sq_]
        refine ite_b (fun c => ?_) (fun c => ?_)
        rotate_left
        · have nr : ¬ f.1 = 1 := fun z => by rw [z] at c; exact absurd rfl (of_decide_eq_false c)
          refine ⟨_, _, rfl, eGG, hr4, lx, ?_⟩
          rw [if_neg nr]
          exact ly
        have isr : f.1 = 1 := by
          have gw := gf.w
          by_cases z : f.1 = 0
          · rw [z] at c
            exact absurd (of_decide_eq_true c) (by decide +kernel)
          · omega
        obtain ⟨n4, _, _⟩ := gf.ring isr
        rw [if_pos isr]
        refine ⟨_, rfl, rw_, _, _, _, rfl, rfl, SqL.of hr4, atI_nat (j := 1) rfl, ?_⟩
        refine ⟨_, rfl, _, rfl, _, rfl, _, _, rfl, rfl, y, _, _, n - 1, rfl, rfl, ly, (by rw [nI_len, mp_len, show ((n : Int) - 1) = ((n - 1 : Nat) : Int) by omega]; exact Evl.ixN_nat (by omega)), ?_⟩
        rw [set_at (w := st), mp_set]
        rotate_left
        · rfl
        have l3 : ListN (upd G4 y (.lst (nI (mp (fun j => if j = n - 1 then st else st + stp 1 0 (n - 1) j) n)))) y (mp (fun j => if j = n - 1 then st else st + stp 1 0 (n - 1) j) n) := upd_same
        have k3 : ∀ z o, z ≠ y → G4 z = some o → upd G4 y (.lst (nI (mp (fun j => if j = n - 1 then st else st + stp 1 0 (n - 1) j) n))) z = some o := fun z o h1 h => by rw [upd_ne h1]; exact h
        generalize upd G4 y (.lst (nI (mp (fun j => if j = n - 1 then st else st + stp 1 0 (n - 1) j) n))) = G5 at l3 k3 ⊢
        refine ⟨_, rfl, _, rfl, _, _, rfl, rfl, _, _, rfl, rfl, _, rfl, y, _, _, 0, rfl, rfl, l3, (by rw [nI_len, mp_len]; exact Evl.ixN_nat (j := 0) (by omega)), ?_⟩
        rw [set_at (w := st + n - 1), mp_set]
        rotate_left
        · show V.int ((st : Int) + (n : Int) - 1) = V.int ((st + n - 1 : Nat) : Int)
          exact congrArg V.int (by omega)
        have k4 : ∀ z o, z ≠ y → G4 z = some o → upd G5 y (.lst (nI (mp (fun j => if j = 0 then st + n - 1 else if j = n - 1 then st else st + stp 1 0 (n - 1) j) n))) z = some o := fun z o h1 h => by rw [upd_ne h1]; exact k3 z o h1 h
        refine ⟨_, _, rfl, fun z o h => k4 _ _ (ne_of_none h fy) (eGG _ _ h), k4 _ _ nry hr4, k4 _ _ nxy lx, ?_⟩
        show upd _ _ _ _ = _
        rw [upd_same]
        exact congrArg (fun l => some (HO.lst (nI l))) (mp_congr fun j hj => by
          by_cases a : j = 0
          · rw [if_pos a, if_neg (by omega), if_pos a]
          · rw [if_neg a]
            split
            · rfl
            · rfl)
      clear lx ly hr4 eGG K4 v8 v9 G4
      rintro σ G5 ⟨v8, v9, rfl, e5, hr5, lx, ly⟩
      generalize (if f.1 = 1 then mp (fun j => if j = n - 1 then st else if j = 0 then st + n - 1 else st + stp 1 0 (n - 1) j) n else mp (fun j => st + stp 1 0 (n - 1) j) n) = SS at ly lS ⊢
      generalize mp (fun j => st + stp 0 0 (n - 1) j) n = FF at lx lF ⊢
      refine ⟨fun σ G6 => ∃ (r2 X Y : Addr) (v8 v9 : Option V), σ = [some (.ref q), some (.ref o1), some (.ref n1), some (.str (wE f.1)), some (.int (n : Int)), some (.int f.2.2), some (.int (st : Int)), some (.ref r2), v8, v9] ∧ Ex G G6 ∧ G6 r2 = some (.lst [V.ref X, V.ref Y]) ∧ ListN G6 X (if f.2.2 = 1 then SS else FF) ∧ ListN G6 Y (if f.2.2 = 1 then FF else SS), ?_, ?_⟩
      · refine ⟨_, rfl, rfl, _, rfl, ?_⟩
        rw [iq_]
        refine ite_b (fun c => ?_) (fun c => ?_)
        · rw [if_pos (of_decide_eq_true c), if_pos (of_decide_eq_true c)]
          refine ⟨_, rfl, _, rfl, rfl, rw_, _, rfl, SqL.of hr5, fun r2 hr2 => ?_⟩
          have e6 := Ex.new (o := .lst [V.ref y, V.ref x]) hr2
          exact ⟨r2, y, x, _, _, rfl, e5.trans e6, upd_same, ly.ex e6, lx.ex e6⟩
        · rw [if_neg (of_decide_eq_false c), if_neg (of_decide_eq_false c)]
          exact ⟨rw_, x, y, _, _, rfl, e5, hr5, lx, ly⟩
      rintro σ G6 ⟨r2, X, Y, v8, v9, rfl, e6, hr6, lX, lY⟩
      have LX : (if f.2.2 = 1 then SS else FF).length = n := by split <;> assumption
      have LY : (if f.2.2 = 1 then FF else SS).length = n := by split <;> assumption
      generalize (if f.2.2 = 1 then SS else FF) = XX at lX LX ⊢
      generalize (if f.2.2 = 1 then FF else SS) = YY at lY LY ⊢
      refine ⟨_, rfl, _, rfl, r2, _, _, _, rfl, rfl, SqL.of hr6, atI_nat (j := 0) rfl, o1, X, _, _, rfl, rfl, lo.ex e6, lX, (by rw [nI_len, nI_len, l0, LX]; exact Nat.le_trans (by omega) (show 130 ≤ sizeLine by decide)), fun o2 ho2 => ?_⟩
      rw [cat_nI]
      have lo2 : ListN (upd G6 o2 (.lst (nI (R0 ++ XX)))) o2 (R0 ++ XX) := upd_same
      have e7 := Ex.new (o := .lst (nI (R0 ++ XX))) ho2
      generalize upd G6 o2 (.lst (nI (R0 ++ XX))) = G7 at lo2 e7 ⊢
      refine ⟨_, rfl, _, rfl, r2, _, _, _, rfl, rfl, SqL.of (e7 _ _ hr6), atI_nat (j := 1) rfl, n1, Y, _, _, rfl, rfl, (ln.ex e6).ex e7, lY.ex e7, (by rw [nI_len, nI_len, l1, LY]; exact Nat.le_trans (by omega) (show 130 ≤ sizeLine by decide)), fun n2_ hn2 => ?_⟩
      rw [cat_nI]
      have e8 := Ex.new (o := .lst (nI (R1 ++ YY))) hn2
      exact ⟨o2, n2_, _, _, _, _, _, _, _, rfl, ((eG.trans e6).trans e7).trans e8, lo2.ex e8, upd_same⟩
    rintro σ G ⟨o1, n1, v3, v4, v5, v6, v7, v8, v9, rfl, eG, lo, ln⟩
    rw [List.length_map, tl, List.take_length] at lo ln
    refine ⟨_, rfl, _, rfl, (by show 2 ≤ sizeLine; decide), fun t ht => ?_⟩
    have eT := Ex.new (o := .lst [V.ref o1, V.ref n1]) ht
    exact k t o1 n1 _ (back_none eG ht) (eG.trans eT) upd_same (lo.ex eT) (ln.ex eT)

end

section
variable {P : Program} {w : World} {K : PySem.W.Frag} {mg : Str → Option Value} {base : Heap} {A : Ad}
theorem ok_law_call (T : Txt K mg A)  (g_check_kind : Okd P w K mg base (L2N.CX P w) 2 A.check_kind P_check_kind (spCk A)) (g_reverse_kind : Okd P w K mg base (L2N.CX P w) 3 A.reverse_kind P_reverse_kind (spRk A)) (g_sample_rows : Okd P w K mg base (L2N.CX P w) 3 A.sample_rows P_sample_rows (spSr A)) (g_sample : Okd P w K mg base (L2N.CX P w) 8 A.sample P_sample (spSa A)) : Okd P w K mg base (L2N.CX P w) 9 A.law_call P_law_call (spCl8 A) := by
  obtain ⟨fd, F⟩ := T.d_law_call
  obtain ⟨fd_check_kind, G_check_kind, b_check_kind⟩ := g_check_kind
  obtain ⟨fd_reverse_kind, G_reverse_kind, b_reverse_kind⟩ := g_reverse_kind
  obtain ⟨fd_sample_rows, G_sample_rows, b_sample_rows⟩ := g_sample_rows
  obtain ⟨fd_sample, G_sample, b_sample⟩ := g_sample
  refine ⟨fd, F.okN sc_law_call (fun vs H Q E h => ?_) (fun cdv A' outer s H vs Q E hr h => ?_), F.binds fun _ _ _ _ _ _ us hl => match us, hl with | [_, _], _ => rfl⟩
  · obtain ⟨p, es, dr, rfl, _⟩ := h
    rfl
  · obtain ⟨p, es, dr, rfl, h4, hp, hl, nv, kr⟩ := h
    refine ⟨_, (pss_one (ps_if (pt_cmpR op_eq (pv 0) pe_int (nomark _)) (pss_one (ps_expr (pe_callS G_check_kind (hr.mono (by decide)) rfl T.g_check_kind T.k_check_kind b_check_kind (fun σ => L2N.passAt (L2N.takes_of rfl rfl rfl rfl) σ) (pa_cons (pv 1) pa_nil)))) (pss_one (ps_if (pt_cmpR op_eq (pv 0) pe_int (nomark _)) (pss_one (ps_expr (pe_callS G_reverse_kind (hr.mono (by decide)) rfl T.g_reverse_kind T.k_reverse_kind b_reverse_kind (fun σ => L2N.passAt (L2N.takes_of rfl rfl rfl rfl) σ) (pa_cons (pv 1) pa_nil)))) (pss_one (ps_if (pt_cmpR op_eq (pv 0) pe_int (nomark _)) (pss_one (ps_expr (pe_callS G_sample_rows (hr.mono (by decide)) rfl T.g_sample_rows T.k_sample_rows b_sample_rows (fun σ => L2N.passAt (L2N.takes_of rfl rfl rfl rfl) σ) (pa_cons (pv 1) pa_nil)))) (pss_one (ps_expr (pe_callS G_sample (hr.mono (by decide)) rfl T.g_sample T.k_sample b_sample (fun σ => L2N.passAt (L2N.takes_of rfl rfl rfl rfl) σ) (pa_cons (pv 1) pa_nil)))))))))), ?_⟩
    refine ⟨_, rfl, rfl, _, rfl, ?_⟩
    refine ite_b (fun c => ?_) (fun c => ?_)
    · exact ⟨_, rfl, p, es, rfl, hp, hl, fun v => absurd v nv, fun _ => kr⟩
    refine ⟨_, rfl, rfl, _, rfl, ?_⟩
    refine ite_b (fun c2 => ?_) (fun c2 => ?_)
    · exact ⟨_, rfl, p, es, rfl, hp, hl, fun v => absurd v nv, fun _ => kr⟩
    refine ⟨_, rfl, rfl, _, rfl, ?_⟩
    refine ite_b (fun c3 => ?_) (fun c3 => ?_)
    · exact ⟨_, rfl, p, es, rfl, hp, hl, fun v => absurd v nv, fun v => absurd v nv, fun _ => kr⟩
    · exact ⟨_, rfl, p, es, rfl, hp, hl, fun v => absurd v nv, fun v => absurd v nv, fun _ => kr⟩

end

section
variable {P : Program} {w : World} {K : PySem.W.Frag} {mg : Str → Option Value} {base : Heap} {A : Ad}
theorem ne_ix {l : List Addr} (h : l.Nodup) (i j : Nat) {a b : Addr} (ha : l[i]? = some a) (hb : l[j]? = some b) (hij : i ≠ j) : a ≠ b := fun z => by
  obtain ⟨h1, e1⟩ := List.getElem?_eq_some_iff.mp ha
  obtain ⟨h2, e2⟩ := List.getElem?_eq_some_iff.mp hb
  exact hij ((List.getElem_inj h).mp (e1.trans (z.trans e2.symm)))
theorem ok_law_refused (T : Txt K mg A)  (g_law_call : Okd P w K mg base (L2N.CX P w) 9 A.law_call P_law_call (spCl8 A)) : Okd P w K mg base CX0 10 A.law_refused P_law_refused spRf := by
  obtain ⟨fd, F⟩ := T.d_law_refused
  obtain ⟨fd_law_call, G_law_call, b_law_call⟩ := g_law_call
  refine ⟨fd, F.ok sc_law_refused (fun vs H Q E h => ?_) (fun cdv A' outer s H vs Q E hr h => ?_), F.binds fun _ _ _ _ _ _ us hl => match us, hl with | [_, _], _ => rfl⟩
  · obtain ⟨p, es, dr, rfl, _⟩ := h
    rfl
  · obtain ⟨p, es, dr, rfl, h4, hp, hl, nv, k⟩ := h
    refine ⟨_, (pss_cons (L2N.ps_try_as (i := 2) rfl rfl sc_law_refused.nd rfl rfl ⟨rfl, by decide, .inl T.e_InvalidKind.g⟩ L2N.takes0N (fun W pn xe tk _ => (pss_one (ps_expr (pe_callS G_law_call (hr.mono (by decide)) rfl T.g_law_call T.k_law_call b_law_call (fun σ => L2N.passAt tk σ) (pa_cons (pv 0) (pa_cons (pv 1) pa_nil)))))) (fun a oe cls d pn hz hf => (pss_one (ps_ret (pe_and (pe_callB (call_isS2 (K := K) rfl hz.zc hf) (by rfl) T.n_isinstance (by decide +kernel) (pa_cons (pv 2) (pa_cons (pe_glob (v := .ref A.MendError) rfl T.e_MendError.g rfl) pa_nil))) (pe_and (pe_callB (call_isS2 (K := K) rfl hz.zc hf) (by rfl) T.n_isinstance (by decide +kernel) (pa_cons (pv 2) (pa_cons (pe_bltn (v := .ty "ValueError") (u := .type "ValueError") (by rfl) T.n_ValueError (by decide +kernel) rfl) pa_nil))) (pe_one (pe_not (pe_callB (call_isS2 (K := K) rfl hz.zc hf) (by rfl) T.n_isinstance (by decide +kernel) (pa_cons (pv 2) (pa_cons (pe_glob (v := .ref A.InvalidChange) rfl T.e_InvalidChange.g rfl) pa_nil)))))))))))
      (pss_one (ps_ret pe_bl))), ?_⟩
    refine ⟨_, rfl, _, rfl, p, es, dr, rfl, h4, hp, hl, nv, fun H' e => ?_⟩
    have xC := T.e_InvalidKind.exc T.cn T.ct
    refine ⟨true, T.e_InvalidKind.exm, fun _ a0 ha0 => ?_, fun z => (nomatch z)⟩
    refine ⟨_, rfl, A.InvalidKind, _, _, true, rfl, rfl, Or.inl rfl, xC, ClsV.own _, T.e_InvalidKind.kit_base T.e_MendError (ne_ix T.nd 4 0 rfl rfl (by decide)), _, rfl, iteT ?_⟩
    refine ⟨_, rfl, A.InvalidKind, _, _, true, rfl, rfl, Or.inl rfl, xC, ClsV.ty "ValueError", T.e_InvalidKind.kit_ve, _, rfl, iteT ?_⟩
    refine ⟨_, rfl, A.InvalidKind, _, _, false, rfl, rfl, Or.inl rfl, xC, ClsV.own _, T.e_InvalidKind.kit_ne T.e_InvalidChange (ne_ix T.nd 4 5 rfl rfl (by decide)) (ne_ix T.nd 0 5 rfl rfl (by decide)), _, rfl, ?_⟩
    exact k H' e

end

section
variable {P : Program} {w : World} {K : PySem.W.Frag} {mg : Str → Option Value} {base : Heap} {A : Ad}
theorem ok_sample_rows (T : Txt K mg A)  (g_check_kind : Okd P w K mg base (L2N.CX P w) 2 A.check_kind P_check_kind (spCk A)) (g_paired : Okd P w K mg base CX0 1 A.paired P_paired spPd) : Okd P w K mg base (L2N.CX P w) 3 A.sample_rows P_sample_rows (spSr A) := by
  obtain ⟨fd, F⟩ := T.d_sample_rows
  obtain ⟨fd_check_kind, G_check_kind, b_check_kind⟩ := g_check_kind
  obtain ⟨fd_paired, G_paired, b_paired⟩ := g_paired
  refine ⟨fd, F.okN sc_sample_rows (fun vs H Q E h => ?_) (fun cdv A' outer s H vs Q E hr h => ?_), F.binds fun _ _ _ _ _ _ us hl => match us, hl with | [_], _ => rfl⟩
  · obtain ⟨p, es, rfl, _⟩ := h
    rfl
  · obtain ⟨p, es, rfl, hp, hl, tot, kq, kr⟩ := h
    refine ⟨_, (pss_cons (ps_expr (pe_callS G_check_kind (hr.mono (by decide)) rfl T.g_check_kind T.k_check_kind b_check_kind (fun σ => L2N.passAt (L2N.takes_of rfl rfl rfl rfl) σ) (pa_cons (pv 0) pa_nil)))
      (pss_cons (ps_set (i := 1) sc_sample_rows.nd rfl (Or.inl rfl) (pe_lst pa_nil))
      (pss_cons (ps_set (i := 2) sc_sample_rows.nd rfl (Or.inl rfl) (pe_lst pa_nil))
      (pss_cons (ps_for (passes_of rfl) rfl (pi_tup (pv 0)) (pg_tup (by rfl) (pgs_cons (pg_name (i := 3) sc_sample_rows.nd rfl (Or.inl rfl)) (pgs_cons (pg_name (i := 4) sc_sample_rows.nd rfl (Or.inl rfl)) (pgs_cons (pg_name (i := 5) sc_sample_rows.nd rfl (Or.inl rfl)) pgs_nil)))) (pss_cons (ps_set (i := 6) sc_sample_rows.nd rfl (Or.inl rfl) (pe_callB call_len_seq (by rfl) T.n_len PySem.boot_len (pa_cons (pv 1) pa_nil)))
      (pss_cons (ps_set (i := 7) sc_sample_rows.nd rfl (Or.inl rfl) (pe_call G_paired (hr.mono (by decide)) (by rfl) T.g_paired T.k_paired b_paired .nil pass0 (pa_cons (pv 6) (pa_cons (pv 4) (pa_cons pe_int pa_nil)))))
      (pss_cons (ps_set (i := 8) sc_sample_rows.nd rfl (Or.inl rfl) (pe_call G_paired (hr.mono (by decide)) (by rfl) T.g_paired T.k_paired b_paired .nil pass0 (pa_cons (pv 6) (pa_cons (pv 4) (pa_cons pe_int pa_nil)))))
      (pss_cut (ps_if (pt_cmpR op_eq (pv 3) pe_str (nomark _)) (pss_cons (ps_asg (pe_op op_sub (pe_op op_add (pv 6) (pv 4)) pe_int) (pg_sub (pv 8) pe_int set_list))
      (pss_one (ps_asg (pv 6) (pg_sub (pv 8) (pe_un un_neg pe_int) set_list)))) pss_nil)
      (pss_cons (ps_expr (pe_bm PySem.F.plainAttrs_list PySem.F.slot_list_extend PySem.F.type_list_extend mt_extend (pv 1) (pa_cons (pe_ifExp (pt_cmpR op_eq (pv 5) pe_int (nomark _)) (pv 8) (pv 7)) pa_nil)))
      (pss_one (ps_expr (pe_bm PySem.F.plainAttrs_list PySem.F.slot_list_extend PySem.F.type_list_extend mt_extend (pv 2) (pa_cons (pe_ifExp (pt_cmpR op_eq (pv 5) pe_int (nomark _)) (pv 7) (pv 8)) pa_nil))))))))))
      (pss_one (ps_ret (pe_tup (pa_cons (pv 1) (pa_cons (pv 2) pa_nil))))))))), ?_⟩
    refine ⟨_, rfl, p, es, rfl, hp, hl, fun v H1 e1 => ?_, fun nv H' e => kr nv H' e⟩
    have kq := kq v
    have tot := tot v
    obtain ⟨ts, hts, tl, tat⟩ := hp
    have good := v.1
    have fl : (es.map frG).length = es.length := List.length_map ..
    have fat : ∀ (i : Nat) (t : Addr) (f : Ent), ts[i]? = some t → (es.map frG)[i]? = some f → EntAt H t f := fun i t f a b => by
      rw [List.getElem?_map] at b
      cases z : es[i]? with
      | none => rw [z] at b; cases b
      | some e =>
        rw [z] at b
        rw [← Option.some.inj b]
        exact gen_ent (good e (List.mem_of_getElem? z)) (tat i t e a z)
    have gd : ∀ f ∈ es.map frG, GdE f := fun f hf => by
      obtain ⟨e, he, rfl⟩ := List.mem_map.mp hf
      exact gdE (good e he)
    generalize es.map frG = fs at fl fat gd kq tot
    have ul : ts.length = fs.length := by omega
    have htsG := e1 _ _ hts
    refine ⟨(by show 0 ≤ sizeLine; decide), fun b hb => ?_⟩
    have lb0 : ListN (upd H1 b (.lst [])) b [] := upd_same
    have E1 := e1.trans (Ex.new (o := .lst []) hb)
    generalize upd H1 b (.lst []) = H2 at lb0 E1 ⊢
    refine ⟨(by show 0 ≤ sizeLine; decide), fun a ha => ?_⟩
    have la0 : ListN (upd H2 a (.lst [])) a [] := upd_same
    have nba : b ≠ a := ne_of_none (show H2 b = some _ from lb0) ha
    have lb1 := lb0.ex (Ex.new (o := .lst []) ha)
    have E2 := E1.trans (Ex.new (o := .lst []) ha)
    have fb : H b = none := back_none e1 hb
    have fa : H a = none := back_none E1 ha
    generalize upd H2 a (.lst []) = H3 at la0 lb1 E2 ⊢
    have npb : p ≠ b := ne_of_none hts fb
    have npa : p ≠ a := ne_of_none hts fa
    have hts3 := E2 _ _ hts
    refine ⟨_, rfl, p, rfl, ⟨_, SqT.of hts3⟩, for_tup (K := K) (a := p) (xs := ts.map V.ref) (fun j σ G => ∃ (v3 v4 v5 v6 v7 v8 : Option V), σ = [some (.ref p), some (.ref b), some (.ref a), v3, v4, v5, v6, v7, v8] ∧ (∀ x o, x ≠ b → x ≠ a → H3 x = some o → G x = some o) ∧ ListN G b (rowG 0 0 (fs.take j)) ∧ ListN G a (rowG 1 0 (fs.take j))) ⟨none, none, none, none, none, none, rfl, fun _ _ _ _ h => h, lb1, la0⟩ (fun j σ G _ ⟨_, _, _, _, _, _, _, K1, _⟩ => SqT.of (K1 _ _ npb npa hts3)) ?_ ?_⟩
    · rintro j x σ G hx ⟨v3, v4, v5, v6, v7, v8, rfl, K1, lbG, laG⟩
      obtain ⟨t1, ht1, rfl⟩ := ref_at hx
      have jl : j < fs.length := by have := (List.getElem?_eq_some_iff.mp ht1).1; omega
      have hf1 : fs[j]? = some fs[j] := List.getElem?_eq_getElem jl
      have E1' := (fat j _ _ ht1 hf1)
      have gf := gd _ (List.getElem_mem jl)
      have tk : fs.take (j + 1) = fs.take j ++ [fs[j]] := by rw [List.take_add_one, hf1]; rfl
      have sm : totG (fs.take j) + nG fs[j] ≤ totG fs := by
        have e : totG fs = totG (fs.take (j + 1)) + totG (fs.drop (j + 1)) := by rw [← totG_app, List.take_append_drop]
        rw [e, tk, totG_app]
        show _ ≤ totG (fs.take j) + (nG fs[j] + 0) + _
        omega
      have l0 : (rowG 0 0 (fs.take j)).length = totG (fs.take j) := rowG_len
      have l1 : (rowG 1 0 (fs.take j)).length = totG (fs.take j) := rowG_len
      rw [tk, rowG_snoc, rowG_snoc, Nat.zero_add]
      obtain ⟨q0, q1⟩ := blk_eq (st := totG (fs.take j)) gf
      rw [q0, q1]
      generalize rowG 0 0 (fs.take j) = R0 at lbG l0 ⊢
      generalize rowG 1 0 (fs.take j) = R1 at laG l1 ⊢
      generalize totG (fs.take j) = st at l0 l1 sm ⊢
      generalize fs[j] = f at E1' gf sm ⊢
      have fn := gf.n2
      have hn : f.2.1 = ((nG f : Nat) : Int) := by unfold nG; omega
      have fl1 : (fstG st f).length = nG f := mp_len
      have fl2 : (secG st f).length = nG f := by unfold secG; split <;> exact mp_len
      have nt1 : t1 ≠ b := ne_of_none E1' fb
      have nt2 : t1 ≠ a := ne_of_none E1' fa
      have EG := K1 _ _ nt1 nt2 (E2 _ _ E1')
      rw [hn] at EG
      refine ⟨t1, _, rfl, SqT.of EG, rfl, _, _, rfl, _, _, rfl, _, _, rfl, rfl, ?_⟩
      refine ⟨_, rfl, b, _, rfl, .inl lbG.sz, ?_⟩
      rw [nI_len, l0]
      refine ⟨_, rfl, _, rfl, st, nG f, 0, rfl, by decide, by omega, by omega, by omega, fun p1 G1 hp1 e1' l1' => ?_⟩
      refine ⟨_, rfl, _, rfl, st, nG f, 1, rfl, by decide, by omega, by omega, by omega, fun p2 G2 hp2 e2' l2' => ?_⟩
      have l1' : ListN G1 p1 (fstG st f) := l1'
      have n12 : p1 ≠ p2 := ne_of_none (show G1 p1 = some _ from l1') hp2
      have e02 := e1'.trans e2'
      have lb2 := lbG.ex e02
      have la2 := laG.ex e02
      have n1b : p1 ≠ b := fun z => by have h : G b = some _ := lbG; rw [← z, hp1] at h; cases h
      have n1a : p1 ≠ a := fun z => by have h : G a = some _ := laG; rw [← z, hp1] at h; cases h
      have n2b : p2 ≠ b := fun z => by have h : G1 b = some _ := lbG.ex e1'; rw [← z, hp2] at h; cases h
      have n2a : p2 ≠ a := fun z => by have h : G1 a = some _ := laG.ex e1'; rw [← z, hp2] at h; cases h
      have f2 : H3 p2 = none := by
        cases z : H3 p2 with
        | none => rfl
        | some o =>
          have := e1' _ _ (K1 _ _ n2b n2a z)
          rw [hp2] at this
          cases this
      have K2 : ∀ x o, x ≠ b → x ≠ a → H3 x = some o → G2 x = some o := fun x o h1 h2 h => e02 _ _ (K1 x o h1 h2 h)
      have f12 := l1'.ex e2'
      refine ⟨fun σ G' => σ = [some (.ref p), some (.ref b), some (.ref a), some (.str (wE f.1)), some (.int ((nG f : Nat) : Int)), some (.int f.2.2), some (.int (st : Int)), some (.ref p1), some (.ref p2)] ∧ (∀ x o, x ≠ b → x ≠ a → H3 x = some o → G' x = some o) ∧ ListN G' b R0 ∧ ListN G' a R1 ∧ ListN G' p1 (fstG st f) ∧ ListN G' p2 (secG st f), ?_, ?_⟩
      · refine ⟨_, rfl, rfl, _, rfl, ?_⟩
        rw [sq_]
        refine ite_b (fun c => ?_) (fun c => ?_)
        rotate_left
        · have nr : ¬ f.1 = 1 := fun z => by rw [z] at c; exact absurd rfl (of_decide_eq_false c)
          refine ⟨rfl, K2, lb2, la2, f12, ?_⟩
          unfold secG
          rw [if_neg nr]
          exact l2'
        have isr : f.1 = 1 := by
          have gw := gf.w
          by_cases z : f.1 = 0
          · rw [z] at c
            exact absurd (of_decide_eq_true c) (by decide +kernel)
          · omega
        refine ⟨_, rfl, _, rfl, _, _, rfl, rfl, _, _, rfl, rfl, _, rfl, p2, _, _, 0, rfl, rfl, l2', (by rw [nI_len, mp_len]; exact Evl.ixN_nat (j := 0) (by omega)), ?_⟩
        rw [set_at (w := st + nG f - 1), mp_set]
        rotate_left
        · show V.int ((st : Int) + ((nG f : Nat) : Int) - 1) = V.int ((st + nG f - 1 : Nat) : Int)
          exact congrArg V.int (by omega)
        have l3 : ListN (upd G2 p2 (.lst (nI (mp (fun j => if j = 0 then st + nG f - 1 else st + stp 1 0 (nG f - 1) j) (nG f))))) p2 (mp (fun j => if j = 0 then st + nG f - 1 else st + stp 1 0 (nG f - 1) j) (nG f)) := upd_same
        have K3 : ∀ x o, x ≠ p2 → G2 x = some o → upd G2 p2 (.lst (nI (mp (fun j => if j = 0 then st + nG f - 1 else st + stp 1 0 (nG f - 1) j) (nG f)))) x = some o := fun x o h1 h => by rw [upd_ne h1]; exact h
        generalize upd G2 p2 (.lst (nI (mp (fun j => if j = 0 then st + nG f - 1 else st + stp 1 0 (nG f - 1) j) (nG f)))) = G3 at l3 K3 ⊢
        refine ⟨_, rfl, _, rfl, _, rfl, p2, _, _, nG f - 1, rfl, rfl, l3, ?_, ?_⟩
        · rw [nI_len, mp_len]
          show ixN (nG f) (-1) = _
          unfold ixN
          rw [if_neg (by decide), if_pos (by omega)]
          exact congrArg some (by omega)
        rw [set_at (w := st), mp_set]
        rotate_left
        · rfl
        have K4 : ∀ x o, x ≠ p2 → G2 x = some o → upd G3 p2 (.lst (nI (mp (fun j => if j = nG f - 1 then st else if j = 0 then st + nG f - 1 else st + stp 1 0 (nG f - 1) j) (nG f)))) x = some o := fun x o h1 h => by rw [upd_ne h1]; exact K3 x o h1 h
        refine ⟨rfl, fun x o h1 h2 h => K4 _ _ (ne_of_none h f2) (K2 x o h1 h2 h), K4 _ _ (Ne.symm n2b) lb2, K4 _ _ (Ne.symm n2a) la2, K4 _ _ n12 f12, ?_⟩
        unfold secG
        rw [if_pos isr]
        exact upd_same
      rintro σ G' ⟨rfl, K3, lb3, la3, l13, l23⟩
      refine ⟨_, rfl, Or.inl ⟨rfl, _, lb3.sz⟩, _, rfl, rfl, _, rfl, ?_⟩
      rw [iq_]
      by_cases c : f.2.2 = 1
      · rw [decide_eq_true c, if_pos c, if_pos c]
        refine iteT ⟨_, rfl, b, p2, _, _, rfl, rfl, lb3, l23, (by rw [nI_len, nI_len, fl2, l0]; exact Nat.le_trans (by omega) (show 130 ≤ sizeLine by decide)), ?_⟩
        rw [cat_nI]
        have B4 : ListN (upd G' b (.lst (nI (R0 ++ secG st f)))) b (R0 ++ secG st f) := upd_same
        have K4 : ∀ x o, x ≠ b → G' x = some o → upd G' b (.lst (nI (R0 ++ secG st f))) x = some o := fun x o h1 h => by rw [upd_ne h1]; exact h
        generalize upd G' b (.lst (nI (R0 ++ secG st f))) = G4 at B4 K4 ⊢
        refine ⟨_, rfl, Or.inl ⟨rfl, _, (show ListN G4 a R1 from K4 _ _ (Ne.symm nba) la3).sz⟩, _, rfl, rfl, _, rfl, ?_⟩
        rw [iq_, decide_eq_true c]
        refine iteT ⟨_, rfl, a, p1, _, _, rfl, rfl, K4 _ _ (Ne.symm nba) la3, K4 _ _ n1b l13, (by rw [nI_len, nI_len, fl1, l1]; exact Nat.le_trans (by omega) (show 130 ≤ sizeLine by decide)), ?_⟩
        rw [cat_nI]
        refine ⟨_, _, _, _, _, _, rfl, fun x o h1 h2 h => by rw [upd_ne h2]; exact K4 _ _ h1 (K3 x o h1 h2 h), ?_, upd_same⟩
        show upd G4 a _ b = _
        rw [upd_ne nba]
        exact B4
      · rw [decide_eq_false c, if_neg c, if_neg c]
        refine iteF ⟨_, rfl, b, p1, _, _, rfl, rfl, lb3, l13, (by rw [nI_len, nI_len, fl1, l0]; exact Nat.le_trans (by omega) (show 130 ≤ sizeLine by decide)), ?_⟩
        rw [cat_nI]
        have B4 : ListN (upd G' b (.lst (nI (R0 ++ fstG st f)))) b (R0 ++ fstG st f) := upd_same
        have K4 : ∀ x o, x ≠ b → G' x = some o → upd G' b (.lst (nI (R0 ++ fstG st f))) x = some o := fun x o h1 h => by rw [upd_ne h1]; exact h
        generalize upd G' b (.lst (nI (R0 ++ fstG st f))) = G4 at B4 K4 ⊢
        refine ⟨_, rfl, Or.inl ⟨rfl, _, (show ListN G4 a R1 from K4 _ _ (Ne.symm nba) la3).sz⟩, _, rfl, rfl, _, rfl, ?_⟩
        rw [iq_, decide_eq_false c]
        refine iteF ⟨_, rfl, a, p2, _, _, rfl, rfl, K4 _ _ (Ne.symm nba) la3, K4 _ _ n2b l23, (by rw [nI_len, nI_len, fl2, l1]; exact Nat.le_trans (by omega) (show 130 ≤ sizeLine by decide)), ?_⟩
        rw [cat_nI]
        refine ⟨_, _, _, _, _, _, rfl, fun x o h1 h2 h => by rw [upd_ne h2]; exact K4 _ _ h1 (K3 x o h1 h2 h), ?_, upd_same⟩
        show upd G4 a _ b = _
        rw [upd_ne nba]
        exact B4
    rintro σ G ⟨v3, v4, v5, v6, v7, v8, rfl, K1, lbG, laG⟩
    have ltr : (ts.map V.ref).length = fs.length := by rw [List.length_map]; omega
    rw [ltr, List.take_length] at lbG laG
    refine ⟨_, rfl, _, rfl, (by show 2 ≤ sizeLine; decide), fun t ht => ?_⟩
    have eT := Ex.new (o := .tup [V.ref b, V.ref a]) ht
    have e0 : Ex H G := fun x o h => K1 x o (ne_of_none h fb) (ne_of_none h fa) (E2 x o h)
    exact kq t b a _ (back_none e0 ht) fb fa (e0.trans eT) upd_same (lbG.ex eT) (laG.ex eT)

end

section
variable {P : Program} {w : World} {K : PySem.W.Frag} {mg : Str → Option Value} {base : Heap} {A : Ad}
theorem ok_reverse_kind (T : Txt K mg A)  (g_check_kind : Okd P w K mg base (L2N.CX P w) 2 A.check_kind P_check_kind (spCk A)) : Okd P w K mg base (L2N.CX P w) 3 A.reverse_kind P_reverse_kind (spRk A) := by
  obtain ⟨fd, F⟩ := T.d_reverse_kind
  obtain ⟨fd_check_kind, G_check_kind, b_check_kind⟩ := g_check_kind
  refine ⟨fd, F.okN sc_reverse_kind (fun vs H Q E h => ?_) (fun cdv A' outer s H vs Q E hr h => ?_), F.binds fun _ _ _ _ _ _ us hl => match us, hl with | [_], _ => rfl⟩
  · obtain ⟨p, es, rfl, _⟩ := h
    rfl
  · obtain ⟨p, es, rfl, hp, hl, kq, kr⟩ := h
    refine ⟨_, (pss_cons (ps_expr (pe_callS G_check_kind (hr.mono (by decide)) rfl T.g_check_kind T.k_check_kind b_check_kind (fun σ => L2N.passAt (L2N.takes_of rfl rfl rfl rfl) σ) (pa_cons (pv 0) pa_nil)))
      (pss_one (ps_ret (pe_callTy call_tuple_of (by rfl) T.n_tuple (by decide +kernel) (pa_cons (pe_callB (DaS.cr_sortD hr.units) (by rfl) T.n_sorted (by decide +kernel) (pa_cons (pe_lc (own := [("shape", 3), ("length", 2), ("gain", 1)]) (g := gTup K 3 (gCons (gName 3) (gCons (gName 2) (gCons (gName 1) gNil)))) (tt := tYes) (by rfl) sc_reverse_kind.nd (pi_tup (pv 0)) (blkOk_by (own := [("shape", 3), ("length", 2), ("gain", 1)]) (N := N_reverse_kind) (sc := defScope s_reverse_kind) (by decide +kernel)) (fun _ _ _ _ _ => (pg_tup (by rfl) (pgs_cons (pg_name (i := 3) sc_reverse_kind.nd rfl (Or.inl rfl)) (pgs_cons (pg_name (i := 2) sc_reverse_kind.nd rfl (Or.inl rfl)) (pgs_cons (pg_name (i := 1) sc_reverse_kind.nd rfl (Or.inl rfl)) pgs_nil))))) (fun _ _ _ _ _ => pts_nil) (fun _ _ _ _ _ => (pe_tup (pa_cons (pv 3) (pa_cons (pv 2) (pa_cons (pe_un un_neg (pv 1)) pa_nil)))))) pa_nil)) pa_nil))))), ?_⟩
    refine ⟨_, rfl, p, es, rfl, hp, hl, fun v H1 e1 => ?_, fun nv H' e => kr nv H' e⟩
    have kq := kq v
    obtain ⟨ts, hts, tl, tat⟩ := hp
    have good := v.1
    have fl : (es.map frG).length = es.length := List.length_map ..
    have fat : ∀ (i : Nat) (t : Addr) (f : Ent), ts[i]? = some t → (es.map frG)[i]? = some f → EntAt H t f := fun i t f a b => by
      rw [List.getElem?_map] at b
      cases z : es[i]? with
      | none => rw [z] at b; cases b
      | some e =>
        rw [z] at b
        rw [← Option.some.inj b]
        exact gen_ent (good e (List.mem_of_getElem? z)) (tat i t e a z)
    have w2 : ∀ f ∈ es.map frG, f.1 < 2 := fun f hf => by
      obtain ⟨e, _, rfl⟩ := List.mem_map.mp hf
      exact frG_lt e
    generalize es.map frG = fs at fl fat w2 kq
    have htsG := e1 _ _ hts
    refine ⟨_, rfl, p, rfl, ⟨_, SqT.of htsG⟩, fun D hD => ?_⟩
    refine lc_tup (K := K) (a := p) (xs := ts.map V.ref) (fun j G => Ex H1 G ∧ EntsAt G D ((fs.take j).map revE)) ⟨Ex.new hD, [], upd_same, rfl, fun i t e z => by cases z⟩ (fun j G _ q => SqT.of (q.1 _ _ htsG)) ?_ ?_
    · rintro j x G hx ⟨e, us, hus, ul, uat⟩
      obtain ⟨t1, ht1, rfl⟩ := ref_at hx
      have jl : j < fs.length := by have := (List.getElem?_eq_some_iff.mp ht1).1; omega
      have hf1 : fs[j]? = some fs[j] := List.getElem?_eq_getElem jl
      have E1 := (fat j _ _ ht1 hf1)
      have ej : (fs.take (j + 1)).map revE = (fs.take j).map revE ++ [revE fs[j]] := by
        rw [List.take_add_one, hf1, List.map_append]
        rfl
      rw [ej]
      have ul2 : us.length ≤ 70 := by rw [ul, List.length_map, List.length_take]; omega
      generalize (fs.take j).map revE = gs at ul uat ⊢
      generalize fs[j] = f at E1 ⊢
      have EG := e _ _ (e1 _ _ E1)
      refine ⟨t1, _, rfl, SqT.of EG, rfl, _, _, rfl, _, _, rfl, _, _, rfl, rfl, rfl, ?_⟩
      refine ⟨_, rfl, _, rfl, _, rfl, _, rfl, (by show 3 ≤ sizeLine; decide), fun t ht => ?_⟩
      have eT := Ex.new (o := .tup [V.str (wE f.1), V.int f.2.1, V.int (-f.2.2)]) ht
      have hT : upd G t (.tup [V.str (wE f.1), V.int f.2.1, V.int (-f.2.2)]) t = some (.tup [V.str (wE f.1), V.int f.2.1, V.int (-f.2.2)]) := upd_same
      generalize upd G t (.tup [V.str (wE f.1), V.int f.2.1, V.int (-f.2.2)]) = G3 at eT hT ⊢
      have husT := eT _ _ hus
      have nD : ∀ x o, G3 x = some (.tup o) → upd G3 D (.lst (us.map V.ref ++ [V.ref t])) x = some (.tup o) := fun x o h => by
        rw [upd_ne (fun z => by rw [z, husT] at h; cases h)]
        exact h
      refine ⟨_, husT, small1000 (by rw [List.length_map]; omega), fun x o ho => ?_, us ++ [t], ?_, ?_, app_at ul (fun i t' e' a b => nD _ _ (eT _ _ (uat i t' e' a b))) (nD _ _ hT)⟩
      · rw [upd_ne (ne_of_none ho hD)]
        exact eT _ _ (e _ _ ho)
      · rw [upd_same, List.map_append]
        rfl
      · rw [List.length_append, List.length_append, ul]
        rfl
    rintro G1 ⟨e2, us, hus, ul, uat⟩
    have ltr : (ts.map V.ref).length = fs.length := by rw [List.length_map]; omega
    rw [ltr, List.take_length] at ul uat
    have w2 : ∀ e ∈ fs.map revE, e.1 < 2 := fun e he => by
      obtain ⟨f, hf, rfl⟩ := List.mem_map.mp he
      exact w2 f hf
    obtain ⟨ts', es', so1, so2, so3, so4, so5⟩ := sort_ents ul uat w2
    have fl2 : (fs.map revE).length = fs.length := List.length_map ..
    generalize fs.map revE = gs at ul uat w2 so1 so2 so3 so4 so5 kq fl2
    have zf : ((us.zip gs).map fun z => (V.ref z.1, encE z.2)).map Prod.fst = us.map V.ref := by
      rw [List.map_map]
      have := List.map_fst_zip (l₁ := us) (l₂ := gs) (by omega)
      conv => rhs; rw [← this, List.map_map]
      rfl
    refine ⟨D, (us.zip gs).map fun z => (V.ref z.1, encE z.2), rfl, (by rw [zf]; exact SqL.of hus), fun z hz => ?_, ?_, ?_, fun p hp => ?_⟩
    · obtain ⟨y, hy, rfl⟩ := List.mem_map.mp hz
      obtain ⟨i, hi, ez⟩ := List.getElem_of_mem hy
      have e2z : (us.zip gs)[i]? = some y := by rw [List.getElem?_eq_getElem hi, ez]
      rw [List.getElem?_zip_eq_some] at e2z
      exact ⟨dp_ent (uat i _ _ e2z.1 e2z.2), depth_ent _⟩
    · rw [List.map_map]
      intro d hd d' hd'
      obtain ⟨y, _, rfl⟩ := List.mem_map.mp hd
      obtain ⟨y', _, rfl⟩ := List.mem_map.mp hd'
      exact alike_ent _ _
    · rw [List.map_map]
      refine .inl fun d hd => ?_
      obtain ⟨y, _, rfl⟩ := List.mem_map.mp hd
      exact ⟨_, _, rfl⟩
    · rw [so1]
      have hS : upd G1 p (.lst (ts'.map V.ref)) p = some (.lst (ts'.map V.ref)) := upd_same
      have e3 := Ex.new (o := .lst (ts'.map V.ref)) hp
      generalize upd G1 p (.lst (ts'.map V.ref)) = G2 at hS e3 ⊢
      refine ⟨p, _, rfl, Or.inl ⟨SqL.of hS, fun q hq => ?_⟩⟩
      have e4 := Ex.new (o := .tup (ts'.map V.ref)) hq
      have e0 := ((e1.trans e2).trans e3).trans e4
      exact kq q es' _ (back_none ((e1.trans e2).trans e3) hq) e0 ⟨ts', upd_same, so4, fun i t e h1 h2 => e4 _ _ (e3 _ _ (so5 i t e h1 h2))⟩ so2 so3

end

section
variable {P : Program} {w : World} {K : PySem.W.Frag} {mg : Str → Option Value} {base : Heap} {A : Ad}
theorem ok_check_kind (T : Txt K mg A)  (g_is_entry : Okd P w K mg base CX0 1 A.is_entry P_is_entry spIe) : Okd P w K mg base (L2N.CX P w) 2 A.check_kind P_check_kind (spCk A) := by
  obtain ⟨fd, F⟩ := T.d_check_kind
  obtain ⟨fd_is_entry, G_is_entry, b_is_entry⟩ := g_is_entry
  refine ⟨fd, F.okN sc_check_kind (fun vs H Q E h => ?_) (fun cdv A' outer s H vs Q E hr h => ?_), F.binds fun _ _ _ _ _ _ us hl => match us, hl with | [_], _ => rfl⟩
  · obtain ⟨p, es, rfl, _⟩ := h
    rfl
  · obtain ⟨p, es, rfl, hp, hl, kq, kr⟩ := h
    refine ⟨_, (pss_one (ps_if (PW.pt (pw_or (pt_not (pt_val (pe_callB (cr_all (by rfl)) (by rfl) T.n_all (by decide +kernel) (pa_cons (pe_lc (own := [("entry", 1)]) (tt := tYes) (by rfl) sc_check_kind.nd (pi_tup (pv 0)) (blkOk_by (own := [("entry", 1)]) (N := N_check_kind) (sc := defScope s_check_kind) (by decide +kernel)) (fun _ _ _ _ _ => (pg_name (i := 1) sc_check_kind.nd rfl (Or.inl rfl))) (fun _ _ _ _ _ => pts_nil) (fun _ _ _ _ _ => (pe_call G_is_entry (hr.mono (by decide)) (by rfl) T.g_is_entry T.k_is_entry b_is_entry .nil pass0 (pa_cons (pv 1) pa_nil)))) pa_nil)))) (pw_or1 (pt_cmpR (op_neD hr.units) (pe_callTy call_list_of (by rfl) T.n_list (by decide +kernel) (pa_cons (pv 0) pa_nil)) (pe_callB (DaS.cr_sortT hr.units) (by rfl) T.n_sorted (by decide +kernel) (pa_cons (pv 0) pa_nil)) (nomark _))))) (pss_one (L2N.ps_raise rfl (L2N.takes_of rfl rfl rfl rfl) (L2N.pmk_own0N PySem.F.excBase_ValueError T.q_InvalidKind T.e_InvalidKind.g T.e_InvalidKind.k (raises_own T.e_InvalidKind.sub T.e_InvalidKind.ty) rfl))) pss_nil)), ?_⟩
    obtain ⟨ts, hts, tl, tat⟩ := hp
    refine ⟨_, rfl, p, rfl, ⟨_, SqT.of hts⟩, fun D hD => ?_⟩
    refine lc_tup (K := K) (a := p) (xs := ts.map V.ref) (fun j G => Ex H G ∧ G D = some (.lst (((es.take j).map goodE).map V.bl))) ⟨Ex.new hD, upd_same⟩ (fun j G _ q => SqT.of (q.1 _ _ hts)) ?_ ?_
    · rintro j x G hx ⟨e, hd⟩
      obtain ⟨t1, ht1, rfl⟩ := ref_at hx
      have jl : j < es.length := by have := (List.getElem?_eq_some_iff.mp ht1).1; omega
      have he1 : es[j]? = some es[j] := List.getElem?_eq_getElem jl
      have E1 := e _ _ (tat j _ _ ht1 he1)
      refine ⟨rfl, _, rfl, t1, es[j], rfl, E1, fun G2 e2 => ?_⟩
      refine ⟨_, e2 _ _ hd, small1000 (by rw [List.length_map, List.length_map, List.length_take]; omega), fun x o ho => ?_, ?_⟩
      · rw [upd_ne (ne_of_none ho hD)]
        exact e2 _ _ (e _ _ ho)
      · rw [upd_same, List.take_add_one, he1, List.map_append, List.map_append]
        rfl
    rintro G1 ⟨e1, hd⟩
    rw [List.length_map, tl, List.take_length] at hd
    refine ⟨D, _, rfl, SqL.of hd, _, rfl, ?_⟩
    refine ite_b (fun c => ?_) (fun c => ?_)
    · refine iteT (kr (fun v => ?_) G1 e1)
      have : (es.map goodE).all id = true := by
        rw [List.all_eq_true]
        intro b hb
        obtain ⟨e, he, rfl⟩ := List.mem_map.mp hb
        exact v.1 e he
      rw [this] at c
      cases c
    have good : ∀ e ∈ es, goodE e = true := by
      have c2 : (es.map goodE).all id = true := by
        cases z : (es.map goodE).all id with
        | true => rfl
        | false => rw [z] at c; cases c
      rw [List.all_eq_true] at c2
      exact fun e he => c2 _ (List.mem_map.mpr ⟨e, he, rfl⟩)
    have fl : (es.map frG).length = es.length := List.length_map ..
    have fat : ∀ (i : Nat) (t : Addr) (f : Ent), ts[i]? = some t → (es.map frG)[i]? = some f → EntAt H t f := fun i t f a b => by
      rw [List.getElem?_map] at b
      cases z : es[i]? with
      | none => rw [z] at b; cases b
      | some e =>
        rw [z] at b
        rw [← Option.some.inj b]
        exact gen_ent (good e (List.mem_of_getElem? z)) (tat i t e a z)
    have w2 : ∀ f ∈ es.map frG, f.1 < 2 := fun f hf => by
      obtain ⟨e, _, rfl⟩ := List.mem_map.mp hf
      exact frG_lt e
    unfold Valid at kq kr
    generalize es.map frG = fs at fl fat w2 kq kr
    have ul : ts.length = fs.length := by omega
    have htsG := e1 _ _ hts
    refine ⟨_, rfl, p, _, rfl, Or.inr (SqT.of htsG), fun p1 hp1 => ?_⟩
    have l1 : upd G1 p1 (.lst (ts.map V.ref)) p1 = some (.lst (ts.map V.ref)) := upd_same
    have e2 := e1.trans (Ex.new (o := .lst (ts.map V.ref)) hp1)
    generalize upd G1 p1 (.lst (ts.map V.ref)) = G2 at l1 e2 ⊢
    have fat2 : ∀ (i : Nat) (t : Addr) (f : Ent), ts[i]? = some t → fs[i]? = some f → EntAt G2 t f := fun i t f a b => e2 _ _ (fat i t f a b)
    obtain ⟨ts', es', so1, so2, so3, so4, so5⟩ := sort_ents ul fat2 w2
    have zf : ((ts.zip fs).map fun z => (V.ref z.1, encE z.2)).map Prod.fst = ts.map V.ref := by
      rw [List.map_map]
      have := List.map_fst_zip (l₁ := ts) (l₂ := fs) (by omega)
      conv => rhs; rw [← this, List.map_map]
      rfl
    refine ⟨_, rfl, p, (ts.zip fs).map fun z => (V.ref z.1, encE z.2), rfl, (by rw [zf]; exact SqT.of (e2 _ _ hts)), fun z hz => ?_, ?_, ?_, fun p2 hp2 => ?_⟩
    · obtain ⟨y, hy, rfl⟩ := List.mem_map.mp hz
      obtain ⟨i, hi, ez⟩ := List.getElem_of_mem hy
      have e2z : (ts.zip fs)[i]? = some y := by rw [List.getElem?_eq_getElem hi, ez]
      rw [List.getElem?_zip_eq_some] at e2z
      exact ⟨dp_ent (fat2 i _ _ e2z.1 e2z.2), depth_ent _⟩
    · rw [List.map_map]
      intro d hd d' hd'
      obtain ⟨y, _, rfl⟩ := List.mem_map.mp hd
      obtain ⟨y', _, rfl⟩ := List.mem_map.mp hd'
      exact alike_ent _ _
    · rw [List.map_map]
      refine .inl fun d hd => ?_
      obtain ⟨y, _, rfl⟩ := List.mem_map.mp hd
      exact ⟨_, _, rfl⟩
    rw [so1]
    have e3 := Ex.new (o := .lst (ts'.map V.ref)) hp2
    have l2 : upd G2 p2 (.lst (ts'.map V.ref)) p2 = some (.lst (ts'.map V.ref)) := upd_same
    have w2' : ∀ f ∈ es', f.1 < 2 := fun f hf => w2 f (so2.mem_iff.mp hf)
    refine ⟨dE fs, dE es', .lst (SqL.of (e3 _ _ l1)) (dpAll_E ts fs ul fun i t f a b => e3 _ _ (fat2 i t f a b)), .lst (SqL.of l2) (dpAll_E ts' es' so4 fun i t f a b => e3 _ _ (so5 i t f a b)), shaped_E _, shaped_E _, _, rfl, ?_⟩
    rw [show PyData.eqv (dE fs) (dE es') = decide (fs = es') from eqv_E fs es' w2 w2']
    have e03 := e2.trans e3
    by_cases z : fs = es'
    · rw [decide_eq_true z]
      refine iteF (kq ⟨good, ?_⟩ _ e03)
      rw [z]
      exact so3
    · rw [decide_eq_false z]
      exact iteT (kr (fun v => z (sorted_one so2.symm v.2 so3)) _ e03)

end

section
variable {P : Program} {w : World} {K : PySem.W.Frag} {mg : Str → Option Value} {base : Heap} {A : Ad}
theorem ok_is_entry (T : Txt K mg A)   : Okd P w K mg base CX0 1 A.is_entry P_is_entry spIe := by
  obtain ⟨fd, F⟩ := T.d_is_entry

  refine ⟨fd, F.ok sc_is_entry (fun vs H Q E h => ?_) (fun cdv A' outer s H vs Q E hr h => ?_), F.binds fun _ _ _ _ _ _ us hl => match us, hl with | [_], _ => rfl⟩
  · obtain ⟨t, e, rfl, _⟩ := h
    rfl
  · obtain ⟨t, e, rfl, ht, k⟩ := h
    refine ⟨_, (pss_cons (ps_if (PW.pt (pw_or (pt_not (pt_val (pe_callB call_isi (by rfl) T.n_isinstance (by decide +kernel) (pa_cons (pv 0) (pa_cons (pe_bltn (v := .ty "tuple") (u := .type "tuple") (by rfl) T.n_tuple (by decide +kernel) rfl) pa_nil))))) (pw_or1 (pt_cmpR op_ne (pe_callB call_len_seq (by rfl) T.n_len PySem.boot_len (pa_cons (pv 0) pa_nil)) pe_int (nomark _))))) (pss_one (ps_ret pe_bl)) pss_nil)
      (pss_cons (ps_asg (pv 0) (pg_tup (by rfl) (pgs_cons (pg_name (i := 1) sc_is_entry.nd rfl (Or.inl rfl)) (pgs_cons (pg_name (i := 2) sc_is_entry.nd rfl (Or.inl rfl)) (pgs_cons (pg_name (i := 3) sc_is_entry.nd rfl (Or.inl rfl)) pgs_nil)))))
      (pss_cons (ps_if (pt_cmpR op_eq (pv 1) pe_str (nomark _)) (pss_one (ps_ret (pe_and (pe_cmpR op_ge (pv 2) pe_int (nomark _)) (pe_and (pe_cmpR op_eq (pe_op op_mod (pv 2) pe_int) pe_int (nomark _)) (pe_one (pe_cmpR op_eq (pv 3) pe_int (nomark _))))))) pss_nil)
      (pss_cons (ps_if (PW.pt (pw_or (pt_cmpR op_ne (pv 1) pe_str (nomark _)) (pw_or1 (pt_cmpR op_lt (pv 2) pe_int (nomark _))))) (pss_one (ps_ret pe_bl)) pss_nil)
      (pss_one (ps_ret (pe_ifExp (pt_cmpR op_eq (pe_op op_mod (pv 2) pe_int) pe_int (nomark _)) (pe_cmpR op_in_seq (pv 3) (pe_tup (pa_cons pe_int (pa_cons (pe_un un_neg pe_int) pa_nil))) (by with_unfolding_all rfl)) (pe_cmpR op_eq (pv 3) pe_int (nomark _))))))))), ?_⟩
    have k0 := k H (Ex.refl H)
    unfold goodE at k0
    refine ⟨_, rfl, _, _, _, _, true, rfl, ClsV.ty "tuple", TyX.base (TyOf.tup ht), kit_ty (by decide +kernel), ?_⟩
    refine ⟨true, rfl, ?_⟩
    refine iteF ?_
    refine ⟨_, rfl, t, _, rfl, .inr (SqT.of ht), rfl, _, rfl, ?_⟩
    refine ifF (ndec rfl) ?_
    refine ⟨_, rfl, t, _, rfl, SqT.of ht, rfl, _, _, rfl, _, _, rfl, _, _, rfl, rfl, ?_⟩
    refine ⟨_, rfl, rfl, _, rfl, ?_⟩
    rw [sq_]
    refine ite_b (fun c => ?_) (fun c => ?_)
    · rw [if_pos (of_decide_eq_true c)] at k0
      refine ⟨_, rfl, _, _, rfl, rfl, _, rfl, ite_b (fun c1 => ?_) (fun c1 => ?_)⟩
      rotate_left
      · rw [c1, Bool.false_and] at k0
        exact k0
      rw [c1, Bool.true_and] at k0
      refine ⟨_, rfl, _, _, rfl, rfl, (by show (0 : Int) < 2; decide), rfl, _, rfl, ?_⟩
      rw [iq_]
      refine ite_b (fun c2 => ?_) (fun c2 => ?_)
      rotate_left
      · rw [c2, Bool.false_and] at k0
        exact k0
      rw [c2, Bool.true_and] at k0
      refine ⟨_, rfl, rfl, ?_⟩
      rw [iq_]
      exact k0
    rw [if_neg (of_decide_eq_false c)] at k0
    refine ⟨_, rfl, rfl, _, rfl, ?_⟩
    rw [sq_]
    by_cases c1 : e.1 = (Str.ofString "chain")
    rotate_left
    · rw [if_neg c1] at k0
      rw [decide_eq_false c1]
      exact iteT (iteT k0)
    rw [decide_eq_true c1]
    rw [if_pos c1] at k0
    refine iteF ?_
    refine ⟨_, rfl, _, _, rfl, rfl, _, rfl, ?_⟩
    refine ite_b (fun c2 => ?_) (fun c2 => ?_)
    · rw [if_pos (of_decide_eq_true c2)] at k0
      exact k0
    rw [if_neg (of_decide_eq_false c2)] at k0
    refine ⟨_, rfl, _, _, rfl, rfl, (by show (0 : Int) < 2; decide), rfl, _, rfl, ?_⟩
    rw [iq_]
    refine ite_b (fun c3 => ?_) (fun c3 => ?_)
    rotate_left
    · rw [if_neg (of_decide_eq_false c3)] at k0
      refine ⟨_, rfl, rfl, ?_⟩
      rw [iq_]
      exact k0
    rw [if_pos (of_decide_eq_true c3)] at k0
    refine ⟨_, rfl, _, rfl, (by show 2 ≤ sizeLine; decide), fun p hp => ?_⟩
    refine ⟨p, _, rfl, .inr (SqT.of upd_same), rfl, rfl, ?_⟩
    have k1 := k _ (Ex.new (o := .tup [V.int 1, V.int (-1)]) hp)
    have e2 : inV (V.int e.2.2) [V.int 1, V.int (-1)] = (decide (e.2.2 = 1) || decide (e.2.2 = -1)) := by
      show (((1 : Int) == e.2.2) || (((-1 : Int) == e.2.2) || false)) = _
      rw [Bool.eq_iff_iff]
      simp only [Bool.or_false, Bool.or_eq_true, beq_iff_eq, decide_eq_true_eq]
      omega
    unfold goodE at k1
    rw [if_neg (of_decide_eq_false c), if_pos c1, if_neg (of_decide_eq_false c2), if_pos (of_decide_eq_true c3), ← e2] at k1
    exact k1

end

section
variable {P : Program} {w : World} {K : PySem.W.Frag} {mg : Str → Option Value} {base : Heap} {A : Ad}
theorem ok_law_box (T : Txt K mg A)   : Okd P w K mg base CX0 1 A.law_box P_law_box (spBox K) := by
  obtain ⟨fd, F⟩ := T.d_law_box

  refine ⟨fd, F.ok sc_law_box (fun vs H Q E h => ?_) (fun cdv A' outer s H vs Q E hr h => ?_), F.binds fun _ _ _ _ _ _ us hl => match us, hl with | [_], _ => rfl⟩
  · obtain ⟨a, ns, rfl, _⟩ := h
    rfl
  · obtain ⟨a, ns, rfl, hs, hl, k⟩ := h
    refine ⟨_, (pss_cons (ps_set (i := 1) sc_law_box.nd rfl (Or.inl rfl) pe_int)
      (pss_cons (ps_for PassesOwn.never rfl (pi_list (pe_slice sl_list (pv 0) po_none (po_some pe_int))) (pg_name (i := 2) sc_law_box.nd rfl (Or.inl rfl)) (pss_one (ps_set (i := 1) sc_law_box.nd rfl (Or.inl rfl) (pe_op op_mod (pe_callTy call_int1 (by rfl) T.n_int (by decide +kernel) (pa_cons (pe_op op_add (pe_op op_mul (pv 1) pe_int) (pv 2)) pa_nil)) pe_int))))
      (pss_one (ps_ret (pe_lst (pa_cons (pe_callTy call_list_of (by rfl) T.n_list (by decide +kernel) (pa_cons (pe_slice sl_list (pv 0) po_none (po_some pe_int)) pa_nil)) (pa_cons pe_int (pa_cons pe_int (pa_cons pe_int (pa_cons (pv 1) pa_nil)))))))))), ?_⟩
    have cutA : cutV (ns.map V.int) none (some (63 : Int)) = ns.map V.int := by
      unfold cutV
      rw [show HT.sIx (ns.map V.int).length 0 none = 0 from rfl, show HT.sIx (ns.map V.int).length (ns.map V.int).length (some (63 : Int)) = min 63 (ns.map V.int).length from HT.sIx_nat _ _ 63, List.drop_zero, Nat.sub_zero]
      exact List.take_of_length_le (by rw [List.length_map]; omega)
    refine ⟨_, rfl, _, rfl, a, _, rfl, hs, fun l1 hl1 => ?_⟩
    rw [cutA]
    have e1 := Ex.new (o := .lst (ns.map V.int)) hl1
    have h1 : upd H l1 (.lst (ns.map V.int)) l1 = some (.lst (ns.map V.int)) := upd_same
    generalize upd H l1 (.lst (ns.map V.int)) = H1 at e1 h1 ⊢
    refine ⟨l1, rfl, ⟨_, SqL.of h1⟩, for_list (K := K) (a := l1) (xs := ns.map V.int) (fun i σ G => ∃ (v2 : Option V) (sd : Int), σ = [some (.ref a), some (.int sd), v2] ∧ G = H1) ⟨none, 20, rfl, rfl⟩ (fun i σ G _ ⟨_, _, _, e⟩ => by rw [e]; exact SqL.of h1) ?_ ?_⟩
    · rintro i x σ G hx ⟨v2, sd, rfl, rfl⟩
      obtain ⟨z, hz, rfl⟩ := markV_int hx
      walk_at "r"
      exact ⟨_, _, rfl, rfl⟩
    rintro σ G ⟨v2, sd, rfl, rfl⟩
    refine ⟨_, rfl, _, rfl, a, _, rfl, sqL_ex e1 hs, fun l2 hl2 => ?_⟩
    rw [cutA]
    have e2 := Ex.new (o := .lst (ns.map V.int)) hl2
    have h2 : upd G l2 (.lst (ns.map V.int)) l2 = some (.lst (ns.map V.int)) := upd_same
    generalize upd G l2 (.lst (ns.map V.int)) = H2 at e2 h2 ⊢
    refine ⟨l2, _, rfl, Or.inl (SqL.of h2), fun c hc => ?_⟩
    have e3 := Ex.new (o := .lst (ns.map V.int)) hc
    have h3 : upd H2 c (.lst (ns.map V.int)) c = some (.lst (ns.map V.int)) := upd_same
    generalize upd H2 c (.lst (ns.map V.int)) = H3 at e3 h3 ⊢
    refine ⟨_, rfl, (by show 5 ≤ sizeLine; decide), fun b hb => ?_⟩
    have e4 := Ex.new (o := .lst [V.ref c, V.int 0, V.int 0, V.int 0, V.int sd]) hb
    have e13 := (e1.trans e2).trans e3
    exact k b c _ (back_none e13 hb) (back_none (e1.trans e2) hc) (e13.trans e4) ⟨ns, 0, 0, 0, sd, upd_same, e4 _ _ h3, by decide, by decide⟩

end

section
variable {P : Program} {w : World} {K : PySem.W.Frag} {mg : Str → Option Value} {base : Heap} {A : Ad}
theorem ok_law_draw (T : Txt K mg A)  (g_law_mix : Okd P w K mg base CX0 1 A.law_mix P_law_mix spMix) : Okd P w K mg base CX0 2 A.law_draw P_law_draw spDw := by
  obtain ⟨fd, F⟩ := T.d_law_draw
  obtain ⟨fd_law_mix, G_law_mix, b_law_mix⟩ := g_law_mix
  refine ⟨fd, F.ok sc_law_draw (fun vs H Q E h => ?_) (fun cdv A' outer s H vs Q E hr h => ?_), F.binds fun _ _ _ _ _ _ us hl => match us, hl with | [_, _], _ => rfl⟩
  · obtain ⟨b, c, n, rfl, _⟩ := h
    rfl
  · obtain ⟨b, c, n, rfl, n0, n1, B, k⟩ := h
    refine ⟨_, (pss_cons (ps_asg (pe_op op_add (pe_ix ix_list (pv 0) pe_int (fun _ _ => rfl)) pe_int) (pg_sub (pv 0) pe_int set_list))
      (pss_cut (ps_if (PW.pt (pw_and (pt_cmpR op_eq (pe_ix ix_list (pv 0) pe_int (fun _ _ => rfl)) pe_int (nomark _)) (pw_and1 (pt_cmpR op_lt (pe_ix ix_list (pv 0) pe_int (fun _ _ => rfl)) (pe_callB call_len_seq (by rfl) T.n_len PySem.boot_len (pa_cons (pe_ix ix_list (pv 0) pe_int (fun _ _ => rfl)) pa_nil)) (nomark _))))) (pss_cons (ps_set (i := 2) sc_law_draw.nd rfl (Or.inl rfl) (pe_ix ix_list (pe_ix ix_list (pv 0) pe_int (fun _ _ => rfl)) (pe_ix ix_list (pv 0) pe_int (fun _ _ => rfl)) (fun _ _ => rfl)))
      (pss_cons (ps_asg (pe_op op_add (pe_ix ix_list (pv 0) pe_int (fun _ _ => rfl)) pe_int) (pg_sub (pv 0) pe_int set_list))
      (pss_cons (ps_if (pt_cmpR op_lt (pe_callB call_abs (by rfl) T.n_abs (by decide +kernel) (pa_cons (pv 2) pa_nil)) (pe_op op_pow pe_int pe_int) (nomark _)) (pss_one (ps_ret (pe_op op_mod (pe_callTy call_int1 (by rfl) T.n_int (by decide +kernel) (pa_cons (pe_call G_law_mix (hr.mono (by decide)) (by rfl) T.g_law_mix T.k_law_mix b_law_mix .nil pass0 (pa_cons (pv 2) (pa_cons (pe_ix ix_list (pv 0) pe_int (fun _ _ => rfl)) pa_nil))) pa_nil)) (pv 1)))) pss_nil)
      (pss_one (ps_asg (pe_callB call_abs (by rfl) T.n_abs (by decide +kernel) (pa_cons (pv 2) pa_nil)) (pg_sub (pv 0) pe_int set_list)))))) pss_nil)
      (pss_cons (ps_if (pt_cmpR op_gt (pe_ix ix_list (pv 0) pe_int (fun _ _ => rfl)) pe_int (nomark _)) (pss_cons (ps_set (i := 3) sc_law_draw.nd rfl (Or.inl rfl) (pe_ix ix_list (pv 0) pe_int (fun _ _ => rfl)))
      (pss_cons (ps_asg (pe_op op_fdivW (pv 3) (pv 1)) (pg_sub (pv 0) pe_int set_list))
      (pss_one (ps_ret (pe_op op_mod (pe_callTy call_int1 (by rfl) T.n_int (by decide +kernel) (pa_cons (pv 3) pa_nil)) (pv 1)))))) pss_nil)
      (pss_one (ps_ret (pe_op op_mod (pe_callTy call_int1 (by rfl) T.n_int (by decide +kernel) (pa_cons (pe_call G_law_mix (hr.mono (by decide)) (by rfl) T.g_law_mix T.k_law_mix b_law_mix .nil pass0 (pa_cons (pe_ix ix_list (pv 0) pe_int (fun _ _ => rfl)) (pa_cons (pe_ix ix_list (pv 0) pe_int (fun _ _ => rfl)) pa_nil))) pa_nil)) (pv 1))))))), ?_⟩
    have nbc := B.bc
    have fin : ∀ (z : Int) H', Bx H' b c → Mut b H H' → Q (V.int (z % n)) H' := fun z H' B' M' => by
      obtain ⟨d, hd⟩ := Int.eq_ofNat_of_zero_le (Int.emod_nonneg z (by omega : n ≠ 0))
      have hdl := Int.emod_lt_of_pos z n0
      rw [hd] at hdl ⊢
      exact k d H' hdl B' M'
    obtain ⟨ns, d0, i0, k0, s0, hb, hc, p1, p2⟩ := B
    refine ⟨_, rfl, b, _, _, _, rfl, rfl, SqL.of hb, atI_nat (j := 3) rfl, _, _, rfl, rfl, _, rfl, b, _, _, 3, rfl, rfl, hb, Evl.ixN_nat (j := 3) (by show 3 < 5; decide), ?_⟩
    have hb1 : upd H b (.lst ([V.ref c, V.int d0, V.int i0, V.int k0, V.int s0].set 3 (V.int (k0 + 1)))) b = some (.lst [V.ref c, V.int d0, V.int i0, V.int (k0 + 1), V.int s0]) := upd_same
    have K1 : ∀ x o, x ≠ b → H x = some o → upd H b (.lst ([V.ref c, V.int d0, V.int i0, V.int k0, V.int s0].set 3 (V.int (k0 + 1)))) x = some o := fun x o h1 h => by rw [upd_ne h1]; exact h
    generalize upd H b (.lst ([V.ref c, V.int d0, V.int i0, V.int k0, V.int s0].set 3 (V.int (k0 + 1)))) = H1 at hb1 K1 ⊢
    have hc1 := K1 _ _ (Ne.symm nbc) hc
    refine ⟨fun σ G => ∃ (v2 : Option V) (d i k s : Int), σ = [some (.ref b), some (.int n), v2, none] ∧ G b = some (.lst [.ref c, .int d, .int i, .int k, .int s]) ∧ 0 ≤ d ∧ 0 ≤ i ∧ (∀ x o, x ≠ b → H x = some o → G x = some o), ?_, ?_⟩
    · refine ⟨_, rfl, b, _, _, _, rfl, rfl, SqL.of hb1, atI_nat (j := 1) rfl, rfl, _, rfl, ?_⟩
      have fin0 : ∃ (v2 : Option V) (d i k s : Int), [some (V.ref b), some (V.int n), none, none] = [some (.ref b), some (.int n), v2, none] ∧ H1 b = some (.lst [.ref c, .int d, .int i, .int k, .int s]) ∧ 0 ≤ d ∧ 0 ≤ i ∧ (∀ x o, x ≠ b → H x = some o → H1 x = some o) := ⟨none, d0, i0, k0 + 1, s0, rfl, hb1, p1, p2, K1⟩
      refine ite_b (fun c1 => ?_) (fun _ => fin0)
      refine ⟨_, rfl, b, _, _, _, rfl, rfl, SqL.of hb1, atI_nat (j := 2) rfl, _, rfl, b, _, _, _, rfl, rfl, SqL.of hb1, atI_nat (j := 0) rfl, c, _, rfl, .inl (SqL.of hc1), _, _, rfl, rfl, _, rfl, ?_⟩
      refine ite_b (fun c2 => ?_) (fun _ => fin0)
      have c2 := of_decide_eq_true c2
      rw [List.length_map] at c2
      obtain ⟨i0, rfl⟩ := Int.eq_ofNat_of_zero_le p2
      have il : i0 < ns.length := by omega
      have az : atI (ns.map V.int) ((i0 : Nat) : Int) = some (V.int (ns[i0])) := atI_nat (by rw [List.getElem?_map, List.getElem?_eq_getElem il]; rfl)
      generalize ns[i0] = cell at az
      refine ⟨_, rfl, b, _, _, _, rfl, rfl, SqL.of hb1, atI_nat (j := 0) rfl, _, rfl, b, _, _, _, rfl, rfl, SqL.of hb1, atI_nat (j := 2) rfl, c, _, _, _, rfl, rfl, SqL.of hc1, az, ?_⟩
      refine ⟨_, rfl, b, _, _, _, rfl, rfl, SqL.of hb1, atI_nat (j := 2) rfl, _, _, rfl, rfl, _, rfl, b, _, _, 2, rfl, rfl, hb1, Evl.ixN_nat (j := 2) (by show 2 < 5; decide), ?_⟩
      have hb2 : upd H1 b (.lst ([V.ref c, V.int d0, V.int (i0 : Int), V.int (k0 + 1), V.int s0].set 2 (V.int ((i0 : Int) + 1)))) b = some (.lst [V.ref c, V.int d0, V.int ((i0 : Int) + 1), V.int (k0 + 1), V.int s0]) := upd_same
      have K2 : ∀ x o, x ≠ b → H x = some o → upd H1 b (.lst ([V.ref c, V.int d0, V.int (i0 : Int), V.int (k0 + 1), V.int s0].set 2 (V.int ((i0 : Int) + 1)))) x = some o := fun x o h1 h => by rw [upd_ne h1]; exact K1 x o h1 h
      generalize upd H1 b (.lst ([V.ref c, V.int d0, V.int (i0 : Int), V.int (k0 + 1), V.int s0].set 2 (V.int ((i0 : Int) + 1)))) = H2 at hb2 K2 ⊢
      refine ⟨_, rfl, _, rfl, _, _, rfl, rfl, ⟨by decide, by decide, by decide⟩, _, _, rfl, rfl, _, rfl, ?_⟩
      refine ite_b (fun c3 => ?_) (fun c3 => ?_)
      · refine ⟨_, rfl, _, rfl, b, _, _, _, rfl, rfl, SqL.of hb2, atI_nat (j := 3) rfl, cell, _, rfl, fun z => ?_⟩
        refine Or.inl ⟨_, rfl, _, rfl, _, _, rfl, rfl, n0, ?_⟩
        exact fin z H2 ⟨ns, d0, (i0 : Int) + 1, k0 + 1, s0, hb2, K2 _ _ (Ne.symm nbc) hc, p1, by omega⟩ K2
      · refine ⟨_, rfl, _, rfl, _, rfl, b, _, _, 1, rfl, rfl, hb2, Evl.ixN_nat (j := 1) (by show 1 < 5; decide), ?_⟩
        refine ⟨_, (if cell < 0 then -cell else cell), (i0 : Int) + 1, k0 + 1, s0, rfl, upd_same, by split <;> omega, by omega, fun x o h1 h => by rw [upd_ne h1]; exact K2 x o h1 h⟩
    rintro σ G ⟨v2, d, i, k1, s, rfl, hG, q1, q2, KG⟩
    have hcG := KG _ _ (Ne.symm nbc) hc
    refine ⟨_, rfl, b, _, _, _, rfl, rfl, SqL.of hG, atI_nat (j := 1) rfl, _, _, rfl, rfl, _, rfl, ?_⟩
    refine ite_b (fun c1 => ?_) (fun c1 => ?_)
    · have c1 := of_decide_eq_true c1
      refine ⟨_, rfl, b, _, _, _, rfl, rfl, SqL.of hG, atI_nat (j := 1) rfl, ?_⟩
      refine ⟨_, rfl, _, rfl, _, _, rfl, rfl, wide_div (b := 60) (by omega) (by omega) (by decide) (by decide), _, rfl, b, _, _, 1, rfl, rfl, hG, Evl.ixN_nat (j := 1) (by show 1 < 5; decide), ?_⟩
      refine ⟨_, rfl, Or.inl ⟨_, rfl, _, rfl, _, _, rfl, rfl, n0, ?_⟩⟩
      have K3 : ∀ x o, x ≠ b → H x = some o → upd G b (.lst ([V.ref c, V.int d, V.int i, V.int k1, V.int s].set 1 (V.int (d / n)))) x = some o := fun x o h1 h => by rw [upd_ne h1]; exact KG x o h1 h
      exact fin d _ ⟨ns, d / n, i, k1, s, upd_same, K3 _ _ (Ne.symm nbc) hc, Int.ediv_nonneg (by omega) (by omega), q2⟩ K3
    · refine ⟨_, rfl, b, _, _, _, rfl, rfl, SqL.of hG, atI_nat (j := 4) rfl, _, rfl, b, _, _, _, rfl, rfl, SqL.of hG, atI_nat (j := 3) rfl, s, k1, rfl, fun z => ?_⟩
      refine Or.inl ⟨_, rfl, _, rfl, _, _, rfl, rfl, n0, ?_⟩
      exact fin z G ⟨ns, d, i, k1, s, hG, hcG, q1, q2⟩ KG

end

section
variable {P : Program} {w : World} {K : PySem.W.Frag} {mg : Str → Option Value} {base : Heap} {A : Ad}
theorem ok_law_mix (T : Txt K mg A)   : Okd P w K mg base CX0 1 A.law_mix P_law_mix spMix := by
  obtain ⟨fd, F⟩ := T.d_law_mix

  refine ⟨fd, F.ok sc_law_mix (fun vs H Q E h => ?_) (fun cdv A' outer s H vs Q E hr h => ?_), F.binds fun _ _ _ _ _ _ us hl => match us, hl with | [_, _], _ => rfl⟩
  · obtain ⟨x, y, rfl, _⟩ := h
    rfl
  · obtain ⟨x, y, rfl, k⟩ := h
    refine ⟨_, (pss_cons (ps_set (i := 2) sc_law_mix.nd rfl (Or.inl rfl) (pe_op op_mod (pe_callTy call_int1 (by rfl) T.n_int (by decide +kernel) (pa_cons (pe_op op_add (pe_op op_add (pe_op op_mul (pv 0) pe_int) (pe_op op_mul (pv 1) pe_int)) pe_int) pa_nil)) pe_int))
      (pss_cons (ps_set (i := 3) sc_law_mix.nd rfl (Or.inl rfl) (pe_op op_mod (pe_callTy call_int1 (by rfl) T.n_int (by decide +kernel) (pa_cons (pe_op op_add (pe_op op_add (pe_op op_mul (pv 2) (pv 2)) (pe_op op_mul (pv 1) pe_int)) pe_int) pa_nil)) pe_int))
      (pss_one (ps_ret (pe_op op_mod (pe_callTy call_int1 (by rfl) T.n_int (by decide +kernel) (pa_cons (pe_op op_add (pe_op op_mul (pv 3) (pv 3)) (pv 2)) pa_nil)) pe_int))))), ?_⟩
    walk_at "r"
    exact k _

end

section
variable {P : Program} {w : World} {K : PySem.W.Frag} {mg : Str → Option Value} {base : Heap} {A : Ad}
theorem ok_law_whole (T : Txt K mg A)   : Okd P w K mg base CX0 1 A.law_whole P_law_whole spWh := by
  obtain ⟨fd, F⟩ := T.d_law_whole

  refine ⟨fd, F.ok sc_law_whole (fun vs H Q E h => ?_) (fun cdv A' outer s H vs Q E hr h => ?_), F.binds fun _ _ _ _ _ _ us hl => match us, hl with | [_, _], _ => rfl⟩
  · obtain ⟨i, j, rfl, _⟩ := h
    rfl
  · obtain ⟨i, j, rfl, k⟩ := h
    refine ⟨_, (pss_one (ps_ret (pe_and (pe_callB call_isi (by rfl) T.n_isinstance (by decide +kernel) (pa_cons (pv 0) (pa_cons (pe_bltn (v := .ty "int") (u := .type "int") (by rfl) T.n_int (by decide +kernel) rfl) pa_nil))) (pe_and (pe_not (pe_callB call_isi (by rfl) T.n_isinstance (by decide +kernel) (pa_cons (pv 0) (pa_cons (pe_bltn (v := .ty "bool") (u := .type "bool") (by rfl) T.n_bool (by decide +kernel) rfl) pa_nil)))) (pe_one (pe_cmpR op_eq (pv 0) (pv 1) (nomark _))))))), ?_⟩
    refine ⟨_, rfl, _, _, _, _, true, rfl, ClsV.ty "int", TyX.base (TyOf.int _), kit_ty (by decide +kernel), ?_⟩
    refine ⟨true, rfl, ?_⟩
    refine iteT ?_
    refine ⟨_, rfl, _, _, _, _, false, rfl, ClsV.ty "bool", TyX.base (TyOf.int _), kit_ty (by decide +kernel), ?_⟩
    refine ⟨false, rfl, ?_⟩
    refine ⟨_, rfl, iteT ?_⟩
    exact ⟨_, rfl, _, rfl, rfl, by rw [show decide (V.int i = V.int j) = decide (i = j) from by
      by_cases c : i = j
      · rw [c, decide_eq_true rfl, decide_eq_true rfl]
      · rw [decide_eq_false c, decide_eq_false (fun h => by injection h with h; exact c h)]]; exact k⟩

end

section
variable {P : Program} {w : World} {K : PySem.W.Frag} {mg : Str → Option Value} {base : Heap} {A : Ad}
theorem ok_law_row (T : Txt K mg A)  (g_law_whole : Okd P w K mg base CX0 1 A.law_whole P_law_whole spWh) : Okd P w K mg base CX0 2 A.law_row P_law_row spRw := by
  obtain ⟨fd, F⟩ := T.d_law_row
  obtain ⟨fd_law_whole, G_law_whole, b_law_whole⟩ := g_law_whole
  refine ⟨fd, F.ok sc_law_row (fun vs H Q E h => ?_) (fun cdv A' outer s H vs Q E hr h => ?_), F.binds fun _ _ _ _ _ _ us hl => match us, hl with | [_, _], _ => rfl⟩
  · obtain ⟨t, d, xs, rfl, _⟩ := h
    rfl
  · obtain ⟨t, d, xs, rfl, ht, hd, hl, k⟩ := h
    refine ⟨_, (pss_cons (ps_if (PW.pt (pw_or (pt_not (pt_val (pe_callB call_isi (by rfl) T.n_isinstance (by decide +kernel) (pa_cons (pv 0) (pa_cons (pe_bltn (v := .ty "list") (u := .type "list") (by rfl) T.n_list (by decide +kernel) rfl) pa_nil))))) (pw_or1 (pt_cmpR op_ne (pe_callB call_len_seq (by rfl) T.n_len PySem.boot_len (pa_cons (pv 0) pa_nil)) (pe_callB call_len_seq (by rfl) T.n_len PySem.boot_len (pa_cons (pv 1) pa_nil)) (nomark _))))) (pss_one (ps_ret pe_bl)) pss_nil)
      (pss_cons (ps_for PassesOwn.never rfl (pi_range1 (by rfl) T.n_range (pa_cons (pe_callB call_len_seq (by rfl) T.n_len PySem.boot_len (pa_cons (pv 1) pa_nil)) pa_nil)) (pg_name (i := 2) sc_law_row.nd rfl (Or.inl rfl)) (pss_one (ps_if (pt_not (pt_val (pe_call G_law_whole (hr.mono (by decide)) (by rfl) T.g_law_whole T.k_law_whole b_law_whole .nil pass0 (pa_cons (pe_ix ix_list (pv 0) (pv 2) (fun _ _ => rfl)) (pa_cons (pe_ix ix_list (pv 1) (pv 2) (fun _ _ => rfl)) pa_nil))))) (pss_one (ps_ret pe_bl)) pss_nil)))
      (pss_one (ps_ret pe_bl)))), ?_⟩
    refine ⟨_, rfl, _, _, _, _, true, rfl, ClsV.ty "list", TyX.base (TyOf.lst ht), kit_ty (by decide +kernel), ?_⟩
    refine ⟨true, rfl, ?_⟩
    refine iteF ?_
    refine ⟨_, rfl, t, _, rfl, .inl ht.sz, _, rfl, d, _, rfl, .inl hd.sz, rfl, _, rfl, ?_⟩
    rw [show (!decide (V.int ((nI xs).length : Nat) = V.int ((nI xs).length : Nat))) = false from by simp]
    refine iteF ?_
    refine ⟨_, rfl, d, _, rfl, .inl hd.sz, _, rfl, by rw [nI_len]; omega, by rw [nI_len]; omega, ?_⟩
    rw [nI_len, Int.toNat_natCast]
    refine for_range (lo := 0) (n := xs.length) (fun i σ G => ∃ v2, σ = [some (.ref t), some (.ref d), v2] ∧ Ex H G) ⟨none, rfl, Ex.refl H⟩ ?_ ?_
    · rintro i σ G hi ⟨v2, rfl, e⟩
      rw [Int.zero_add]
      refine ⟨_, rfl, _, rfl, t, _, _, _, rfl, rfl, (ht.ex e).sz, atN hi, _, rfl, _, rfl, d, _, _, _, rfl, rfl, (hd.ex e).sz, atN hi, _, _, rfl, ?_⟩
      rw [decide_eq_true rfl]
      refine ⟨true, rfl, ?_⟩
      exact iteF ⟨_, rfl, e⟩
    · rintro σ G ⟨v2, rfl, e⟩
      exact k G e

end

section
variable {P : Program} {w : World} {K : PySem.W.Frag} {mg : Str → Option Value} {base : Heap} {A : Ad}
theorem ok_law_kind_told (T : Txt K mg A)  (g_law_whole : Okd P w K mg base CX0 1 A.law_whole P_law_whole spWh) : Okd P w K mg base CX0 2 A.law_kind_told P_law_kind_told spKtd8 := by
  obtain ⟨fd, F⟩ := T.d_law_kind_told
  obtain ⟨fd_law_whole, G_law_whole, b_law_whole⟩ := g_law_whole
  refine ⟨fd, F.ok sc_law_kind_told (fun vs H Q E h => ?_) (fun cdv A' outer s H vs Q E hr h => ?_), F.binds fun _ _ _ _ _ _ us hl => match us, hl with | [_, _], _ => rfl⟩
  · obtain ⟨t, d, es, rfl, _⟩ := h
    rfl
  · obtain ⟨t, d, es, rfl, ht, hd, hl, k⟩ := h
    refine ⟨_, (pss_cons (ps_if (PW.pt (pw_or (pt_not (pt_val (pe_callB call_isi (by rfl) T.n_isinstance (by decide +kernel) (pa_cons (pv 0) (pa_cons (pe_bltn (v := .ty "tuple") (u := .type "tuple") (by rfl) T.n_tuple (by decide +kernel) rfl) pa_nil))))) (pw_or1 (pt_cmpR op_ne (pe_callB call_len_seq (by rfl) T.n_len PySem.boot_len (pa_cons (pv 0) pa_nil)) (pe_callB call_len_seq (by rfl) T.n_len PySem.boot_len (pa_cons (pv 1) pa_nil)) (nomark _))))) (pss_one (ps_ret pe_bl)) pss_nil)
      (pss_cons (ps_for PassesOwn.never rfl (pi_range1 (by rfl) T.n_range (pa_cons (pe_callB call_len_seq (by rfl) T.n_len PySem.boot_len (pa_cons (pv 1) pa_nil)) pa_nil)) (pg_name (i := 2) sc_law_kind_told.nd rfl (Or.inl rfl)) (pss_cons (ps_if (PW.pt (pw_or (pt_not (pt_val (pe_callB call_isi (by rfl) T.n_isinstance (by decide +kernel) (pa_cons (pe_ix ix_tup (pv 0) (pv 2) (fun _ _ => rfl)) (pa_cons (pe_bltn (v := .ty "tuple") (u := .type "tuple") (by rfl) T.n_tuple (by decide +kernel) rfl) pa_nil))))) (pw_or1 (pt_cmpR op_ne (pe_callB call_len_seq (by rfl) T.n_len PySem.boot_len (pa_cons (pe_ix ix_tup (pv 0) (pv 2) (fun _ _ => rfl)) pa_nil)) pe_int (nomark _))))) (pss_one (ps_ret pe_bl)) pss_nil)
      (pss_cons (ps_if (PW.pt (pw_or (pt_not (pt_val (pe_callB call_isi (by rfl) T.n_isinstance (by decide +kernel) (pa_cons (pe_ix ix_tup (pe_ix ix_tup (pv 0) (pv 2) (fun _ _ => rfl)) pe_int (fun _ _ => rfl)) (pa_cons (pe_bltn (v := .ty "str") (u := .type "str") (by rfl) T.n_str (by decide +kernel) rfl) pa_nil))))) (pw_or1 (pt_cmpR op_ne (pe_ix ix_tup (pe_ix ix_tup (pv 0) (pv 2) (fun _ _ => rfl)) pe_int (fun _ _ => rfl)) (pe_ix ix_tup (pe_ix ix_tup (pv 1) (pv 2) (fun _ _ => rfl)) pe_int (fun _ _ => rfl)) (nomark _))))) (pss_one (ps_ret pe_bl)) pss_nil)
      (pss_one (ps_if (PW.pt (pw_or (pt_not (pt_val (pe_call G_law_whole (hr.mono (by decide)) (by rfl) T.g_law_whole T.k_law_whole b_law_whole .nil pass0 (pa_cons (pe_ix ix_tup (pe_ix ix_tup (pv 0) (pv 2) (fun _ _ => rfl)) pe_int (fun _ _ => rfl)) (pa_cons (pe_ix ix_tup (pe_ix ix_tup (pv 1) (pv 2) (fun _ _ => rfl)) pe_int (fun _ _ => rfl)) pa_nil))))) (pw_or1 (pt_not (pt_val (pe_call G_law_whole (hr.mono (by decide)) (by rfl) T.g_law_whole T.k_law_whole b_law_whole .nil pass0 (pa_cons (pe_ix ix_tup (pe_ix ix_tup (pv 0) (pv 2) (fun _ _ => rfl)) pe_int (fun _ _ => rfl)) (pa_cons (pe_ix ix_tup (pe_ix ix_tup (pv 1) (pv 2) (fun _ _ => rfl)) pe_int (fun _ _ => rfl)) pa_nil)))))))) (pss_one (ps_ret pe_bl)) pss_nil)))))
      (pss_one (ps_ret pe_bl)))), ?_⟩
    obtain ⟨ts, hts, tl, tat⟩ := ht
    obtain ⟨ds, hds, dl, dat⟩ := hd
    refine ⟨_, rfl, _, _, _, _, true, rfl, ClsV.ty "tuple", TyX.base (TyOf.tup hts), kit_ty (by decide +kernel), ?_⟩
    refine ⟨true, rfl, ?_⟩
    refine iteF ?_
    refine ⟨_, rfl, t, _, rfl, .inr (SqT.of hts), _, rfl, d, _, rfl, .inr (SqT.of hds), rfl, _, rfl, ?_⟩
    rw [dne, List.length_map, List.length_map, tl, dl, show decide (es.length ≠ es.length) = false from decide_eq_false (fun h => h rfl)]
    refine iteF ?_
    refine ⟨_, rfl, d, _, rfl, .inr (SqT.of hds), _, rfl, by rw [List.length_map, dl]; omega, by rw [List.length_map, dl]; omega, ?_⟩
    rw [List.length_map, dl, Int.toNat_natCast]
    refine for_range (lo := 0) (n := es.length) (fun i σ G => ∃ v2, σ = [some (.ref t), some (.ref d), v2] ∧ Ex H G) ⟨none, rfl, Ex.refl H⟩ ?_ ?_
    · rintro i σ G hi ⟨v2, rfl, e⟩
      rw [Int.zero_add]
      have t1 : ts[i]? = some ts[i] := List.getElem?_eq_getElem (by omega)
      have d1 : ds[i]? = some ds[i] := List.getElem?_eq_getElem (by omega)
      have c1 : es[i]? = some es[i] := List.getElem?_eq_getElem hi
      have p1 := tat i _ _ t1 c1
      have p2 := dat i _ _ d1 c1
      generalize es[i] = c at p1 p2
      generalize ts[i] = ti at p1 t1
      generalize ds[i] = di at p2 d1
      have htG := e _ _ hts
      have hdG := e _ _ hds
      have p1G := e _ _ p1
      have p2G := e _ _ p2
      refine ⟨_, rfl, _, rfl, t, _, _, _, rfl, rfl, SqT.of htG, atR t1, _, _, _, _, true, rfl, ClsV.ty "tuple", TyX.base (TyOf.tup p1G), kit_ty (by decide +kernel), ?_⟩
      refine ⟨true, rfl, ?_⟩
      refine iteF ?_
      refine ⟨_, rfl, _, rfl, t, _, _, _, rfl, rfl, SqT.of htG, atR t1, ti, _, rfl, .inr (SqT.of p1G), rfl, _, rfl, ?_⟩
      refine ifF (ndec rfl) ?_
      refine ⟨_, rfl, _, rfl, t, _, _, _, rfl, rfl, SqT.of htG, atR t1, ti, _, _, _, rfl, rfl, SqT.of p1G, atI_nat (j := 0) rfl, _, _, _, _, true, rfl, ClsV.ty "str", TyX.base (TyOf.str _), kit_ty (by decide +kernel), ?_⟩
      refine ⟨true, rfl, ?_⟩
      refine iteF ?_
      refine ⟨_, rfl, _, rfl, t, _, _, _, rfl, rfl, SqT.of htG, atR t1, ti, _, _, _, rfl, rfl, SqT.of p1G, atI_nat (j := 0) rfl, _, rfl, _, rfl, d, _, _, _, rfl, rfl, SqT.of hdG, atR d1, di, _, _, _, rfl, rfl, SqT.of p2G, atI_nat (j := 0) rfl, rfl, _, rfl, ?_⟩
      refine ifF (ndec rfl) ?_
      refine ⟨_, rfl, _, rfl, t, _, _, _, rfl, rfl, SqT.of htG, atR t1, ti, _, _, _, rfl, rfl, SqT.of p1G, atI_nat (j := 1) rfl, _, rfl, _, rfl, d, _, _, _, rfl, rfl, SqT.of hdG, atR d1, di, _, _, _, rfl, rfl, SqT.of p2G, atI_nat (j := 1) rfl, c.2.1, c.2.1, rfl, ?_⟩
      refine ⟨_, rfl, ?_⟩
      refine ifF (ndec rfl) ?_
      refine ⟨_, rfl, _, rfl, t, _, _, _, rfl, rfl, SqT.of htG, atR t1, ti, _, _, _, rfl, rfl, SqT.of p1G, atI_nat (j := 2) rfl, _, rfl, _, rfl, d, _, _, _, rfl, rfl, SqT.of hdG, atR d1, di, _, _, _, rfl, rfl, SqT.of p2G, atI_nat (j := 2) rfl, c.2.2, c.2.2, rfl, ?_⟩
      refine ⟨_, rfl, ?_⟩
      refine ifF (ndec rfl) ?_
      exact ⟨_, rfl, e⟩
    · rintro σ G ⟨v2, rfl, e⟩
      exact k G e

end

section
variable {P : Program} {w : World} {K : PySem.W.Frag} {mg : Str → Option Value} {base : Heap} {A : Ad}
theorem ok_law_ascending (T : Txt K mg A)   : Okd P w K mg base CX0 1 A.law_ascending P_law_ascending spAsc := by
  obtain ⟨fd, F⟩ := T.d_law_ascending

  refine ⟨fd, F.ok sc_law_ascending (fun vs H Q E h => ?_) (fun cdv A' outer s H vs Q E hr h => ?_), F.binds fun _ _ _ _ _ _ us hl => match us, hl with | [_], _ => rfl⟩
  · obtain ⟨q, es, rfl, _⟩ := h
    rfl
  · obtain ⟨q, es, rfl, hq, hl, h2, k⟩ := h
    refine ⟨_, (pss_cons (ps_set (i := 1) sc_law_ascending.nd rfl (Or.inl rfl) (pe_lst pa_nil))
      (pss_cons (ps_for PassesOwn.never rfl (pi_list (pv 0)) (pg_name (i := 2) sc_law_ascending.nd rfl (Or.inl rfl)) (pss_cons (ps_set (i := 3) sc_law_ascending.nd rfl (Or.inl rfl) pe_int)
      (pss_cons (ps_while PassesOwn.never (PW.pt (pw_and (pt_cmpR op_lt (pv 3) (pe_callB call_len_seq (by rfl) T.n_len PySem.boot_len (pa_cons (pv 1) pa_nil)) (nomark _)) (pw_and1 (pt_cmpR (DaS.op_leD hr.units) (pe_ix ix_list (pv 1) (pv 3) (fun _ _ => rfl)) (pv 2) (nomark _))))) (pss_one (ps_set (i := 3) sc_law_ascending.nd rfl (Or.inl rfl) (pe_op op_add (pv 3) pe_int))))
      (pss_one (ps_expr (pe_bm PySem.F.plainAttrs_list PySem.F.slot_list_insert PySem.F.type_list_insert mt_insert (pv 1) (pa_cons (pv 3) (pa_cons (pv 2) pa_nil))))))))
      (pss_one (ps_ret (pv 1))))), ?_⟩
    obtain ⟨ts, hts, tl, tat⟩ := hq
    refine ⟨(by show 0 ≤ sizeLine; decide), fun D hD => ?_⟩
    have e0 := Ex.new (o := .lst []) hD
    have hD0 : upd H D (.lst []) D = some (.lst []) := upd_same
    have nqD : q ≠ D := ne_of_none hts hD
    generalize upd H D (.lst []) = H1 at e0 hD0 ⊢
    have hts1 := e0 _ _ hts
    refine ⟨_, rfl, q, rfl, ⟨_, SqL.of hts1⟩, for_list (K := K) (a := q) (xs := ts.map V.ref) (fun i σ G => ∃ (v2 v3 : Option V) (us : List Addr) (fs : List Ent), σ = [some (.ref q), some (.ref D), v2, v3] ∧ (∀ x o, x ≠ D → H1 x = some o → G x = some o) ∧ G D = some (.lst (us.map V.ref)) ∧ us.length = fs.length ∧ (∀ (j : Nat) (t : Addr) (e : Ent), us[j]? = some t → fs[j]? = some e → EntAt H t e) ∧ fs.Perm (es.take i) ∧ fs.Pairwise (fun e f => leE e f = true)) ⟨none, none, [], [], rfl, fun _ _ _ h => h, hD0, rfl, (fun j t e z => by cases z), List.Perm.refl _, List.Pairwise.nil⟩ (fun i σ G _ ⟨_, _, _, _, _, K1, _⟩ => SqL.of (K1 _ _ nqD hts1)) ?_ ?_⟩
    · rintro i x σ G hx ⟨v2, v3, us, fs, rfl, K1, hus, ul, uat, pm, pw⟩
      obtain ⟨t1, ht1, rfl⟩ := ref_at hx
      have il : i < es.length := by have := (List.getElem?_eq_some_iff.mp ht1).1; omega
      have he1 : es[i]? = some es[i] := List.getElem?_eq_getElem il
      have E1 := tat i _ _ ht1 he1
      have w1 := h2 _ (List.getElem_mem il)
      have pm1 : es.take (i + 1) = es.take i ++ [es[i]] := by rw [List.take_add_one, he1]; rfl
      rw [pm1]
      generalize es[i] = e1 at E1 w1 ⊢
      have GE : ∀ t e, EntAt H t e → EntAt G t e := fun t e h => K1 _ _ (ne_of_none h hD) (e0 _ _ h)
      have fl : fs.length ≤ 64 := by
        have := pm.length_eq
        rw [List.length_take] at this
        omega
      have ln : (us.map V.ref).length = us.length := List.length_map ..
      have w2 : ∀ f ∈ fs, f.1 < 2 := fun f hf => h2 f (List.mem_of_mem_take (pm.mem_iff.mp hf))
      have fin : ∀ j : Nat, j ≤ us.length → (∀ (k : Nat) f, k < j → fs[k]? = some f → leE f e1 = true) → (∀ (k : Nat) f, j ≤ k → fs[k]? = some f → leE e1 f = true) → ∀ v, (∃ (v2 v3 : Option V) (us' : List Addr) (fs' : List Ent), [some (.ref q), some (.ref D), some (V.ref t1), v] = [some (.ref q), some (.ref D), v2, v3] ∧ (∀ x o, x ≠ D → H1 x = some o → (upd G D (.lst (List.take ((j : Int)).toNat (us.map V.ref) ++ [V.ref t1] ++ List.drop ((j : Int)).toNat (us.map V.ref)))) x = some o) ∧ (upd G D (.lst (List.take ((j : Int)).toNat (us.map V.ref) ++ [V.ref t1] ++ List.drop ((j : Int)).toNat (us.map V.ref)))) D = some (.lst (us'.map V.ref)) ∧ us'.length = fs'.length ∧ (∀ (j : Nat) (t : Addr) (e : Ent), us'[j]? = some t → fs'[j]? = some e → EntAt H t e) ∧ fs'.Perm (es.take i ++ [e1]) ∧ fs'.Pairwise (fun e f => leE e f = true)) := by
        intro j hj lo hi v
        refine ⟨_, _, us.take j ++ [t1] ++ us.drop j, fs.take j ++ [e1] ++ fs.drop j, rfl, fun x o h1 h => by rw [upd_ne h1]; exact K1 x o h1 h, ?_, ?_, ins_at ul hj uat E1, ?_, ?_⟩
        · rw [upd_same, Int.toNat_natCast, List.map_append, List.map_append, List.map_take, List.map_drop]
          rfl
        · rw [List.length_append, List.length_append, List.length_append, List.length_append, List.length_take, List.length_take, List.length_drop, List.length_drop, ul]
          rfl
        · rw [List.append_assoc]
          refine (List.perm_middle (l₁ := fs.take j) (a := e1) (l₂ := fs.drop j)).trans ?_
          rw [List.take_append_drop]
          exact (List.perm_append_singleton e1 fs).symm.trans (pm.append_right [e1])
        · have pw' := pw
          rw [← List.take_append_drop j fs, List.pairwise_append] at pw'
          have lo' : ∀ a ∈ fs.take j, leE a e1 = true := fun a ha => by
            obtain ⟨k, hk, ek⟩ := List.getElem_of_mem ha
            rw [List.length_take] at hk
            rw [List.getElem_take] at ek
            exact lo k a (by omega) (by rw [List.getElem?_eq_getElem (by omega), ek])
          have hi' : ∀ b ∈ fs.drop j, leE e1 b = true := fun b hb => by
            obtain ⟨k, hk, ek⟩ := List.getElem_of_mem hb
            rw [List.length_drop] at hk
            rw [List.getElem_drop] at ek
            exact hi (j + k) b (by omega) (by rw [List.getElem?_eq_getElem (by omega), ek])
          rw [List.pairwise_append, List.pairwise_append]
          refine ⟨⟨pw'.1, List.pairwise_singleton _ _, fun a ha b hb => by rw [List.mem_singleton.mp hb]; exact lo' a ha⟩, pw'.2.1, fun a ha b hb => ?_⟩
          rcases List.mem_append.mp ha with ha | ha
          · exact pw'.2.2 a ha b hb
          · rw [List.mem_singleton.mp ha]
            exact hi' b hb
      refine ⟨fun m σ' G' => ∃ j : Nat, m = us.length - j ∧ j ≤ us.length ∧ σ' = [some (.ref q), some (.ref D), some (V.ref t1), some (.int (j : Int))] ∧ G' = G ∧ ∀ (k : Nat) f, k < j → fs[k]? = some f → leE f e1 = true, ⟨us.length, 0, (Nat.sub_zero _).symm, Nat.zero_le _, rfl, rfl, fun k f hk => absurd hk (Nat.not_lt_zero _)⟩, ?_⟩
      rintro m σ' G' ⟨j, rfl, hj, rfl, eG, lo⟩
      rw [eG]
      clear eG
      refine ⟨_, rfl, _, rfl, D, _, rfl, .inl (SqL.of hus), _, _, rfl, rfl, _, rfl, ?_⟩
      rw [ln]
      refine ite_b (fun c => ?_) (fun c => ?_)
      rotate_left
      · have c := of_decide_eq_false c
        refine ⟨_, rfl, Or.inl ⟨rfl, _, SqL.of hus⟩, _, rfl, _, rfl, D, _, (j : Int), _, rfl, rfl, hus, small1000 (by rw [ln]; omega), by omega, by omega, ?_⟩
        exact fin j hj lo (fun k f hk hf => by have := (List.getElem?_eq_some_iff.mp hf).1; omega) _
      have c := of_decide_eq_true c
      have jl : j < fs.length := by omega
      have hj1 : us[j]? = some us[j] := List.getElem?_eq_getElem (by omega)
      have hf1 : fs[j]? = some fs[j] := List.getElem?_eq_getElem jl
      have Ef := GE _ _ (uat j _ _ hj1 hf1)
      have wf := w2 _ (List.getElem_mem jl)
      refine ⟨_, rfl, _, rfl, D, _, _, _, rfl, rfl, SqL.of hus, atR hj1, _, rfl, encE fs[j], encE e1, ⟨dp_ent Ef, dp_ent (GE _ _ E1), alike_ent _ _, (fun h => by cases h), Nat.le_trans (depth_ent _) (by decide)⟩, _, rfl, ?_⟩
      rw [data_lt w1 wf, ← le_lt]
      refine ite_b (fun c2 => ?_) (fun c2 => ?_)
      rotate_left
      · refine ⟨_, rfl, Or.inl ⟨rfl, _, SqL.of hus⟩, _, rfl, _, rfl, D, _, (j : Int), _, rfl, rfl, hus, small1000 (by rw [ln]; omega), by omega, by omega, ?_⟩
        have tot : leE e1 fs[j] = true := (le_total' e1 fs[j]).resolve_right (by rw [c2]; decide)
        refine fin j hj lo (fun k f hk hf => ?_) _
        obtain ⟨kl, ek⟩ := List.getElem?_eq_some_iff.mp hf
        by_cases z : k = j
        · subst z
          rw [← ek]
          exact tot
        · rw [← ek]
          exact le_trans' tot (List.pairwise_iff_getElem.mp pw j k jl kl (by omega))
      refine ⟨fun σ' G' => σ' = [some (.ref q), some (.ref D), some (V.ref t1), some (.int ((j + 1 : Nat) : Int))] ∧ G' = G, fun σ' G' ⟨h1, h2⟩ => ⟨us.length - (j + 1), by omega, j + 1, rfl, by omega, h1, h2, fun k f hk hf => ?_⟩, ?_⟩
      · by_cases z : k = j
        · subst z
          rw [hf1] at hf
          rw [← Option.some.inj hf]
          exact c2
        · exact lo k f (by omega) hf
      · exact ⟨_, rfl, _, _, rfl, rfl, rfl, rfl⟩
    rintro σ G ⟨v2, v3, us, fs, rfl, K1, hus, ul, uat, pm, pw⟩
    rw [List.length_map, tl, List.take_length] at pm
    exact ⟨_, rfl, k D fs G hD (fun x o h => K1 x o (ne_of_none h hD) (e0 _ _ h)) ⟨us, hus, ul, fun i t e h1 h2 => by have h := uat i t e h1 h2; exact K1 _ _ (ne_of_none h hD) (e0 _ _ h)⟩ pm pw⟩

end

section
variable {P : Program} {w : World} {K : PySem.W.Frag} {mg : Str → Option Value} {base : Heap} {A : Ad}
theorem ok_walk (T : Txt K mg A)   : Okd P w K mg base CX0 1 A.walk P_walk spWk := by
  obtain ⟨fd, F⟩ := T.d_walk

  refine ⟨fd, F.ok sc_walk (fun vs H Q E h => ?_) (fun cdv A' outer s H vs Q E hr h => ?_), F.binds fun _ _ _ _ _ _ us hl => match us, hl with | [_, _, _], _ => rfl⟩
  · obtain ⟨a, b, ys, zs, w, s, rfl, _⟩ := h
    rfl
  · obtain ⟨a, b, ys, zs, w, s, rfl, ha, hb, hl, h65, T0, k⟩ := h
    refine ⟨_, (pss_cons (ps_set (i := 3) sc_walk.nd rfl (Or.inl rfl) (pe_lst (pa_cons (pv 2) pa_nil)))
      (pss_cons (ps_set (i := 4) sc_walk.nd rfl (Or.inl rfl) (pe_ix ix_list (pv 0) (pv 2) (fun _ _ => rfl)))
      (pss_cons (ps_while PassesOwn.never (PW.pt (pw_and (pt_cmpR op_ne (pv 4) (pe_ix ix_list (pv 3) (pe_un un_neg pe_int) (fun _ _ => rfl)) (nomark _)) (pw_and1 (pt_cmpR op_ne (pv 4) (pv 2) (nomark _))))) (pss_cons (ps_expr (pe_bm PySem.F.plainAttrs_list PySem.F.slot_list_append PySem.F.type_list_append mt_append (pv 3) (pa_cons (pv 4) pa_nil)))
      (pss_cons (ps_par (i := 0) (j := 1) rfl sc_walk.nd rfl rfl (by decide) rfl rfl (pa_cons (pv 1) (pa_cons (pv 0) pa_nil)) (by rfl))
      (pss_one (ps_set (i := 4) sc_walk.nd rfl (Or.inl rfl) (pe_ix ix_list (pv 0) (pv 4) (fun _ _ => rfl)))))))
      (pss_one (ps_ret (pv 3)))))), ?_⟩
    have p0 := T0.pos
    refine ⟨_, rfl, (by show 1 ≤ sizeLine; decide), fun p hp => ?_⟩
    have lp : ListN (upd H p (.lst [V.int (s : Int)])) p [s] := upd_same
    have e1 := Ex.new (o := .lst [V.int (s : Int)]) hp
    generalize upd H p (.lst [V.int (s : Int)]) = H1 at lp e1 ⊢
    have hs : s < ys.length := by
      have := T0.lt _ (gt_mem p0)
      rw [T0.st] at this
      exact this
    refine ⟨_, rfl, _, rfl, a, _, _, _, rfl, rfl, (ha.ex e1).sz, atN hs, ?_⟩
    have la := ha.ex e1
    have lb := hb.ex e1
    have npa : p ≠ a := fun z => by have h : H a = some _ := ha; rw [← z, hp] at h; cases h
    have npb : p ≠ b := fun z => by have h : H b = some _ := hb; rw [← z, hp] at h; cases h
    have tk1 : w.take 1 = [s] := by
      have e := take_succ' (l := w) (q := 0) p0
      rw [T0.st] at e
      exact e
    refine ⟨fun m σ G => ∃ (j : Nat) (u v : Addr), m = w.length - j ∧ j < w.length ∧ σ = [some (.ref u), some (.ref v), some (.int (s : Int)), some (.ref p), some (.int ((gt (sel ys zs j) (gt w j) : Nat) : Int))] ∧ ListN G u (sel ys zs j) ∧ ListN G v (sel ys zs (j + 1)) ∧ u ≠ p ∧ v ≠ p ∧ (∀ x o, x ≠ p → H1 x = some o → G x = some o) ∧ ListN G p (w.take (j + 1)), ⟨w.length, 0, a, b, rfl, p0, by rw [T0.st]; rfl, la, lb, Ne.symm npa, Ne.symm npb, fun _ _ _ h => h, by rw [tk1]; exact lp⟩, ?_⟩
    rintro m σ G ⟨j, u, v, rfl, hj, rfl, lu, lv, nu, nv, KG, lpG⟩
    have lw : (w.take (j + 1)).length = j + 1 := by rw [List.length_take]; omega
    have hwl : w.length ≤ 65 := Nat.le_trans (nodup_len T0.nd T0.lt) h65
    have last : atI (nI (w.take (j + 1))) (-1) = some (V.int ((gt w j : Nat) : Int)) := by
      have g := atLast (l := w.take (j + 1)) (by omega)
      rw [lw, gt_take (by omega)] at g
      exact g
    have sl : ∀ i, (sel ys zs i).length = ys.length := sel_len hl.symm
    refine ⟨_, rfl, _, rfl, _, rfl, p, _, _, _, rfl, rfl, lpG.sz, last, rfl, _, rfl, ?_⟩
    rw [dne]
    refine ite_b (fun c => ?_) (fun c => ?_)
    rotate_left
    · have c := Decidable.not_not.mp (of_decide_eq_false c)
      have e : j = w.length - 1 := by
        apply Decidable.byContradiction
        intro n
        have g := T0.go j (by omega)
        rw [c] at g
        have := gt_inj T0.nd hj (by omega) g
        omega
      have tw : w.take (j + 1) = w := List.take_of_length_le (by omega)
      rw [tw] at lpG
      exact ⟨_, rfl, k p G hp (fun x o h => KG x o (ne_of_none h hp) (e1 x o h)) lpG⟩
    have c := of_decide_eq_true c
    refine ⟨_, rfl, _, rfl, rfl, _, rfl, ?_⟩
    rw [dne]
    refine ite_b (fun c2 => ?_) (fun c2 => ?_)
    rotate_left
    · have c2 := Decidable.not_not.mp (of_decide_eq_false c2)
      have e : j = w.length - 1 := by
        apply Decidable.byContradiction
        intro n
        have g := T0.go j (by omega)
        rw [c2, ← T0.st] at g
        have := gt_inj T0.nd p0 (by omega) g
        omega
      have tw : w.take (j + 1) = w := List.take_of_length_le (by omega)
      rw [tw] at lpG
      exact ⟨_, rfl, k p G hp (fun x o h => KG x o (ne_of_none h hp) (e1 x o h)) lpG⟩
    have c2 := of_decide_eq_true c2
    have j1 : j + 1 < w.length := by
      apply Decidable.byContradiction
      intro n
      have e : j = w.length - 1 := by omega
      have f := T0.fin
      rw [← e] at f
      rcases f with f | f
      · exact c f
      · exact c2 f
    have step := T0.go j j1
    refine ⟨fun σ' G' => ∃ (u v : Addr), σ' = [some (.ref u), some (.ref v), some (.int (s : Int)), some (.ref p), some (.int ((gt (sel ys zs (j + 1)) (gt w (j + 1)) : Nat) : Int))] ∧ ListN G' u (sel ys zs (j + 1)) ∧ ListN G' v (sel ys zs (j + 2)) ∧ u ≠ p ∧ v ≠ p ∧ (∀ x o, x ≠ p → H1 x = some o → G' x = some o) ∧ ListN G' p (w.take (j + 2)), fun σ' G' ⟨u', v', h1, h2⟩ => ⟨w.length - (j + 1), by omega, j + 1, u', v', rfl, j1, h1, h2⟩, ?_⟩
    refine ⟨_, rfl, Or.inl ⟨rfl, _, lpG.sz⟩, _, rfl, _, _, _, rfl, rfl, lpG, small1000 (by rw [nI_len, lw]; omega), ?_⟩
    rw [step]
    have lp2 : ListN (upd G p (.lst (nI (w.take (j + 1)) ++ [V.int ((gt w (j + 1) : Nat) : Int)]))) p (w.take (j + 2)) := by
      show upd G p _ p = _
      rw [upd_same, take_succ' j1, nI_app]
    have k2 : ∀ x o, x ≠ p → G x = some o → upd G p (.lst (nI (w.take (j + 1)) ++ [V.int ((gt w (j + 1) : Nat) : Int)])) x = some o := fun x o h1 h => by rw [upd_ne h1]; exact h
    generalize upd G p (.lst (nI (w.take (j + 1)) ++ [V.int ((gt w (j + 1) : Nat) : Int)])) = G2 at lp2 k2 ⊢
    have lv2 : ListN G2 v (sel ys zs (j + 1)) := k2 _ _ nv lv
    have lu2 : ListN G2 u (sel ys zs j) := k2 _ _ nu lu
    refine ⟨_, rfl, _, rfl, _, _, rfl, ?_⟩
    refine ⟨_, rfl, _, rfl, v, _, _, _, rfl, rfl, lv2.sz, atN (by rw [sl]; exact T0.lt _ (gt_mem j1)), ?_⟩
    refine ⟨v, u, rfl, lv2, ?_, nv, nu, fun x o h1 h => k2 x o h1 (KG x o h1 h), lp2⟩
    rw [sel_two (show (j + 2) % 2 = j % 2 by omega)]
    exact lu2

end

section
variable {P : Program} {w : World} {K : PySem.W.Frag} {mg : Str → Option Value} {base : Heap} {A : Ad}
theorem ok_part_of (T : Txt K mg A)  (g_walk : Okd P w K mg base CX0 1 A.walk P_walk spWk) : Okd P w K mg base CX0 2 A.part_of P_part_of spPt := by
  obtain ⟨fd, F⟩ := T.d_part_of
  obtain ⟨fd_walk, G_walk, b_walk⟩ := g_walk
  refine ⟨fd, F.ok sc_part_of (fun vs H Q E h => ?_) (fun cdv A' outer s H vs Q E hr h => ?_), F.binds fun _ _ _ _ _ _ us hl => match us, hl with | [_, _, _], _ => rfl⟩
  · obtain ⟨a, b, ys, zs, x, rfl, _⟩ := h
    rfl
  · obtain ⟨a, b, ys, zs, x, rfl, ha, hb, sy, sz, hl, h65, hx, k⟩ := h
    refine ⟨_, (pss_cons (ps_set (i := 3) sc_part_of.nd rfl (Or.inl rfl) (pe_call G_walk (hr.mono (by decide)) (by rfl) T.g_walk T.k_walk b_walk .nil pass0 (pa_cons (pv 0) (pa_cons (pv 1) (pa_cons (pv 2) pa_nil)))))
      (pss_cons (ps_if (pt_cmpR op_in_seq (pe_ix ix_list (pv 1) (pv 2) (fun _ _ => rfl)) (pe_slice sl_list (pv 3) (po_some pe_int) po_none) (by with_unfolding_all rfl)) (pss_one (ps_ret (pe_tup (pa_cons pe_str (pa_cons (pv 3) pa_nil))))) pss_nil)
      (pss_cons (ps_set (i := 4) sc_part_of.nd rfl (Or.inl rfl) (pe_call G_walk (hr.mono (by decide)) (by rfl) T.g_walk T.k_walk b_walk .nil pass0 (pa_cons (pv 1) (pa_cons (pv 0) (pa_cons (pv 2) pa_nil)))))
      (pss_cons (ps_set (i := 3) sc_part_of.nd rfl (Or.inl rfl) (pe_op op_cat (DaS.pe_low (pv 4) pe_int (pe_un un_neg pe_int)) (pv 3)))
      (pss_cut (ps_if (pt_cmpR op_gt (pe_ix ix_list (pv 3) pe_int (fun _ _ => rfl)) (pe_ix ix_list (pv 3) (pe_un un_neg pe_int) (fun _ _ => rfl)) (nomark _)) (pss_one (ps_set (i := 3) sc_part_of.nd rfl (Or.inl rfl) (StK.pe_back (pv 3) (pe_un un_neg pe_int)))) pss_nil)
      (pss_one (ps_ret (pe_tup (pa_cons pe_str (pa_cons (pv 3) pa_nil)))))))))), ?_⟩
    have st := trl_ex hl.symm sy sz hx
    have st2 := trl_ex (A := zs) (B := ys) hl sz sy (by rw [hl]; exact hx)
    have T1 := walkF_ok st
    have T2 := walkF_ok st2
    refine ⟨_, rfl, _, rfl, _, rfl, a, b, ys, zs, walkF ys zs x, x, rfl, ha, hb, hl, h65, T1, fun pa H1 hpa e1 l1 => ?_⟩
    have p1 := T1.pos
    have p2 := T2.pos
    have w1l : (walkF ys zs x).length ≤ 65 := Nat.le_trans (nodup_len T1.nd T1.lt) h65
    have w2l : (walkF zs ys x).length ≤ 65 := Nat.le_trans (nodup_len T2.nd T2.lt) (by rw [hl]; exact h65)
    unfold partF at k
    generalize walkF ys zs x = w1 at T1 l1 p1 w1l k
    generalize walkF zs ys x = w2 at T2 p2 w2l k
    refine ⟨_, rfl, _, rfl, b, _, _, _, rfl, rfl, (hb.ex e1).sz, atN (by rw [hl]; exact hx), _, rfl, _, rfl, pa, _, rfl, l1.sz, fun q hq => ?_⟩
    rw [show cutV (nI w1) (some (1 : Int)) none = nI (w1.drop 1) from cutDrop (k := 1) p1, List.drop_one]
    have lq : ListN (upd H1 q (.lst (nI w1.tail))) q w1.tail := upd_same
    have e2 := e1.trans (Ex.new (o := .lst (nI w1.tail)) hq)
    have l12 := l1.ex (Ex.new (o := .lst (nI w1.tail)) hq)
    generalize upd H1 q (.lst (nI w1.tail)) = H2 at lq e2 l12 ⊢
    refine ⟨q, _, rfl, Or.inl lq.sz, rfl, flat_nI _, _, rfl, ?_⟩
    show if (inV (V.int ((gt zs x : Nat) : Int)) (nI w1.tail)) = true then _ else _
    rw [nat_in]
    refine ite_b (fun c => ?_) (fun c => ?_)
    · have c := of_decide_eq_true c
      rw [if_pos c] at k
      refine ⟨_, rfl, (by show 2 ≤ sizeLine; decide), fun t ht => ?_⟩
      have e3 := Ex.new (o := .tup [V.str "ring", V.ref pa]) ht
      exact k t pa _ (back_none e2 ht) hpa (e2.trans e3) upd_same (l12.ex e3)
    have c := of_decide_eq_false c
    rw [if_neg c] at k
    refine ⟨_, rfl, _, rfl, _, rfl, b, a, zs, ys, w2, x, rfl, hb.ex e2, ha.ex e2, hl.symm, by omega, T2, fun pb H3 hpb e3 l3 => ?_⟩
    refine ⟨_, rfl, rfl, _, rfl, rfl, pb, _, rfl, l3.sz, fun q2 hq2 => ?_⟩
    rw [tail_nI, rev_nI]
    have e4 := Ex.new (o := .lst (nI w2.tail.reverse)) hq2
    have lq2 : ListN (upd H3 q2 (.lst (nI w2.tail.reverse))) q2 w2.tail.reverse := upd_same
    have l14 := (l12.ex e3).ex e4
    have e04 := (e2.trans e3).trans e4
    generalize upd H3 q2 (.lst (nI w2.tail.reverse)) = H4 at e4 lq2 l14 e04 ⊢
    refine ⟨_, rfl, q2, pa, _, _, rfl, rfl, lq2, l14, (by rw [nI_len, nI_len, List.length_reverse, List.length_tail]; exact Nat.le_trans (by omega) (show 130 ≤ sizeLine by decide)), fun p3 hp3 => ?_⟩
    rw [cat_nI]
    have e5 := Ex.new (o := .lst (nI (w2.tail.reverse ++ w1))) hp3
    have l5 : ListN (upd H4 p3 (.lst (nI (w2.tail.reverse ++ w1)))) p3 (w2.tail.reverse ++ w1) := upd_same
    have e05 := e04.trans e5
    have fp3 := back_none e04 hp3
    generalize upd H4 p3 (.lst (nI (w2.tail.reverse ++ w1))) = H5 at l5 e05 ⊢
    have rl : 0 < (w2.tail.reverse ++ w1).length := by rw [List.length_append]; omega
    have rl2 : (w2.tail.reverse ++ w1).length ≤ 130 := by rw [List.length_append, List.length_reverse, List.length_tail]; omega
    generalize w2.tail.reverse ++ w1 = row at l5 rl rl2 k ⊢
    refine ⟨fun σ G => ∃ p l, σ = [some (.ref a), some (.ref b), some (.int (x : Int)), some (.ref p), some (.ref pb)] ∧ H p = none ∧ Ex H G ∧ ListN G p l ∧ l = (if gt row 0 > gt row (row.length - 1) then row.reverse else row), ?_, ?_⟩
    · refine ⟨_, rfl, p3, _, _, _, rfl, rfl, l5.sz, (show atI (nI row) ((0 : Nat) : Int) = some (V.int ((gt row 0 : Nat) : Int)) from atN rl), _, rfl, _, rfl, p3, _, _, _, rfl, rfl, l5.sz, atLast rl, _, _, rfl, rfl, _, rfl, ?_⟩
      refine ite_b (fun c => ?_) (fun c => ?_)
      · have c := of_decide_eq_true c
        refine ⟨_, rfl, _, rfl, rfl, p3, _, rfl, l5.sz, fun p4 hp4 => ?_⟩
        rw [rev_nI]
        exact ⟨p4, row.reverse, rfl, back_none e05 hp4, ex_new e05 hp4, upd_same, (if_pos (by omega)).symm⟩
      · have c := of_decide_eq_false c
        exact ⟨p3, row, rfl, fp3, e05, l5, (if_neg (by omega)).symm⟩
    rintro σ G ⟨p, l, rfl, fp, eG, lG, el⟩
    refine ⟨_, rfl, (by show 2 ≤ sizeLine; decide), fun t ht => ?_⟩
    have e6 := Ex.new (o := .tup [V.str "chain", V.ref p]) ht
    rw [← el] at k
    exact k t p _ (back_none eG ht) fp (eG.trans e6) upd_same (lG.ex e6)

end

section
variable {P : Program} {w : World} {K : PySem.W.Frag} {mg : Str → Option Value} {base : Heap} {A : Ad}
theorem ok_check_image (T : Txt K mg A)  (g_InvalidImage : Okd P w K mg base CX0 1 A.i_InvalidImage P_InvalidImage (spInit A.InvalidImage "record")) : Okd P w K mg base (L2N.CX P w) 3 A.check_image P_check_image (spCI A) := by
  obtain ⟨fd, F⟩ := T.d_check_image
  obtain ⟨fd_InvalidImage, G_InvalidImage, b_InvalidImage⟩ := g_InvalidImage
  refine ⟨fd, F.okN sc_check_image (fun vs H Q E h => ?_) (fun cdv A' outer s H vs Q E hr h => ?_), F.binds fun _ _ _ _ _ _ us hl => match us, hl with | [_], _ => rfl⟩
  · obtain ⟨a, xs, rfl, _⟩ := h
    rfl
  · obtain ⟨a, xs, rfl, hx, hl, kq, kr⟩ := h
    refine ⟨_, (pss_cons (ps_set (i := 1) sc_check_image.nd rfl (Or.inl rfl) (pe_callB call_len_seq (by rfl) T.n_len PySem.boot_len (pa_cons (pv 0) pa_nil)))
      (pss_one (ps_for (passes_of rfl) rfl (pi_enum (by rfl) T.n_enumerate (pa_cons (pv 0) pa_nil)) (pg_tup (by rfl) (pgs_cons (pg_name (i := 2) sc_check_image.nd rfl (Or.inl rfl)) (pgs_cons (pg_name (i := 3) sc_check_image.nd rfl (Or.inl rfl)) pgs_nil))) (pss_one (ps_if (PW.pt (pw_or (pt_cmpR op_lt (pv 3) pe_int (nomark _)) (pw_or1 (pt_cmpR op_ge (pv 3) (pv 1) (nomark _))))) (pss_one (L2N.ps_raise rfl (L2N.takes_of rfl rfl rfl rfl) (L2N.pmk_oexN T.e_InvalidImage.oex T.f_InvalidImage.i T.f_InvalidImage.t G_InvalidImage (hr.mono (by decide)) b_InvalidImage pass0 rfl T.e_InvalidImage.g (pa_cons (pv 2) pa_nil)))) pss_nil))))), ?_⟩
    refine ⟨_, rfl, _, _, rfl, Or.inl (SqL.of hx), ?_⟩
    refine ⟨_, rfl, _, _, rfl, SqL.of hx, for_it walk_enum (fun i σ H' => ∃ v1 v2 : Option V, σ = [some (.ref a), some (.int ((xs.map V.int).length : Int)), v1, v2] ∧ Ex H H' ∧ ∀ j, j < i → badN xs j = false)
      ⟨none, none, rfl, Ex.refl H, fun j hj => absurd hj (Nat.not_lt_zero _)⟩ (fun i σ H' _ ⟨_, _, _, e, _⟩ => SqL.of (e _ _ hx)) ?_ ?_⟩
    · rintro i x σ H' H2 hi ⟨v1, v2, rfl, e, nb⟩ ⟨T0, y1, y2, rfl, hT, rfl, e1, e2⟩
      rw [List.length_map] at hi
      obtain ⟨z, hz, rfl⟩ := markV_int e2
      cases e1
      have hbad : badN xs i = (decide (z < 0) || decide ((xs.length : Int) ≤ z)) := by
        unfold badN
        rw [strip_getD_of hz]
      have raise : badN xs i = true → ∀ d H3, Ex (upd H' T0 (.tup [.int (i : Nat), .int z])) H3 → H3 d = some (.xd [("record", .int (i : Int))]) → E (.ref A.InvalidImage) (some d) H3 := fun hb d H3 ex hd =>
        kr i (firstOf_some hi hb nb) d H3 ((ex_new e hT).trans ex) hd
      refine ⟨T0, _, rfl, SqT.of upd_same, rfl, _, _, rfl, _, _, rfl, rfl, ?_⟩
      walk_at "r"
      refine ite_b (fun c => ?_) (fun c => ?_)
      · exact ⟨_, rfl, (by show 1 ≤ 1000; decide), mkO_go (raise (by rw [hbad, c]; rfl))⟩
      walk_at "r"
      rw [List.length_map]
      refine ite_b (fun c2 => ?_) (fun c2 => ?_)
      · exact ⟨_, rfl, (by show 1 ≤ 1000; decide), mkO_go (raise (by rw [hbad, c2, Bool.or_true]))⟩
      refine ⟨_, _, rfl, ex_new e hT, fun j hj => ?_⟩
      by_cases hji : j = i
      · rw [hji, hbad, c, c2]
        rfl
      · exact nb j (by omega)
    · rintro σ H' ⟨v1, v2, rfl, e, nb⟩
      rw [List.length_map] at nb
      exact kq (firstOf_none nb) H' e

end

section
variable {P : Program} {w : World} {K : PySem.W.Frag} {mg : Str → Option Value} {base : Heap} {A : Ad}
theorem ok_check_state (T : Txt K mg A)  (g_check_image : Okd P w K mg base (L2N.CX P w) 3 A.check_image P_check_image (spCI A)) (g_NotState : Okd P w K mg base CX0 1 A.i_NotState P_NotState (spInit A.NotState "record")) : Okd P w K mg base (L2N.CX P w) 4 A.check_state P_check_state (spCS A) := by
  obtain ⟨fd, F⟩ := T.d_check_state
  obtain ⟨fd_check_image, G_check_image, b_check_image⟩ := g_check_image
  obtain ⟨fd_NotState, G_NotState, b_NotState⟩ := g_NotState
  refine ⟨fd, F.okN sc_check_state (fun vs H Q E h => ?_) (fun cdv A' outer s H vs Q E hr h => ?_), F.binds fun _ _ _ _ _ _ us hl => match us, hl with | [_], _ => rfl⟩
  · obtain ⟨a, xs, rfl, _⟩ := h
    rfl
  · obtain ⟨a, xs, rfl, hx, hl, kq, kr⟩ := h
    refine ⟨_, (pss_cons (ps_expr (pe_callS G_check_image (hr.mono (by decide)) rfl T.g_check_image T.k_check_image b_check_image (fun σ => L2N.passAt (L2N.takes_of rfl rfl rfl rfl) σ) (pa_cons (pv 0) pa_nil)))
      (pss_one (ps_for (passes_of rfl) rfl (pi_enum (by rfl) T.n_enumerate (pa_cons (pv 0) pa_nil)) (pg_tup (by rfl) (pgs_cons (pg_name (i := 1) sc_check_state.nd rfl (Or.inl rfl)) (pgs_cons (pg_name (i := 2) sc_check_state.nd rfl (Or.inl rfl)) pgs_nil))) (pss_one (ps_if (pt_cmpR op_ne (pe_ix ix_list (pv 0) (pv 2) (fun _ _ => rfl)) (pv 1) (nomark _)) (pss_one (L2N.ps_raise rfl (L2N.takes_of rfl rfl rfl rfl) (L2N.pmk_oexN T.e_NotState.oex T.f_NotState.i T.f_NotState.t G_NotState (hr.mono (by decide)) b_NotState pass0 rfl T.e_NotState.g (pa_cons (pv 1) pa_nil)))) pss_nil))))), ?_⟩
    refine ⟨_, rfl, a, xs, rfl, hx, hl, fun h0 H1 e1 => ?_, fun k hk => ?_⟩
    rotate_left
    · have : faultS xs = some (1, k) := by unfold faultS; rw [hk]
      exact fun d H' e' hd => (kr _ this).1 rfl d H' e' hd
    have hx1 := hx.ex e1
    have nx := hx1.nat h0
    have ln : (nI (natI xs)).length = xs.length := by rw [nI_len, natI_len]
    have lm : (xs.map V.int).length = xs.length := List.length_map ..
    refine ⟨_, rfl, _, _, rfl, SqL.of hx1, for_it walk_enum (fun i σ H' => ∃ v1 v2 : Option V, σ = [some (.ref a), v1, v2] ∧ Ex H1 H' ∧ ∀ j, j < i → gt (natI xs) (gt (natI xs) j) = j)
      ⟨none, none, rfl, Ex.refl H1, fun j hj => absurd hj (Nat.not_lt_zero _)⟩ (fun i σ H' _ ⟨_, _, _, e, _⟩ => SqL.of (e _ _ hx1)) ?_ ?_⟩
    · rintro i x σ H' H2 hi ⟨v1, v2, rfl, e, nb⟩ ⟨T0, y1, y2, rfl, hT, rfl, e1', e2⟩
      rw [lm] at hi
      cases e1'
      have hnat := natI_at h0 hi
      have hz : y2 = V.int ((gt (natI xs) i : Nat) : Int) := by
        obtain ⟨z, hz, rfl⟩ := markV_int e2
        rw [← strip_getD_of hz, hnat.1]
        rfl
      subst hz
      have hg : gt (natI xs) i < xs.length := hnat.2
      have nx2 : ListN (upd H' T0 (.tup [.int (i : Nat), .int ((gt (natI xs) i : Nat) : Int)])) a (natI xs) := (nx.ex e).ex (Ex.new hT)
      refine ⟨T0, _, rfl, SqT.of upd_same, rfl, _, _, rfl, _, _, rfl, rfl, ?_⟩
      refine ⟨_, rfl, _, rfl, a, _, _, _, rfl, rfl, nx2.sz, atN (by rw [natI_len]; exact hg), _, rfl, rfl, _, rfl, ?_⟩
      have dd : (!decide (V.int (((natI xs).getD (gt (natI xs) i) 0 : Nat) : Int) = V.int (i : Int))) = decide (gt (natI xs) (gt (natI xs) i) ≠ i) := by
        by_cases c : gt (natI xs) (gt (natI xs) i) = i
        · have c2 : (natI xs).getD (gt (natI xs) i) 0 = i := c
          rw [c2, decide_eq_true rfl, decide_eq_false (fun h => h c)]
          rfl
        · rw [decide_eq_true c, decide_eq_false]
          · rfl
          · intro h
            injection h with h
            exact c (Int.ofNat.inj h)
      rw [dd]
      refine ite_b (fun c => ?_) (fun c => ?_)
      · have c := of_decide_eq_true c
        have un : unset (natI xs) = some i := firstOf_some (by rw [natI_len]; exact hi) (decide_eq_true c) fun j hj => decide_eq_false fun h => h (nb j hj)
        have fs : faultS xs = some (2, i) := by
          unfold faultS
          rw [h0]
          show (unset (natI xs)).map _ = _
          rw [un]
          rfl
        exact ⟨_, rfl, (by show 1 ≤ 1000; decide), mkO_go fun d H3 ex hd => (kr _ fs).2.1 rfl d H3 ((e1.trans (ex_new e hT)).trans ex) hd⟩
      · have c := Decidable.not_not.mp (of_decide_eq_false c)
        refine ⟨_, _, rfl, ex_new e hT, fun j hj => ?_⟩
        by_cases z : j = i
        · rw [z]
          exact c
        · exact nb j (by omega)
    · rintro σ H' ⟨v1, v2, rfl, e, nb⟩
      rw [lm] at nb
      refine kq ?_ H' (e1.trans e)
      unfold faultS
      rw [h0]
      show (unset (natI xs)).map _ = none
      have un : unset (natI xs) = none := firstOf_none fun j hj => by
        rw [natI_len] at hj
        exact decide_eq_false fun h => h (nb j hj)
      rw [un]
      rfl

end

section
variable {P : Program} {w : World} {K : PySem.W.Frag} {mg : Str → Option Value} {base : Heap} {A : Ad}
theorem ok_check_pair (T : Txt K mg A)  (g_check_state : Okd P w K mg base (L2N.CX P w) 4 A.check_state P_check_state (spCS A)) : Okd P w K mg base (L2N.CX P w) 5 A.check_pair P_check_pair (spCP A) := by
  obtain ⟨fd, F⟩ := T.d_check_pair
  obtain ⟨fd_check_state, G_check_state, b_check_state⟩ := g_check_state
  refine ⟨fd, F.okN sc_check_pair (fun vs H Q E h => ?_) (fun cdv A' outer s H vs Q E hr h => ?_), F.binds fun _ _ _ _ _ _ us hl => match us, hl with | [_, _], _ => rfl⟩
  · obtain ⟨a, b, xs, zs, rfl, _⟩ := h
    rfl
  · obtain ⟨a, b, xs, zs, rfl, hx, hz, hl, hl2, kq, kr⟩ := h
    refine ⟨_, (pss_cons (ps_expr (pe_callS G_check_state (hr.mono (by decide)) rfl T.g_check_state T.k_check_state b_check_state (fun σ => L2N.passAt (L2N.takes_of rfl rfl rfl rfl) σ) (pa_cons (pv 0) pa_nil)))
      (pss_cons (ps_expr (pe_callS G_check_state (hr.mono (by decide)) rfl T.g_check_state T.k_check_state b_check_state (fun σ => L2N.passAt (L2N.takes_of rfl rfl rfl rfl) σ) (pa_cons (pv 1) pa_nil)))
      (pss_one (ps_if (pt_cmpR op_ne (pe_callB call_len_seq (by rfl) T.n_len PySem.boot_len (pa_cons (pv 0) pa_nil)) (pe_callB call_len_seq (by rfl) T.n_len PySem.boot_len (pa_cons (pv 1) pa_nil)) (nomark _)) (pss_one (L2N.ps_raise rfl (L2N.takes_of rfl rfl rfl rfl) (L2N.pmk_own0N PySem.F.excBase_ValueError T.q_UnequalSizes T.e_UnequalSizes.g T.e_UnequalSizes.k (raises_own T.e_UnequalSizes.sub T.e_UnequalSizes.ty) rfl))) pss_nil)))), ?_⟩
    refine ⟨_, rfl, a, xs, rfl, hx, hl, fun f1 H1 e1 => ?_, fun f hf => kr f (by unfold faultF; rw [hf])⟩
    refine ⟨_, rfl, b, zs, rfl, hz.ex e1, hl2, fun f2 H2 e2 => ?_, fun f hf => (kr f (by unfold faultF; rw [f1]; simp only [hf])).mono e1⟩
    have e12 := e1.trans e2
    refine ⟨_, rfl, _, _, rfl, Or.inl (SqL.of (hx.ex e12)), _, rfl, _, _, rfl, Or.inl (SqL.of (hz.ex e12)), ?_⟩
    have l1 : (xs.map V.int).length = xs.length := List.length_map ..
    have l2 : (zs.map V.int).length = zs.length := List.length_map ..
    rw [l1, l2]
    have ff : faultF xs zs = if xs.length ≠ zs.length then some (3, 0) else none := by
      unfold faultF
      rw [f1]
      simp only [f2]
    refine ⟨rfl, _, rfl, ?_⟩
    by_cases c : xs.length = zs.length
    · rw [c, decide_eq_true rfl]
      refine iteF ?_
      exact kq (by rw [ff, if_neg (fun h => h c)]) _ e12
    · rw [decide_eq_false (fun h => by injection h with h; exact c (Int.ofNat.inj h))]
      refine iteT ?_
      exact (kr (3, 0) (by rw [ff, if_pos c])).2.2 rfl _ e12

end

section
variable {P : Program} {w : World} {K : PySem.W.Frag} {mg : Str → Option Value} {base : Heap} {A : Ad}
theorem part_len {A B : List Nat} {x : Nat} (h : A.length = B.length) (a : Sta A) (b : Sta B) (hx : x < A.length) : (partF A B x).2.length ≤ 2 * A.length := by
  have T1 := walkF_ok (trl_ex h a b hx)
  have T2 := walkF_ok (trl_ex h.symm b a (by rw [← h]; exact hx))
  have w1 := nodup_len T1.nd T1.lt
  have w2 := nodup_len T2.nd T2.lt
  unfold partF
  split
  · show (walkF A B x).length ≤ _
    omega
  · show (if _ then _ else _ : List Nat).length ≤ _
    split
    · rw [List.length_reverse, List.length_append, List.length_reverse, List.length_tail]
      omega
    · rw [List.length_append, List.length_reverse, List.length_tail]
      omega
theorem parts_len {A B : List Nat} (h : A.length = B.length) (a : Sta A) (b : Sta B) : ∀ i, i ≤ A.length → ((partsF A B i).flatMap (·.2)).length ≤ i * (2 * A.length)
  | 0, _ => Nat.zero_le _
  | i + 1, hi => by
    have ih := parts_len h a b i (by omega)
    have pl := part_len h a b (show i < A.length by omega)
    show (List.flatMap _ (if _ then _ else _)).length ≤ _
    rw [Nat.succ_mul]
    split
    · rw [List.flatMap_append, List.length_append, List.flatMap_cons, List.flatMap_nil, List.append_nil]
      omega
    · omega
theorem ok_parts (T : Txt K mg A)  (g_check_pair : Okd P w K mg base (L2N.CX P w) 5 A.check_pair P_check_pair (spCP A)) (g_part_of : Okd P w K mg base CX0 2 A.part_of P_part_of spPt) : Okd P w K mg base (L2N.CX P w) 6 A.parts P_parts (spPts A) := by
  obtain ⟨fd, F⟩ := T.d_parts
  obtain ⟨fd_check_pair, G_check_pair, b_check_pair⟩ := g_check_pair
  obtain ⟨fd_part_of, G_part_of, b_part_of⟩ := g_part_of
  refine ⟨fd, F.okN sc_parts (fun vs H Q E h => ?_) (fun cdv A' outer s H vs Q E hr h => ?_), F.binds fun _ _ _ _ _ _ us hl => match us, hl with | [_, _], _ => rfl⟩
  · obtain ⟨a, b, xs, zs, rfl, _⟩ := h
    rfl
  · obtain ⟨a, b, xs, zs, rfl, ha, hb, hl, hl2, kq, kr⟩ := h
    refine ⟨_, (pss_cons (ps_expr (pe_callS G_check_pair (hr.mono (by decide)) rfl T.g_check_pair T.k_check_pair b_check_pair (fun σ => L2N.passAt (L2N.takes_of rfl rfl rfl rfl) σ) (pa_cons (pv 0) (pa_cons (pv 1) pa_nil))))
      (pss_cons (ps_set (i := 2) sc_parts.nd rfl (Or.inl rfl) (pe_lst pa_nil))
      (pss_cons (ps_set (i := 3) sc_parts.nd rfl (Or.inl rfl) (pe_lst pa_nil))
      (pss_cons (ps_for (passes_of rfl) rfl (pi_enum (by rfl) T.n_enumerate (pa_cons (pv 0) pa_nil)) (pg_tup (by rfl) (pgs_cons (pg_name (i := 4) sc_parts.nd rfl (Or.inl rfl)) (pgs_cons (pg_name (i := 5) sc_parts.nd rfl (Or.inl rfl)) pgs_nil))) (pss_one (ps_if (PW.pt (pw_and (pt_cmpR op_ne (pv 5) (pe_ix ix_list (pv 1) (pv 4) (fun _ _ => rfl)) (nomark _)) (pw_and1 (pt_cmpR op_notIn_seq (pv 4) (pv 3) (by with_unfolding_all rfl))))) (pss_cons (ps_set (i := 6) sc_parts.nd rfl (Or.inl rfl) (pe_call G_part_of (hr.mono (by decide)) (by rfl) T.g_part_of T.k_part_of b_part_of .nil pass0 (pa_cons (pv 0) (pa_cons (pv 1) (pa_cons (pv 4) pa_nil)))))
      (pss_cons (ps_expr (pe_bm PySem.F.plainAttrs_list PySem.F.slot_list_append PySem.F.type_list_append mt_append (pv 2) (pa_cons (pv 6) pa_nil)))
      (pss_one (ps_expr (pe_bm PySem.F.plainAttrs_list PySem.F.slot_list_extend PySem.F.type_list_extend mt_extend (pv 3) (pa_cons (pe_ix ix_tup (pv 6) pe_int (fun _ _ => rfl)) pa_nil)))))) pss_nil)))
      (pss_one (ps_ret (pv 2))))))), ?_⟩
    refine ⟨_, rfl, _, rfl, a, b, xs, zs, rfl, ha, hb, hl, hl2, fun f0 H1 e1 => ?_, fun f hf => kr f hf⟩
    have kq := kq f0
    obtain ⟨fs1, fs2, hlen⟩ := faultF_no f0
    obtain ⟨s1, st1⟩ := faultS_no fs1
    obtain ⟨s2, st2⟩ := faultS_no fs2
    have la := (ha.ex e1).nat s1
    have lb := (hb.ex e1).nat s2
    have yl : (natI xs).length = xs.length := natI_len
    have zl : (natI zs).length = xs.length := by rw [natI_len, hlen]
    generalize natI xs = ys at st1 la yl kq
    generalize natI zs = ws at st2 lb zl kq
    rw [← yl] at hl kq
    refine ⟨(by show 0 ≤ sizeLine; decide), fun pf hpf => ?_⟩
    have e2 := Ex.new (o := .lst []) hpf
    have lf0 : upd H1 pf (.lst []) pf = some (.lst []) := upd_same
    generalize upd H1 pf (.lst []) = H2 at e2 lf0 ⊢
    refine ⟨(by show 0 ≤ sizeLine; decide), fun ps hps => ?_⟩
    have e3 := Ex.new (o := .lst []) hps
    have ls0 : ListN (upd H2 ps (.lst [])) ps [] := upd_same
    have lf1 := e3 _ _ lf0
    have nfs : pf ≠ ps := ne_of_none lf0 hps
    generalize upd H2 ps (.lst []) = H3 at e3 ls0 lf1 ⊢
    have e03 := (e1.trans e2).trans e3
    have laN := (la.ex e2).ex e3
    have lbN := (lb.ex e2).ex e3
    have naf : a ≠ pf := ne_of_none (show H1 a = some _ from la) hpf
    have nbf : b ≠ pf := ne_of_none (show H1 b = some _ from lb) hpf
    have nas : a ≠ ps := ne_of_none (show H2 a = some _ from la.ex e2) hps
    have nbs : b ≠ ps := ne_of_none (show H2 b = some _ from lb.ex e2) hps
    refine ⟨_, rfl, _, _, rfl, laN.sz, for_it walk_enum (fun i σ G => ∃ (v4 v5 v6 : Option V), σ = [some (.ref a), some (.ref b), some (.ref pf), some (.ref ps), v4, v5, v6] ∧ (∀ x o, x ≠ pf → x ≠ ps → H3 x = some o → G x = some o) ∧ ListN G ps ((partsF ys ws i).flatMap (·.2)) ∧ ∃ ts : List Addr, G pf = some (.lst (ts.map V.ref)) ∧ ts.length = (partsF ys ws i).length ∧ ts.length ≤ i ∧ ∀ (j : Nat) (t : Addr) (c : Bool × List Nat), ts[j]? = some t → (partsF ys ws i)[j]? = some c → ∃ l, G t = some (.tup [.str (wE (rgB c.1)), .ref l]) ∧ ListN G l c.2 ∧ l ≠ pf ∧ l ≠ ps)
      ⟨none, none, none, rfl, fun _ _ _ _ h => h, ls0, [], lf1, rfl, Nat.le_refl _, fun j t c z => by cases z⟩ (fun i σ G _ ⟨_, _, _, _, K3, _⟩ => (show ListN G a ys from K3 _ _ naf nas laN).sz) ?_ ?_⟩
    · rintro i x σ G G2 hi ⟨v4, v5, v6, rfl, KG, lsG, ts, htG, tl, tli, tat⟩ ⟨T0, y1, y2, rfl, hT, rfl, e1', e2'⟩
      rw [nI_len] at hi
      cases e1'
      obtain ⟨_, rfl⟩ := nat_at e2'
      have eT := Ex.new (o := .tup [V.int (i : Nat), V.int ((ys.getD i 0 : Nat) : Int)]) hT
      have laG0 : ListN G a ys := KG _ _ naf nas laN
      have lbG0 : ListN G b ws := KG _ _ nbf nbs lbN
      have tat0 := tat
      refine ⟨T0, _, rfl, SqT.of upd_same, rfl, _, _, rfl, _, _, rfl, rfl, ?_⟩
      have laG := laG0.ex eT
      have lbG := lbG0.ex eT
      have lsG' := lsG.ex eT
      have htG' := eT _ _ htG
      have KG' : ∀ x o, x ≠ pf → x ≠ ps → H3 x = some o → upd G T0 (.tup [V.int (i : Nat), V.int ((ys.getD i 0 : Nat) : Int)]) x = some o := fun x o h1 h2 h => eT _ _ (KG x o h1 h2 h)
      have tat' : ∀ (j : Nat) (t : Addr) (c : Bool × List Nat), ts[j]? = some t → (partsF ys ws i)[j]? = some c → ∃ l, upd G T0 (.tup [V.int (i : Nat), V.int ((ys.getD i 0 : Nat) : Int)]) t = some (.tup [.str (wE (rgB c.1)), .ref l]) ∧ ListN (upd G T0 (.tup [V.int (i : Nat), V.int ((ys.getD i 0 : Nat) : Int)])) l c.2 ∧ l ≠ pf ∧ l ≠ ps := fun j t c h1 h2 => by
        obtain ⟨l, q1, q2, q3⟩ := tat j t c h1 h2
        exact ⟨l, eT _ _ q1, q2.ex eT, q3⟩
      generalize upd G T0 (.tup [V.int (i : Nat), V.int ((ys.getD i 0 : Nat) : Int)]) = G1 at laG lbG lsG' htG' KG' tat' ⊢
      have nope : ¬ (gt ys i ≠ gt ws i ∧ i ∉ (partsF ys ws i).flatMap (·.2)) → partsF ys ws (i + 1) = partsF ys ws i := fun h => if_neg h
      have yes : (gt ys i ≠ gt ws i ∧ i ∉ (partsF ys ws i).flatMap (·.2)) → partsF ys ws (i + 1) = partsF ys ws i ++ [partF ys ws i] := fun h => if_pos h
      refine ⟨_, rfl, _, rfl, _, rfl, b, _, _, _, rfl, rfl, lbG.sz, atN (by omega), rfl, _, rfl, ?_⟩
      rw [dne]
      refine ite_b (fun c => ?_) (fun c => ?_)
      rotate_left
      · have c := Decidable.not_not.mp (of_decide_eq_false c)
        rw [nope (fun h => h.1 c)]
        exact ⟨_, _, _, rfl, KG', lsG', ts, htG', tl, Nat.le_succ_of_le tli, tat'⟩
      have c := of_decide_eq_true c
      refine ⟨_, rfl, _, rfl, ps, _, rfl, Or.inl lsG'.sz, rfl, flat_nI _, _, rfl, ?_⟩
      show if (!inV (V.int (i : Int)) (nI ((partsF ys ws i).flatMap (·.2)))) = true then _ else _
      rw [nat_in]
      refine ite_b (fun c2 => ?_) (fun c2 => ?_)
      rotate_left
      · rw [Bool.not_eq_false'] at c2
        have c2 := of_decide_eq_true c2
        rw [nope (fun h => h.2 c2)]
        exact ⟨_, _, _, rfl, KG', lsG', ts, htG', tl, Nat.le_succ_of_le tli, tat'⟩
      rw [Bool.not_eq_true'] at c2
      have c2 := of_decide_eq_false c2
      have pstep := yes ⟨c, c2⟩
      have pl := part_len (by omega) st1 st2 hi (A := ys) (B := ws)
      have fl := parts_len (by omega) st1 st2 (A := ys) (B := ws) i (Nat.le_of_lt hi)
      have fl := Nat.le_trans fl (Nat.mul_le_mul (show i ≤ 65 by omega) (show 2 * ys.length ≤ 130 by omega))
      rw [pstep]
      generalize partsF ys ws i = prs at lsG' tl tat' fl ⊢
      refine ⟨_, rfl, _, rfl, _, rfl, a, b, ys, ws, i, rfl, laG, lbG, st1, st2, by omega, hl, hi, fun t l G4 ht hl0 e4 htv hlv => ?_⟩
      generalize partF ys ws i = pr at htv hlv pl ⊢
      have htG4 := e4 _ _ htG'
      have lsG4 := lsG'.ex e4
      refine ⟨_, rfl, Or.inl ⟨rfl, _, SqL.of htG4⟩, _, rfl, _, _, _, rfl, rfl, htG4, small1000 (by rw [List.length_map]; omega), ?_⟩
      have ntf : t ≠ pf := fun z => by rw [z, htG'] at ht; cases ht
      have nts : t ≠ ps := fun z => by have h : G1 ps = some _ := lsG'; rw [z, h] at ht; cases ht
      have nlf : l ≠ pf := fun z => by rw [z, htG'] at hl0; cases hl0
      have nls : l ≠ ps := fun z => by have h : G1 ps = some _ := lsG'; rw [z, h] at hl0; cases hl0
      have k5 : ∀ x o, x ≠ pf → G4 x = some o → upd G4 pf (.lst (ts.map V.ref ++ [V.ref t])) x = some o := fun x o h1 h => by rw [upd_ne h1]; exact h
      have h5 : upd G4 pf (.lst (ts.map V.ref ++ [V.ref t])) pf = some (.lst (ts.map V.ref ++ [V.ref t])) := upd_same
      generalize upd G4 pf (.lst (ts.map V.ref ++ [V.ref t])) = G5 at k5 h5 ⊢
      have ls5 : ListN G5 ps (prs.flatMap (·.2)) := k5 _ _ (Ne.symm nfs) lsG4
      have hl5 : ListN G5 l pr.2 := k5 _ _ nlf hlv
      refine ⟨_, rfl, Or.inl ⟨rfl, _, ls5.sz⟩, _, rfl, t, _, _, _, rfl, rfl, SqT.of (k5 _ _ ntf htv), atI_nat (j := 1) rfl, ps, l, _, _, rfl, rfl, ls5, hl5, (by rw [nI_len, nI_len]; exact Nat.le_trans (Nat.add_le_add fl pl) (Nat.le_trans (by omega) (show 10000 ≤ sizeLine by decide))), ?_⟩
      rw [cat_nI]
      have k6 : ∀ x o, x ≠ ps → G5 x = some o → upd G5 ps (.lst (nI (prs.flatMap (·.2) ++ pr.2))) x = some o := fun x o h1 h => by rw [upd_ne h1]; exact h
      have l6 : upd G5 ps (.lst (nI (prs.flatMap (·.2) ++ pr.2))) ps = some (.lst (nI (prs.flatMap (·.2) ++ pr.2))) := upd_same
      generalize upd G5 ps (.lst (nI (prs.flatMap (·.2) ++ pr.2))) = G6 at k6 l6 ⊢
      have k46 : ∀ x o, x ≠ pf → x ≠ ps → G1 x = some o → G6 x = some o := fun x o h1 h2 h => k6 _ _ h2 (k5 _ _ h1 (e4 _ _ h))
      refine ⟨_, _, _, rfl, fun x o h1 h2 h => k46 x o h1 h2 (KG' x o h1 h2 h), ?_, ts ++ [t], ?_, ?_, ?_, fun j t' c' h1 h2 => ?_⟩
      · show G6 ps = _
        rw [l6, List.flatMap_append]
        congr 3
        show _ = prs.flatMap _ ++ [pr].flatMap _
        rw [List.flatMap_cons, List.flatMap_nil, List.append_nil]
      · rw [List.map_append]
        exact k6 _ _ nfs h5
      · rw [List.length_append, List.length_append, tl]
        rfl
      · rw [List.length_append]
        exact Nat.succ_le_succ tli
      · by_cases cj : j < ts.length
        · rw [List.getElem?_append_left cj] at h1
          rw [List.getElem?_append_left (by omega)] at h2
          obtain ⟨l', q1, q2, q3, q4⟩ := tat' j t' c' h1 h2
          exact ⟨l', k46 _ _ (fun z => by rw [z, htG'] at q1; cases q1) (fun z => by have h : G1 ps = some _ := lsG'; rw [z, h] at q1; cases q1) q1, k46 _ _ q3 q4 q2, q3, q4⟩
        · rw [List.getElem?_append_right (by omega)] at h1
          rw [List.getElem?_append_right (by omega), ← tl] at h2
          match hz : j - ts.length with
          | 0 =>
            rw [hz] at h1 h2
            have h1 := Option.some.inj h1
            have h2 := Option.some.inj h2
            subst h1
            subst h2
            exact ⟨l, k6 _ _ nts (k5 _ _ ntf htv), k6 _ _ nls hl5, nlf, nls⟩
          | z + 1 =>
            rw [hz] at h1
            cases h1
    rintro σ G ⟨v4, v5, v6, rfl, KG, lsG, ts, htG, tl, tli, tat⟩
    rw [nI_len] at tl tat
    have fpf : H pf = none := back_none e1 hpf
    have fps : H ps = none := back_none (e1.trans e2) hps
    refine ⟨_, rfl, kq pf G fpf (fun x o h => KG x o (ne_of_none h fpf) (ne_of_none h fps) (e03 x o h)) ⟨ts, htG, tl, fun j t c h1 h2 => ?_⟩⟩
    obtain ⟨l, q1, q2, _⟩ := tat j t c h1 h2
    exact ⟨l, q1, q2⟩

end

section
variable {P : Program} {w : World} {K : PySem.W.Frag} {mg : Str → Option Value} {base : Heap} {A : Ad}
theorem ok_gain (T : Txt K mg A)   : Okd P w K mg base CX0 1 A.gain P_gain spGn := by
  obtain ⟨fd, F⟩ := T.d_gain

  refine ⟨fd, F.ok sc_gain (fun vs H Q E h => ?_) (fun cdv A' outer s H vs Q E hr h => ?_), F.binds fun _ _ _ _ _ _ us hl => match us, hl with | [_, _, _], _ => rfl⟩
  · obtain ⟨a, b, r, ys, zs, l, rfl, _⟩ := h
    rfl
  · obtain ⟨a, b, r, ys, zs, l, rfl, ha, hb, hr', hl, h65, hll, hlt, k⟩ := h
    refine ⟨_, (pss_cons (ps_set (i := 3) sc_gain.nd rfl (Or.inl rfl) (pe_callB call_len_seq (by rfl) T.n_len PySem.boot_len (pa_cons (pe_lc (own := [("record", 5)]) (tt := _) (by rfl) sc_gain.nd (pi_list (pv 2)) (blkOk_by (own := [("record", 5)]) (N := N_gain) (sc := defScope s_gain) (by decide +kernel)) (fun _ _ _ _ _ => (pg_name (i := 5) sc_gain.nd rfl (Or.inl rfl))) (fun _ _ _ _ _ => (pts_one (pt_cmpR op_ne (pe_ix (ix_listK (K := K) rfl) (pv 1) (pv 5) (fun _ _ => rfl)) (pv 5) (nomark _)))) (fun _ _ _ _ _ => (pv 5))) pa_nil)))
      (pss_cons (ps_set (i := 4) sc_gain.nd rfl (Or.inl rfl) (pe_callB call_len_seq (by rfl) T.n_len PySem.boot_len (pa_cons (pe_lc (own := [("record", 5)]) (tt := _) (by rfl) sc_gain.nd (pi_list (pv 2)) (blkOk_by (own := [("record", 5)]) (N := N_gain) (sc := defScope s_gain) (by decide +kernel)) (fun _ _ _ _ _ => (pg_name (i := 5) sc_gain.nd rfl (Or.inl rfl))) (fun _ _ _ _ _ => (pts_one (pt_cmpR op_ne (pe_ix (ix_listK (K := K) rfl) (pv 0) (pv 5) (fun _ _ => rfl)) (pv 5) (nomark _)))) (fun _ _ _ _ _ => (pv 5))) pa_nil)))
      (pss_one (ps_ret (pe_op op_fdivW (pe_op op_sub (pv 3) (pv 4)) pe_int))))), ?_⟩
    have cnt_step : ∀ (C : List Nat) (j : Nat), j < l.length → (l.take (j + 1)).filter (fun x => decide (gt C x ≠ x)) = (l.take j).filter (fun x => decide (gt C x ≠ x)) ++ (if decide (gt C (gt l j) ≠ gt l j) = true then [gt l j] else []) := fun C j hj => by
      rw [take_succ' hj, List.filter_append, List.filter_cons]
      rfl
    refine ⟨_, rfl, r, rfl, ⟨_, hr'.sz⟩, fun D hD => ?_⟩
    have comp : ∀ (C : List Nat) (c : Addr) (H0 : Hp) (D : Addr), C.length = ys.length → ListN H0 c C → ListN H0 r l → H0 D = none → ∀ (G : Hp) (j : Nat), j < l.length → Ex H0 G → ListN G D ((l.take j).filter fun x => decide (gt C x ≠ x)) →
        (decide (gt C (gt l j) ≠ gt l j) = true → ∃ acc, G D = some (.lst acc) ∧ acc.length < sizeLine ∧ Ex H0 (upd G D (.lst (acc ++ [V.int ((gt l j : Nat) : Int)]))) ∧ ListN (upd G D (.lst (acc ++ [V.int ((gt l j : Nat) : Int)]))) D ((l.take (j + 1)).filter fun x => decide (gt C x ≠ x))) ∧
        (decide (gt C (gt l j) ≠ gt l j) = false → Ex H0 G ∧ ListN G D ((l.take (j + 1)).filter fun x => decide (gt C x ≠ x))) := fun C c H0 D hC lc lr hD G j hj e hd' => by
      refine ⟨fun t => ⟨_, hd', ?_, fun b o ho => ?_, ?_⟩, fun t => ?_⟩
      · have h1 := List.length_filter_le (fun x => decide (gt C x ≠ x)) (l.take j)
        rw [List.length_take] at h1
        rw [nI_len]
        exact small1000 (by omega)
      · rw [upd_ne (ne_of_none ho hD)]
        exact e b o ho
      · show upd G D _ D = _
        rw [upd_same, cnt_step C j hj, t, if_pos rfl, nI_app]
      · rw [cnt_step C j hj, t, if_neg (by decide), List.append_nil]
        exact ⟨e, hd'⟩
    refine lc_list (K := K) (a := r) (xs := nI l) (fun j G => Ex H G ∧ ListN G D ((l.take j).filter fun x => decide (gt zs x ≠ x))) ⟨Ex.new hD, upd_same⟩ (fun j G _ q => (hr'.ex q.1).sz) ?_ ?_
    · rintro j x G hx ⟨e, hd'⟩
      obtain ⟨hj, rfl⟩ := nat_at hx
      have cc := comp zs b H D hl hb hr' hD G j hj e hd'
      refine ⟨rfl, _, rfl, _, rfl, b, _, _, _, rfl, rfl, (hb.ex e).sz, atN (by rw [hl]; exact hlt _ (gt_mem hj)), _, rfl, rfl, _, rfl, ?_⟩
      rw [dne]
      exact ite_b (fun c => ⟨_, rfl, cc.1 c⟩) (fun c => cc.2 c)
    rintro G1 ⟨e1, l1⟩
    rw [nI_len, List.take_length] at l1
    refine ⟨D, _, rfl, .inl l1.sz, ?_⟩
    rw [nI_len]
    refine ⟨_, rfl, r, rfl, ⟨_, (hr'.ex e1).sz⟩, fun D2 hD2 => ?_⟩
    refine lc_list (K := K) (a := r) (xs := nI l) (fun j G => Ex G1 G ∧ ListN G D2 ((l.take j).filter fun x => decide (gt ys x ≠ x))) ⟨Ex.new hD2, upd_same⟩ (fun j G _ q => ((hr'.ex e1).ex q.1).sz) ?_ ?_
    · rintro j x G hx ⟨e, hd'⟩
      obtain ⟨hj, rfl⟩ := nat_at hx
      have cc := comp ys a G1 D2 rfl (ha.ex e1) (hr'.ex e1) hD2 G j hj e hd'
      refine ⟨rfl, _, rfl, _, rfl, a, _, _, _, rfl, rfl, ((ha.ex e1).ex e).sz, atN (hlt _ (gt_mem hj)), _, rfl, rfl, _, rfl, ?_⟩
      rw [dne]
      exact ite_b (fun c => ⟨_, rfl, cc.1 c⟩) (fun c => cc.2 c)
    rintro G2 ⟨e2, l2⟩
    rw [nI_len, List.take_length] at l2
    refine ⟨D2, _, rfl, .inl l2.sz, ?_⟩
    rw [nI_len]
    refine ⟨_, rfl, _, rfl, _, _, rfl, rfl, _, _, rfl, rfl, wide_div (b := 60) (by omega) (by omega) (by decide) (by decide), ?_⟩
    exact k G2 (e1.trans e2)

end

section
variable {P : Program} {w : World} {K : PySem.W.Frag} {mg : Str → Option Value} {base : Heap} {A : Ad}
theorem lessE_perm {l : List Nat} : (lessE l).Perm l := by
  unfold lessE
  split
  · exact List.reverse_perm l
  · exact .refl l
theorem part_lt {A B : List Nat} {x : Nat} (h : A.length = B.length) (a : Sta A) (b : Sta B) (hx : x < A.length) : ∀ y ∈ (partF A B x).2, y < A.length := by
  have T1 := walkF_ok (trl_ex h a b hx)
  have T2 := walkF_ok (trl_ex h.symm b a (by rw [← h]; exact hx))
  have both : ∀ y ∈ (walkF B A x).tail.reverse ++ walkF A B x, y < A.length := fun y hy => by
    rcases List.mem_append.mp hy with hy | hy
    · rw [h]
      exact T2.lt y (List.mem_of_mem_tail (List.mem_reverse.mp hy))
    · exact T1.lt y hy
  unfold partF
  split
  · exact T1.lt
  · show ∀ y ∈ lessE ((walkF B A x).tail.reverse ++ walkF A B x), _
    exact fun y hy => both y (lessE_perm.mem_iff.mp hy)
theorem parts_lt {A B : List Nat} (h : A.length = B.length) (a : Sta A) (b : Sta B) : ∀ i, i ≤ A.length → ∀ c ∈ partsF A B i, c.2.length ≤ 2 * A.length ∧ ∀ y ∈ c.2, y < A.length
  | 0, _, c, hc => by cases hc
  | i + 1, hi, c, hc => by
    have ih := parts_lt h a b i (by omega)
    have hc : c ∈ (if gt A i ≠ gt B i ∧ i ∉ (partsF A B i).flatMap (·.2) then partsF A B i ++ [partF A B i] else partsF A B i) := hc
    split at hc
    · rcases List.mem_append.mp hc with hc | hc
      · exact ih c hc
      · rw [List.mem_singleton.mp hc]
        exact ⟨part_len h a b (by omega), part_lt h a b (by omega)⟩
    · exact ih c hc
theorem parts_few {A B : List Nat} : ∀ i, (partsF A B i).length ≤ i
  | 0 => Nat.le_refl _
  | i + 1 => by
    have ih := parts_few (A := A) (B := B) i
    show (if _ then _ else _ : List (Bool × List Nat)).length ≤ _
    split
    · rw [List.length_append]
      exact Nat.succ_le_succ ih
    · omega
theorem ok_kind_of (T : Txt K mg A)  (g_parts : Okd P w K mg base (L2N.CX P w) 6 A.parts P_parts (spPts A)) (g_gain : Okd P w K mg base CX0 1 A.gain P_gain spGn) : Okd P w K mg base (L2N.CX P w) 7 A.kind_of P_kind_of (spKd A) := by
  obtain ⟨fd, F⟩ := T.d_kind_of
  obtain ⟨fd_parts, G_parts, b_parts⟩ := g_parts
  obtain ⟨fd_gain, G_gain, b_gain⟩ := g_gain
  refine ⟨fd, F.okN sc_kind_of (fun vs H Q E h => ?_) (fun cdv A' outer s H vs Q E hr h => ?_), F.binds fun _ _ _ _ _ _ us hl => match us, hl with | [_, _], _ => rfl⟩
  · obtain ⟨a, b, xs, zs, rfl, _⟩ := h
    rfl
  · obtain ⟨a, b, xs, zs, rfl, ha, hb, hl, hl2, kq, kr⟩ := h
    refine ⟨_, (pss_cons (ps_set (i := 2) sc_kind_of.nd rfl (Or.inl rfl) (pe_callS G_parts (hr.mono (by decide)) rfl T.g_parts T.k_parts b_parts (fun σ => L2N.passAt (L2N.takes_of rfl rfl rfl rfl) σ) (pa_cons (pv 0) (pa_cons (pv 1) pa_nil))))
      (pss_cons (ps_setLc (i := 3) (own := [("shape", 5), ("row", 4)]) (g := gTup K 2 (gCons (gName 5) (gCons (gName 4) gNil))) (tt := tYes) (by rfl) sc_kind_of.nd rfl rfl (sw_true rfl rfl rfl (by decide +kernel)) (pi_list (pv 2)) (blkOk_by (own := [("shape", 5), ("row", 4)]) (N := N_kind_of) (sc := defScope s_kind_of) (by decide +kernel)) (fun _ _ _ _ _ => (pg_tup (by rfl) (pgs_cons (pg_name (i := 5) sc_kind_of.nd rfl (Or.inl rfl)) (pgs_cons (pg_name (i := 4) sc_kind_of.nd rfl (Or.inl rfl)) pgs_nil)))) (fun _ _ _ _ _ => pts_nil) (fun _ _ _ _ _ => (pe_tup (pa_cons (pv 5) (pa_cons (pe_callB (call_lenK (K := K) rfl) (by rfl) T.n_len PySem.boot_len (pa_cons (pv 4) pa_nil)) (pa_cons (pe_call G_gain (hr.mono (by decide)) (by rfl) T.g_gain T.k_gain b_gain .nil pass0 (pa_cons (pv 0) (pa_cons (pv 1) (pa_cons (pv 4) pa_nil)))) pa_nil))))))
      (pss_one (ps_ret (pe_callTy call_tuple_of (by rfl) T.n_tuple (by decide +kernel) (pa_cons (pe_callB (DaS.cr_sortD hr.units) (by rfl) T.n_sorted (by decide +kernel) (pa_cons (pv 3) pa_nil)) pa_nil)))))), ?_⟩
    refine ⟨_, rfl, _, rfl, a, b, xs, zs, rfl, ha, hb, hl, hl2, fun f0 pf H1 hpf e1 PA => ?_, fun f hf => kr f hf⟩
    have kq := kq f0
    obtain ⟨fs1, fs2, hlen⟩ := faultF_no f0
    obtain ⟨s1, st1⟩ := faultS_no fs1
    obtain ⟨s2, st2⟩ := faultS_no fs2
    have la := (ha.ex e1).nat s1
    have lb := (hb.ex e1).nat s2
    have yl : (natI xs).length = xs.length := natI_len
    have zl : (natI zs).length = xs.length := by rw [natI_len, hlen]
    have lts := parts_lt (A := natI xs) (B := natI zs) (by omega) st1 st2 xs.length (by omega)
    have few := parts_few (A := natI xs) (B := natI zs) xs.length
    unfold entsF at kq
    generalize natI xs = ys at st1 la yl kq lts PA few
    generalize natI zs = ws at st2 lb zl kq lts PA few
    generalize partsF ys ws xs.length = cs at kq lts PA few
    obtain ⟨ts, htp, tl, tat⟩ := PA
    refine ⟨_, rfl, pf, rfl, ⟨_, SqL.of htp⟩, fun D hD => ?_⟩
    refine lc_list (K := K) (a := pf) (xs := ts.map V.ref) (fun j G => Ex H1 G ∧ EntsAt G D ((cs.take j).map (entO ys ws))) ⟨Ex.new hD, [], upd_same, rfl, fun i t e z => by cases z⟩ (fun j G _ q => SqL.of (q.1 _ _ htp)) ?_ ?_
    · rintro j x G hx ⟨e, us, hus, ul, uat⟩
      obtain ⟨t1, ht1, rfl⟩ : ∃ t1, ts[j]? = some t1 ∧ x = V.ref t1 := by
        rw [List.getElem?_map] at hx
        cases z : ts[j]? with
        | none => rw [z] at hx; cases hx
        | some y => rw [z] at hx; exact ⟨y, rfl, (Option.some.inj hx).symm⟩
      have jl : j < cs.length := by have := (List.getElem?_eq_some_iff.mp ht1).1; omega
      have hc1 : cs[j]? = some cs[j] := List.getElem?_eq_getElem jl
      obtain ⟨l, q1, q2⟩ := tat j _ _ ht1 hc1
      obtain ⟨cl, clt⟩ := lts _ (List.mem_of_getElem? hc1)
      refine ⟨t1, _, rfl, SqT.of (e _ _ q1), rfl, _, _, rfl, _, _, rfl, rfl, rfl, ?_⟩
      have q2' := q2.ex e
      have laG := la.ex e
      have lbG := lb.ex e
      have ej : (cs.take (j + 1)).map (entO ys ws) = (cs.take j).map (entO ys ws) ++ [entO ys ws cs[j]] := by
        rw [List.take_add_one, hc1, List.map_append]
        rfl
      rw [ej]
      unfold entO at *
      generalize cs[j] = c1 at q2' cl clt ⊢
      refine ⟨_, rfl, _, rfl, l, _, rfl, .inl q2'.sz, ?_⟩
      refine ⟨_, rfl, _, rfl, _, rfl, a, b, l, ys, ws, c1.2, rfl, laG, lbG, q2', by omega, by omega, by omega, fun x hx => by have := clt x hx; omega, fun G2 e2 => ?_⟩
      refine ⟨(by show 3 ≤ sizeLine; decide), fun t ht => ?_⟩
      rw [nI_len]
      have eT := Ex.new (o := .tup [V.str (wE (rgB c1.1)), V.int (c1.2.length : Int), V.int (gainF ys ws c1.2)]) ht
      have hT : upd G2 t (.tup [V.str (wE (rgB c1.1)), V.int (c1.2.length : Int), V.int (gainF ys ws c1.2)]) t = some (.tup [V.str (wE (rgB c1.1)), V.int (c1.2.length : Int), V.int (gainF ys ws c1.2)]) := upd_same
      have husT := eT _ _ (e2 _ _ hus)
      have e02 := (e.trans e2).trans eT
      have uatT : ∀ (i : Nat) (t : Addr) (e : Ent), us[i]? = some t → ((cs.take j).map (fun c => ((if c.1 = true then 1 else 0, (c.2.length : Int), gainF ys ws c.2) : Ent)))[i]? = some e → EntAt (upd G2 _ _) t e := fun i t e h1 h2 => eT _ _ (e2 _ _ (uat i t e h1 h2))
      generalize upd G2 t (.tup [V.str (wE (rgB c1.1)), V.int (c1.2.length : Int), V.int (gainF ys ws c1.2)]) = G3 at hT husT e02 uatT ⊢
      have ul2 : us.length ≤ 65 := by rw [ul, List.length_map, List.length_take]; omega
      refine ⟨_, husT, small1000 (by rw [List.length_map]; omega), fun x o ho => ?_, us ++ [t], ?_, ?_, fun i t' e' h1 h2 => ?_⟩
      · rw [upd_ne (ne_of_none ho hD)]
        exact e02 _ _ ho
      · rw [upd_same, List.map_append]
        rfl
      · rw [List.length_append, List.length_append, ul]
        rfl
      · have nD : ∀ x o, G3 x = some (.tup o) → upd G3 D (.lst (us.map V.ref ++ [V.ref t])) x = some (.tup o) := fun x o h => by
          rw [upd_ne (fun z => by rw [z, husT] at h; cases h)]
          exact h
        by_cases ci : i < us.length
        · rw [List.getElem?_append_left ci] at h1
          rw [List.getElem?_append_left (by omega)] at h2
          exact nD _ _ (uatT i t' e' h1 h2)
        · rw [List.getElem?_append_right (by omega)] at h1
          rw [List.getElem?_append_right (by omega), ← ul] at h2
          match hz : i - us.length with
          | 0 =>
            rw [hz] at h1 h2
            have h1 := Option.some.inj h1
            have h2 := Option.some.inj h2
            subst h1
            subst h2
            exact nD _ _ hT
          | z + 1 =>
            rw [hz] at h1
            cases h1
    rintro G1 ⟨e2, us, hus, ul, uat⟩
    have ltr : (ts.map V.ref).length = cs.length := by rw [List.length_map, tl]
    rw [ltr, List.take_length] at ul uat
    have w2 : ∀ e ∈ cs.map (entO ys ws), e.1 < 2 := fun e he => by
      obtain ⟨c, _, rfl⟩ := List.mem_map.mp he
      unfold entO
      show (if c.1 = true then 1 else 0) < 2
      split <;> omega
    obtain ⟨ts', es', so1, so2, so3, so4, so5⟩ := sort_ents ul uat w2
    have fl := List.length_map (f := entO ys ws) (as := cs)
    generalize cs.map (entO ys ws) = es at ul uat w2 so1 so2 so3 so4 so5 kq fl
    have zf : ((us.zip es).map fun z => (V.ref z.1, encE z.2)).map Prod.fst = us.map V.ref := by
      rw [List.map_map]
      have := List.map_fst_zip (l₁ := us) (l₂ := es) (by omega)
      conv => rhs; rw [← this, List.map_map]
      rfl
    refine ⟨_, rfl, D, (us.zip es).map fun z => (V.ref z.1, encE z.2), rfl, (by rw [zf]; exact SqL.of hus), fun z hz => ?_, ?_, ?_, fun p hp => ?_⟩
    · obtain ⟨y, hy, rfl⟩ := List.mem_map.mp hz
      obtain ⟨i, hi, ez⟩ := List.getElem_of_mem hy
      have e2z : (us.zip es)[i]? = some y := by rw [List.getElem?_eq_getElem hi, ez]
      rw [List.getElem?_zip_eq_some] at e2z
      exact ⟨dp_ent (uat i _ _ e2z.1 e2z.2), depth_ent _⟩
    · rw [List.map_map]
      intro d hd d' hd'
      obtain ⟨y, _, rfl⟩ := List.mem_map.mp hd
      obtain ⟨y', _, rfl⟩ := List.mem_map.mp hd'
      exact alike_ent _ _
    · rw [List.map_map]
      refine .inl fun d hd => ?_
      obtain ⟨y, _, rfl⟩ := List.mem_map.mp hd
      exact ⟨_, _, rfl⟩
    · rw [so1]
      have hS : upd G1 p (.lst (ts'.map V.ref)) p = some (.lst (ts'.map V.ref)) := upd_same
      have e3 := Ex.new (o := .lst (ts'.map V.ref)) hp
      generalize upd G1 p (.lst (ts'.map V.ref)) = G2 at hS e3 ⊢
      refine ⟨p, _, rfl, Or.inl ⟨SqL.of hS, fun q hq => ?_⟩⟩
      have e4 := Ex.new (o := .tup (ts'.map V.ref)) hq
      have e0 := ((e1.trans e2).trans e3).trans e4
      exact kq q es' _ (back_none ((e1.trans e2).trans e3) hq) e0 so2 so3 ⟨ts', upd_same, so4, fun i t e h1 h2 => e4 _ _ (e3 _ _ (so5 i t e h1 h2))⟩

end

section
variable {P : Program} {w : World} {K : PySem.W.Frag} {mg : Str → Option Value} {base : Heap} {A : Ad}
theorem ok_m_init (T : Txt K mg A)  (g_check_pair : Okd P w K mg base (L2N.CX P w) 5 A.check_pair P_check_pair (spCP A)) : Okd P w K mg base (L2N.CX P w) 6 A.m_init P_m_init (spUi A) := by
  obtain ⟨fd, F⟩ := T.d_m_init
  obtain ⟨fd_check_pair, G_check_pair, b_check_pair⟩ := g_check_pair
  refine ⟨fd, F.okN sc_m_init (fun vs H Q E h => ?_) (fun cdv A' outer s H vs Q E hr h => ?_), F.binds fun _ _ _ _ _ _ us hl => match us, hl with | [_, _, _], _ => rfl⟩
  · obtain ⟨u, a, b, dx, xs, zs, rfl, _⟩ := h
    rfl
  · obtain ⟨u, a, b, dx, xs, zs, rfl, hu, ha, hb, hl, hl2, kq, kr⟩ := h
    refine ⟨_, (pss_cons (ps_expr (pe_callS G_check_pair (hr.mono (by decide)) rfl T.g_check_pair T.k_check_pair b_check_pair (fun σ => L2N.passAt (L2N.takes_of rfl rfl rfl rfl) σ) (pa_cons (pv 1) (pa_cons (pv 2) pa_nil))))
      (pss_cons (ps_fld (pv 0) (pe_callTy call_list_of (by rfl) T.n_list (by decide +kernel) (pa_cons (pv 1) pa_nil)) rfl)
      (pss_one (ps_fld (pv 0) (pe_callTy call_list_of (by rfl) T.n_list (by decide +kernel) (pa_cons (pv 2) pa_nil)) rfl)))), ?_⟩
    refine ⟨_, rfl, _, rfl, a, b, xs, zs, rfl, ha, hb, hl, hl2, fun f0 H1 e1 => ?_, fun f hf => kr f hf⟩
    have kq := kq f0
    obtain ⟨fs1, fs2, hlen⟩ := faultF_no f0
    obtain ⟨s1, st1⟩ := faultS_no fs1
    obtain ⟨s2, st2⟩ := faultS_no fs2
    have la := (ha.ex e1).nat s1
    have lb := (hb.ex e1).nat s2
    have hu1 := e1 _ _ hu
    refine ⟨_, rfl, a, _, rfl, Or.inl la.sz, fun p hp => ?_⟩
    have nup : u ≠ p := ne_of_none hu1 hp
    have eP := Ex.new (o := .lst (nI (natI xs))) hp
    have lp : ListN (upd H1 p (.lst (nI (natI xs)))) p (natI xs) := upd_same
    have hu2 := eP _ _ hu1
    have lb2 := lb.ex eP
    generalize upd H1 p (.lst (nI (natI xs))) = H2 at eP lp hu2 lb2 ⊢
    refine ⟨_, rfl, u, _, dx, _, rfl, hu2, T.cR, T.nc_before, (by decide), ?_⟩
    have k3 : ∀ x o, x ≠ u → H2 x = some o → upd H2 u (.ins A.Update dx [("before", .ref p)]) x = some o := fun x o h1 h => by rw [upd_ne h1]; exact h
    have hu3 : upd H2 u (.ins A.Update dx [("before", .ref p)]) u = some (.ins A.Update dx [("before", .ref p)]) := upd_same
    have nbu : b ≠ u := fun z => by have h : H2 b = some _ := lb2; rw [z, hu2] at h; cases h
    rw [show putF (Str.ofString "before") (V.ref p) [] = [(("before" : Str), V.ref p)] from rfl]
    generalize upd H2 u (.ins A.Update dx [("before", .ref p)]) = H3 at k3 hu3 ⊢
    have lb3 : ListN H3 b (natI zs) := k3 _ _ nbu lb2
    have lp3 : ListN H3 p (natI xs) := k3 _ _ (Ne.symm nup) lp
    refine ⟨_, rfl, b, _, rfl, Or.inl lb3.sz, fun q hq => ?_⟩
    have nuq : u ≠ q := ne_of_none hu3 hq
    have npq : p ≠ q := ne_of_none (show H3 p = some _ from lp3) hq
    have eQ := Ex.new (o := .lst (nI (natI zs))) hq
    have lq : ListN (upd H3 q (.lst (nI (natI zs)))) q (natI zs) := upd_same
    have hu4 := eQ _ _ hu3
    have lp4 := lp3.ex eQ
    have fq : H q = none := by
      cases z : H q with
      | none => rfl
      | some o => rw [k3 _ _ (Ne.symm nuq) (eP _ _ (e1 _ _ z))] at hq; cases hq
    generalize upd H3 q (.lst (nI (natI zs))) = H4 at eQ lq hu4 lp4 ⊢
    refine ⟨_, rfl, u, _, dx, _, rfl, hu4, T.cR, T.nc_after, (by show 1 < 1000; decide), ?_⟩
    have k5 : ∀ x o, x ≠ u → H4 x = some o → upd H4 u (.ins A.Update dx [("before", .ref p), ("after", .ref q)]) x = some o := fun x o h1 h => by rw [upd_ne h1]; exact h
    exact kq p q (upd H4 u (.ins A.Update dx [("before", .ref p), ("after", .ref q)])) (back_none e1 hp) fq npq (fun x o h1 h => k5 _ _ h1 (eQ _ _ (k3 _ _ h1 (eP _ _ (e1 _ _ h))))) upd_same (k5 _ _ (Ne.symm nup) lp4) (k5 _ _ (Ne.symm nuq) lq)

end

section
variable {P : Program} {w : World} {K : PySem.W.Frag} {mg : Str → Option Value} {base : Heap} {A : Ad}
theorem ok_m_kind (T : Txt K mg A)  (g_kind_of : Okd P w K mg base (L2N.CX P w) 7 A.kind_of P_kind_of (spKd A)) : Okd P w K mg base CX0 8 A.m_kind P_m_kind (spUk A) := by
  obtain ⟨fd, F⟩ := T.d_m_kind
  obtain ⟨fd_kind_of, G_kind_of, b_kind_of⟩ := g_kind_of
  refine ⟨fd, F.ok sc_m_kind (fun vs H Q E h => ?_) (fun cdv A' outer s H vs Q E hr h => ?_), F.binds fun _ _ _ _ _ _ us hl => match us, hl with | [_], _ => rfl⟩
  · obtain ⟨u, ys, zs, rfl, _⟩ := h
    rfl
  · obtain ⟨u, ys, zs, rfl, U, sy, sz, hl, h65, k⟩ := h
    refine ⟨_, (pss_one (ps_ret (pe_callS G_kind_of (hr.mono (by decide)) rfl T.g_kind_of T.k_kind_of b_kind_of (fun σ => L2N.passAt L2N.takes0N σ) (pa_cons (pe_fld (pv 0) rfl) (pa_cons (pe_fld (pv 0) rfl) pa_nil))))), ?_⟩
    obtain ⟨dx, p, q, hu, lp, lq, npu, nqu⟩ := U
    have f1 := (sta_fault sy).2
    have f2 := (sta_fault sz).2
    have ff : faultF (toI ys) (toI zs) = none := by
      unfold faultF
      rw [f1]
      simp only [f2]
      rw [if_neg (fun h => h (by rw [toI_len, toI_len, hl]))]
    refine ⟨_, rfl, u, _, dx, _, _, rfl, hu, T.cR, T.nc_before, rfl, ?_⟩
    refine ⟨_, rfl, u, _, dx, _, _, rfl, hu, T.cR, T.nc_after, rfl, ?_⟩
    refine ⟨p, q, toI ys, toI zs, rfl, lp.int, lq.int, by rw [toI_len]; exact h65, by rw [toI_len, hl]; exact h65, fun _ r es H' hr' e hp1 hp2 K1 => ?_, fun f hf => by rw [ff] at hf; cases hf⟩
    rw [toI_nat, toI_nat, toI_len] at hp1
    exact k r es H' hr' e hp1 hp2 K1

end

section
variable {P : Program} {w : World} {K : PySem.W.Frag} {mg : Str → Option Value} {base : Heap} {A : Ad}
theorem nG_le {f : Ent} : ∀ {fs : List Ent}, f ∈ fs → nG f ≤ totG fs
  | [], h => by cases h
  | e :: es, h => by
    show _ ≤ nG e + totG es
    rcases List.mem_cons.mp h with h | h
    · rw [h]
      omega
    · have := nG_le h
      omega
theorem ok_law {fd : FuncData} (T : Txt K mg A) (F : Fun K "law" "law" s_law A.law fd)  (g_law_box : Okd P w K mg base CX0 1 A.law_box P_law_box (spBox K)) (g_law_entries : Okd P w K mg base CX0 4 A.law_entries P_law_entries spEs) (g_law_kept : Okd P w K mg base CX0 11 A.law_kept P_law_kept spKp8) (g_law_bent : Okd P w K mg base CX0 4 A.law_bent P_law_bent spBe8) (g_law_judged : Okd P w K mg base CX0 12 A.law_judged P_law_judged spJd) : FnOk P w K mg base CX0 13 A.law fd P_law (spLaw K) := by
  obtain ⟨fd_law_box, G_law_box, b_law_box⟩ := g_law_box
  obtain ⟨fd_law_entries, G_law_entries, b_law_entries⟩ := g_law_entries
  obtain ⟨fd_law_kept, G_law_kept, b_law_kept⟩ := g_law_kept
  obtain ⟨fd_law_bent, G_law_bent, b_law_bent⟩ := g_law_bent
  obtain ⟨fd_law_judged, G_law_judged, b_law_judged⟩ := g_law_judged
  refine F.ok sc_law (fun vs H Q E h => ?_) (fun cdv A' outer s H vs Q E hr h => ?_)
  · obtain ⟨a, ns, rfl, _⟩ := h
    rfl
  · obtain ⟨a, ns, rfl, hs, hl, k⟩ := h
    refine ⟨_, (pss_cons (ps_set (i := 1) sc_law.nd rfl (Or.inl rfl) (pe_call G_law_box (hr.mono (by decide)) (by rfl) T.g_law_box T.k_law_box b_law_box .nil pass0 (pa_cons (pv 0) pa_nil)))
      (pss_cons (ps_set (i := 2) sc_law.nd rfl (Or.inl rfl) (pe_call G_law_entries (hr.mono (by decide)) (by rfl) T.g_law_entries T.k_law_entries b_law_entries .nil pass0 (pa_cons (pv 1) pa_nil)))
      (pss_cons (ps_if (pt_not (pt_val (pe_call G_law_kept (hr.mono (by decide)) (by rfl) T.g_law_kept T.k_law_kept b_law_kept .nil pass0 (pa_cons (pv 2) pa_nil)))) (pss_one (ps_ret pe_bl)) pss_nil)
      (pss_cons (ps_for PassesOwn.never rfl (pi_range1 (by rfl) T.n_range (pa_cons pe_int pa_nil)) (pg_name (i := 3) sc_law.nd rfl (Or.inl rfl)) (pss_one (ps_if (pt_not (pt_val (pe_call G_law_judged (hr.mono (by decide)) (by rfl) T.g_law_judged T.k_law_judged b_law_judged .nil pass0 (pa_cons (pe_call G_law_bent (hr.mono (by decide)) (by rfl) T.g_law_bent T.k_law_bent b_law_bent .nil pass0 (pa_cons (pv 1) (pa_cons (pv 2) pa_nil))) pa_nil)))) (pss_one (ps_ret pe_bl)) pss_nil)))
      (pss_one (ps_ret pe_bl)))))), ?_⟩
    refine ⟨_, rfl, a, ns, rfl, hs, hl, fun b c H1 hb hc e1 B1 => ?_⟩
    refine ⟨_, rfl, b, c, rfl, B1, fun q fs H2 hq B2 M2 EA gd pw tot fl => ?_⟩
    have nqb : q ≠ b := (B1.ne hq).1
    refine ⟨_, rfl, q, fs, rfl, EA, gd, pw, tot, by omega, fun H3 e3 => ⟨true, rfl, iteF ?_⟩⟩
    have B3 := B2.ex e3
    have EA3 := EA.ex e3
    have g64 : ∀ f ∈ fs, GdE f ∧ f.2.1 ≤ 64 := fun f hf => ⟨gd f hf, by
      have := nG_le hf
      have h2 := (gd f hf).n2
      unfold nG at this
      omega⟩
    refine ⟨_, rfl, by decide, by decide, ?_⟩
    refine for_range (lo := 0) (n := 3) (fun i σ G => ∃ v3 : Option V, σ = [some (.ref a), some (.ref b), some (.ref q), v3] ∧ Bx G b c ∧ Mut b H3 G) ⟨none, rfl, B3, fun _ _ _ h => h⟩ ?_ ?_
    · rintro i σ G hi ⟨v3, rfl, BG, MG⟩
      have EG : EntsAt G q fs := by
        obtain ⟨ts, h1, h2, h3⟩ := EA3
        refine ⟨ts, MG _ _ nqb h1, h2, fun j t f x y => MG _ _ (fun z => ?_) (h3 j t f x y)⟩
        have h := h3 j t f x y
        obtain ⟨ns, d0, i0, k0, s0, hb, _⟩ := B3
        rw [z] at h
        have h : H3 b = some _ := h
        rw [hb] at h
        cases h
      refine ⟨_, rfl, _, rfl, b, c, q, fs, rfl, BG, EG, fl, g64, fun r es G1 hr B4 M4 GL el sm => ?_⟩
      exact ⟨r, es, rfl, GL, el, sm, fun G2 e2 => ⟨true, rfl, iteF ⟨_, rfl, B4.ex e2, fun x o h1 h => e2 _ _ (M4 _ _ h1 (MG _ _ h1 h))⟩⟩⟩
    · rintro σ G ⟨v3, rfl, BG, MG⟩
      exact k G

end
end Pv
namespace Pv
open PySem L2 Evl
theorem all_mk {l : PySem.W.OpenLaw} {w : World} {K : PySem.W.Frag} {h : Heap} {mg : Str → Option Value} {fa f_check_image f_check_state f_check_pair f_check_kind f_parts f_kind_of f_reverse_kind f_sample_rows f_is_entry f_part_of f_walk f_gain f_paired f_m_init f_m_kind f_sample f_law_mix f_law_box f_law_draw f_law_whole f_law_row f_law_kind_told f_law_ascending f_law_entry f_law_entries f_law_strange f_law_bent f_law_good_entry f_law_valid f_law_sample_due f_law_reversed f_law_kept f_law_call f_law_refused f_law_judged f_law c_MendError N_MendError_ c_InvalidImage N_InvalidImage_ i_InvalidImage c_NotState N_NotState_ i_NotState c_UnequalSizes N_UnequalSizes_ c_InvalidKind N_InvalidKind_ c_InvalidChange N_InvalidChange_ c_Update p_kind : Addr}
    {od_check_image an_check_image od_check_state an_check_state od_check_pair an_check_pair od_check_kind an_check_kind od_parts an_parts od_kind_of an_kind_of od_reverse_kind an_reverse_kind od_sample_rows an_sample_rows od_is_entry an_is_entry od_part_of an_part_of od_walk an_walk od_gain an_gain od_paired an_paired od_m_init an_m_init od_m_kind an_m_kind od_sample an_sample od_law_mix an_law_mix od_law_box an_law_box od_law_draw an_law_draw od_law_whole an_law_whole od_law_row an_law_row od_law_kind_told an_law_kind_told od_law_ascending an_law_ascending od_law_entry an_law_entry od_law_entries an_law_entries od_law_strange an_law_strange od_law_bent an_law_bent od_law_good_entry an_law_good_entry od_law_valid an_law_valid od_law_sample_due an_law_sample_due od_law_reversed an_law_reversed od_law_kept an_law_kept od_law_call an_law_call od_law_refused an_law_refused od_law_judged an_law_judged od_law an_law dd_MendError dd_InvalidImage od_i_InvalidImage an_i_InvalidImage dd_NotState od_i_NotState an_i_NotState dd_UnequalSizes dd_InvalidKind dd_InvalidChange : Option Addr}
    {sl_check_image sl_check_state sl_check_pair sl_check_kind sl_parts sl_kind_of sl_reverse_kind sl_sample_rows sl_is_entry sl_part_of sl_walk sl_gain sl_paired sl_m_init sl_m_kind sl_sample sl_law_mix sl_law_box sl_law_draw sl_law_whole sl_law_row sl_law_kind_told sl_law_ascending sl_law_entry sl_law_entries sl_law_strange sl_law_bent sl_law_good_entry sl_law_valid sl_law_sample_due sl_law_reversed sl_law_kept sl_law_call sl_law_refused sl_law_judged sl_law sl_i_InvalidImage sl_i_NotState : Array (Option Value)}
    {oc_check_image doc_check_image pm_check_image cd_check_image ct_check_image kV_check_image oc_check_state doc_check_state pm_check_state cd_check_state ct_check_state kV_check_state oc_check_pair doc_check_pair pm_check_pair cd_check_pair ct_check_pair kV_check_pair oc_check_kind doc_check_kind pm_check_kind cd_check_kind ct_check_kind kV_check_kind oc_parts doc_parts pm_parts cd_parts ct_parts kV_parts oc_kind_of doc_kind_of pm_kind_of cd_kind_of ct_kind_of kV_kind_of oc_reverse_kind doc_reverse_kind pm_reverse_kind cd_reverse_kind ct_reverse_kind kV_reverse_kind oc_sample_rows doc_sample_rows pm_sample_rows cd_sample_rows ct_sample_rows kV_sample_rows oc_is_entry doc_is_entry pm_is_entry cd_is_entry ct_is_entry kV_is_entry oc_part_of doc_part_of pm_part_of cd_part_of ct_part_of kV_part_of oc_walk doc_walk pm_walk cd_walk ct_walk kV_walk oc_gain doc_gain pm_gain cd_gain ct_gain kV_gain oc_paired doc_paired pm_paired cd_paired ct_paired kV_paired oc_m_init doc_m_init pm_m_init cd_m_init ct_m_init kV_m_init oc_m_kind doc_m_kind pm_m_kind cd_m_kind ct_m_kind kV_m_kind oc_sample doc_sample pm_sample cd_sample ct_sample kV_sample oc_law_mix doc_law_mix pm_law_mix cd_law_mix ct_law_mix kV_law_mix oc_law_box doc_law_box pm_law_box cd_law_box ct_law_box kV_law_box oc_law_draw doc_law_draw pm_law_draw cd_law_draw ct_law_draw kV_law_draw oc_law_whole doc_law_whole pm_law_whole cd_law_whole ct_law_whole kV_law_whole oc_law_row doc_law_row pm_law_row cd_law_row ct_law_row kV_law_row oc_law_kind_told doc_law_kind_told pm_law_kind_told cd_law_kind_told ct_law_kind_told kV_law_kind_told oc_law_ascending doc_law_ascending pm_law_ascending cd_law_ascending ct_law_ascending kV_law_ascending oc_law_entry doc_law_entry pm_law_entry cd_law_entry ct_law_entry kV_law_entry oc_law_entries doc_law_entries pm_law_entries cd_law_entries ct_law_entries kV_law_entries oc_law_strange doc_law_strange pm_law_strange cd_law_strange ct_law_strange kV_law_strange oc_law_bent doc_law_bent pm_law_bent cd_law_bent ct_law_bent kV_law_bent oc_law_good_entry doc_law_good_entry pm_law_good_entry cd_law_good_entry ct_law_good_entry kV_law_good_entry oc_law_valid doc_law_valid pm_law_valid cd_law_valid ct_law_valid kV_law_valid oc_law_sample_due doc_law_sample_due pm_law_sample_due cd_law_sample_due ct_law_sample_due kV_law_sample_due oc_law_reversed doc_law_reversed pm_law_reversed cd_law_reversed ct_law_reversed kV_law_reversed oc_law_kept doc_law_kept pm_law_kept cd_law_kept ct_law_kept kV_law_kept oc_law_call doc_law_call pm_law_call cd_law_call ct_law_call kV_law_call oc_law_refused doc_law_refused pm_law_refused cd_law_refused ct_law_refused kV_law_refused oc_law_judged doc_law_judged pm_law_judged cd_law_judged ct_law_judged kV_law_judged oc_law doc_law pm_law cd_law ct_law kV_law oc_i_InvalidImage kV_i_InvalidImage doc_i_InvalidImage pm_i_InvalidImage cd_i_InvalidImage ct_i_InvalidImage oc_i_NotState kV_i_NotState doc_i_NotState pm_i_NotState cd_i_NotState ct_i_NotState : Value}
    {nm_MendError q_MendError nm_InvalidImage q_InvalidImage nm_NotState q_NotState nm_UnequalSizes q_UnequalSizes nm_InvalidKind q_InvalidKind nm_InvalidChange q_InvalidChange : Str}
    {bs_MendError sub_MendError bm_MendError bs_InvalidImage sub_InvalidImage bs_NotState sub_NotState bs_UnequalSizes sub_UnequalSizes bs_InvalidKind sub_InvalidKind bs_InvalidChange sub_InvalidChange rr_kind : List Value}
    {sn_MendError sn_InvalidImage sn_NotState sn_UnequalSizes sn_InvalidKind sn_InvalidChange : List Str}
    {ab_MendError ab_InvalidImage ab_NotState ab_UnequalSizes ab_InvalidKind ab_InvalidChange : Bool}
    {col_MendError col_InvalidImage col_NotState col_UnequalSizes col_InvalidKind col_InvalidChange : Option Bool}
    {k0_MendError k1_MendError k2_MendError k3_MendError k5_MendError k0_InvalidImage k1_InvalidImage k2_InvalidImage k3_InvalidImage k5_InvalidImage k0_NotState k1_NotState k2_NotState k3_NotState k5_NotState k0_UnequalSizes k1_UnequalSizes k2_UnequalSizes k3_UnequalSizes k5_UnequalSizes k0_InvalidKind k1_InvalidKind k2_InvalidKind k3_InvalidKind k5_InvalidKind k0_InvalidChange k1_InvalidChange k2_InvalidChange k3_InvalidChange k5_InvalidChange : Option Value}
    (X : K.In h) (G : h.Ns mainGlobals mg) (hfa : mg "law" = some (.ref fa))
    (a_Update : PySem.W.nsIn K mainGlobals "Update" = some (some (.ref c_Update)))
    (rm2 : PySem.W.findIn K (.ref c_Update) "__init__" = some (some (.ref f_m_init)))
    (pa_kind : PySem.W.findIn K (.ref c_Update) "kind" = some (some (.ref p_kind)))
    (pd_kind : PySem.W.recIn K p_kind "property" = some (.ref f_m_kind :: rr_kind))
    (a_check_image : PySem.W.nsIn K mainGlobals "check_image" = some (some (.ref f_check_image)))
    (l_check_image : K.lookup f_check_image = some ⟨oc_check_image, od_check_image, .func (PySem.W.fnOf "check_image" "check_image" (defArgs s_check_image) (defBody s_check_image) (defScope s_check_image) .none kV_check_image doc_check_image pm_check_image an_check_image cd_check_image ct_check_image), sl_check_image⟩)
    (cd_is_check_image : PySem.W.codeIn K cd_check_image "check_image" = true)
    (k_check_image : PySem.W.keepIn K (.ref f_check_image) = true)
    (a_check_state : PySem.W.nsIn K mainGlobals "check_state" = some (some (.ref f_check_state)))
    (l_check_state : K.lookup f_check_state = some ⟨oc_check_state, od_check_state, .func (PySem.W.fnOf "check_state" "check_state" (defArgs s_check_state) (defBody s_check_state) (defScope s_check_state) .none kV_check_state doc_check_state pm_check_state an_check_state cd_check_state ct_check_state), sl_check_state⟩)
    (cd_is_check_state : PySem.W.codeIn K cd_check_state "check_state" = true)
    (k_check_state : PySem.W.keepIn K (.ref f_check_state) = true)
    (a_check_pair : PySem.W.nsIn K mainGlobals "check_pair" = some (some (.ref f_check_pair)))
    (l_check_pair : K.lookup f_check_pair = some ⟨oc_check_pair, od_check_pair, .func (PySem.W.fnOf "check_pair" "check_pair" (defArgs s_check_pair) (defBody s_check_pair) (defScope s_check_pair) .none kV_check_pair doc_check_pair pm_check_pair an_check_pair cd_check_pair ct_check_pair), sl_check_pair⟩)
    (cd_is_check_pair : PySem.W.codeIn K cd_check_pair "check_pair" = true)
    (k_check_pair : PySem.W.keepIn K (.ref f_check_pair) = true)
    (a_check_kind : PySem.W.nsIn K mainGlobals "check_kind" = some (some (.ref f_check_kind)))
    (l_check_kind : K.lookup f_check_kind = some ⟨oc_check_kind, od_check_kind, .func (PySem.W.fnOf "check_kind" "check_kind" (defArgs s_check_kind) (defBody s_check_kind) (defScope s_check_kind) .none kV_check_kind doc_check_kind pm_check_kind an_check_kind cd_check_kind ct_check_kind), sl_check_kind⟩)
    (cd_is_check_kind : PySem.W.codeIn K cd_check_kind "check_kind" = true)
    (k_check_kind : PySem.W.keepIn K (.ref f_check_kind) = true)
    (a_parts : PySem.W.nsIn K mainGlobals "parts" = some (some (.ref f_parts)))
    (l_parts : K.lookup f_parts = some ⟨oc_parts, od_parts, .func (PySem.W.fnOf "parts" "parts" (defArgs s_parts) (defBody s_parts) (defScope s_parts) .none kV_parts doc_parts pm_parts an_parts cd_parts ct_parts), sl_parts⟩)
    (cd_is_parts : PySem.W.codeIn K cd_parts "parts" = true)
    (k_parts : PySem.W.keepIn K (.ref f_parts) = true)
    (a_kind_of : PySem.W.nsIn K mainGlobals "kind_of" = some (some (.ref f_kind_of)))
    (l_kind_of : K.lookup f_kind_of = some ⟨oc_kind_of, od_kind_of, .func (PySem.W.fnOf "kind_of" "kind_of" (defArgs s_kind_of) (defBody s_kind_of) (defScope s_kind_of) .none kV_kind_of doc_kind_of pm_kind_of an_kind_of cd_kind_of ct_kind_of), sl_kind_of⟩)
    (cd_is_kind_of : PySem.W.codeIn K cd_kind_of "kind_of" = true)
    (k_kind_of : PySem.W.keepIn K (.ref f_kind_of) = true)
    (a_reverse_kind : PySem.W.nsIn K mainGlobals "reverse_kind" = some (some (.ref f_reverse_kind)))
    (l_reverse_kind : K.lookup f_reverse_kind = some ⟨oc_reverse_kind, od_reverse_kind, .func (PySem.W.fnOf "reverse_kind" "reverse_kind" (defArgs s_reverse_kind) (defBody s_reverse_kind) (defScope s_reverse_kind) .none kV_reverse_kind doc_reverse_kind pm_reverse_kind an_reverse_kind cd_reverse_kind ct_reverse_kind), sl_reverse_kind⟩)
    (cd_is_reverse_kind : PySem.W.codeIn K cd_reverse_kind "reverse_kind" = true)
    (k_reverse_kind : PySem.W.keepIn K (.ref f_reverse_kind) = true)
    (a_sample_rows : PySem.W.nsIn K mainGlobals "sample_rows" = some (some (.ref f_sample_rows)))
    (l_sample_rows : K.lookup f_sample_rows = some ⟨oc_sample_rows, od_sample_rows, .func (PySem.W.fnOf "sample_rows" "sample_rows" (defArgs s_sample_rows) (defBody s_sample_rows) (defScope s_sample_rows) .none kV_sample_rows doc_sample_rows pm_sample_rows an_sample_rows cd_sample_rows ct_sample_rows), sl_sample_rows⟩)
    (cd_is_sample_rows : PySem.W.codeIn K cd_sample_rows "sample_rows" = true)
    (k_sample_rows : PySem.W.keepIn K (.ref f_sample_rows) = true)
    (a_is_entry : PySem.W.nsIn K mainGlobals "_is_entry" = some (some (.ref f_is_entry)))
    (l_is_entry : K.lookup f_is_entry = some ⟨oc_is_entry, od_is_entry, .func (PySem.W.fnOf "_is_entry" "_is_entry" (defArgs s_is_entry) (defBody s_is_entry) (defScope s_is_entry) .none kV_is_entry doc_is_entry pm_is_entry an_is_entry cd_is_entry ct_is_entry), sl_is_entry⟩)
    (cd_is_is_entry : PySem.W.codeIn K cd_is_entry "_is_entry" = true)
    (k_is_entry : PySem.W.keepIn K (.ref f_is_entry) = true)
    (a_part_of : PySem.W.nsIn K mainGlobals "_part_of" = some (some (.ref f_part_of)))
    (l_part_of : K.lookup f_part_of = some ⟨oc_part_of, od_part_of, .func (PySem.W.fnOf "_part_of" "_part_of" (defArgs s_part_of) (defBody s_part_of) (defScope s_part_of) .none kV_part_of doc_part_of pm_part_of an_part_of cd_part_of ct_part_of), sl_part_of⟩)
    (cd_is_part_of : PySem.W.codeIn K cd_part_of "_part_of" = true)
    (k_part_of : PySem.W.keepIn K (.ref f_part_of) = true)
    (a_walk : PySem.W.nsIn K mainGlobals "_walk" = some (some (.ref f_walk)))
    (l_walk : K.lookup f_walk = some ⟨oc_walk, od_walk, .func (PySem.W.fnOf "_walk" "_walk" (defArgs s_walk) (defBody s_walk) (defScope s_walk) .none kV_walk doc_walk pm_walk an_walk cd_walk ct_walk), sl_walk⟩)
    (cd_is_walk : PySem.W.codeIn K cd_walk "_walk" = true)
    (k_walk : PySem.W.keepIn K (.ref f_walk) = true)
    (a_gain : PySem.W.nsIn K mainGlobals "_gain" = some (some (.ref f_gain)))
    (l_gain : K.lookup f_gain = some ⟨oc_gain, od_gain, .func (PySem.W.fnOf "_gain" "_gain" (defArgs s_gain) (defBody s_gain) (defScope s_gain) .none kV_gain doc_gain pm_gain an_gain cd_gain ct_gain), sl_gain⟩)
    (cd_is_gain : PySem.W.codeIn K cd_gain "_gain" = true)
    (k_gain : PySem.W.keepIn K (.ref f_gain) = true)
    (a_paired : PySem.W.nsIn K mainGlobals "_paired" = some (some (.ref f_paired)))
    (l_paired : K.lookup f_paired = some ⟨oc_paired, od_paired, .func (PySem.W.fnOf "_paired" "_paired" (defArgs s_paired) (defBody s_paired) (defScope s_paired) .none kV_paired doc_paired pm_paired an_paired cd_paired ct_paired), sl_paired⟩)
    (cd_is_paired : PySem.W.codeIn K cd_paired "_paired" = true)
    (k_paired : PySem.W.keepIn K (.ref f_paired) = true)
    (l_m_init : K.lookup f_m_init = some ⟨oc_m_init, od_m_init, .func (PySem.W.fnOf "__init__" "Update.__init__" (defArgs s_m_init) (defBody s_m_init) (defScope s_m_init) .none kV_m_init doc_m_init pm_m_init an_m_init cd_m_init ct_m_init), sl_m_init⟩)
    (cd_is_m_init : PySem.W.codeIn K cd_m_init "Update.__init__" = true)
    (k_m_init : PySem.W.keepIn K (.ref f_m_init) = true)
    (l_m_kind : K.lookup f_m_kind = some ⟨oc_m_kind, od_m_kind, .func (PySem.W.fnOf "kind" "Update.kind" (defArgs s_m_kind) (defBody s_m_kind) (defScope s_m_kind) .none kV_m_kind doc_m_kind pm_m_kind an_m_kind cd_m_kind ct_m_kind), sl_m_kind⟩)
    (cd_is_m_kind : PySem.W.codeIn K cd_m_kind "Update.kind" = true)
    (k_m_kind : PySem.W.keepIn K (.ref f_m_kind) = true)
    (a_sample : PySem.W.nsIn K mainGlobals "sample" = some (some (.ref f_sample)))
    (l_sample : K.lookup f_sample = some ⟨oc_sample, od_sample, .func (PySem.W.fnOf "sample" "sample" (defArgs s_sample) (defBody s_sample) (defScope s_sample) .none kV_sample doc_sample pm_sample an_sample cd_sample ct_sample), sl_sample⟩)
    (cd_is_sample : PySem.W.codeIn K cd_sample "sample" = true)
    (k_sample : PySem.W.keepIn K (.ref f_sample) = true)
    (a_law_mix : PySem.W.nsIn K mainGlobals "_law_mix" = some (some (.ref f_law_mix)))
    (l_law_mix : K.lookup f_law_mix = some ⟨oc_law_mix, od_law_mix, .func (PySem.W.fnOf "_law_mix" "_law_mix" (defArgs s_law_mix) (defBody s_law_mix) (defScope s_law_mix) .none kV_law_mix doc_law_mix pm_law_mix an_law_mix cd_law_mix ct_law_mix), sl_law_mix⟩)
    (cd_is_law_mix : PySem.W.codeIn K cd_law_mix "_law_mix" = true)
    (k_law_mix : PySem.W.keepIn K (.ref f_law_mix) = true)
    (a_law_box : PySem.W.nsIn K mainGlobals "_law_box" = some (some (.ref f_law_box)))
    (l_law_box : K.lookup f_law_box = some ⟨oc_law_box, od_law_box, .func (PySem.W.fnOf "_law_box" "_law_box" (defArgs s_law_box) (defBody s_law_box) (defScope s_law_box) .none kV_law_box doc_law_box pm_law_box an_law_box cd_law_box ct_law_box), sl_law_box⟩)
    (cd_is_law_box : PySem.W.codeIn K cd_law_box "_law_box" = true)
    (k_law_box : PySem.W.keepIn K (.ref f_law_box) = true)
    (a_law_draw : PySem.W.nsIn K mainGlobals "_law_draw" = some (some (.ref f_law_draw)))
    (l_law_draw : K.lookup f_law_draw = some ⟨oc_law_draw, od_law_draw, .func (PySem.W.fnOf "_law_draw" "_law_draw" (defArgs s_law_draw) (defBody s_law_draw) (defScope s_law_draw) .none kV_law_draw doc_law_draw pm_law_draw an_law_draw cd_law_draw ct_law_draw), sl_law_draw⟩)
    (cd_is_law_draw : PySem.W.codeIn K cd_law_draw "_law_draw" = true)
    (k_law_draw : PySem.W.keepIn K (.ref f_law_draw) = true)
    (a_law_whole : PySem.W.nsIn K mainGlobals "_law_whole" = some (some (.ref f_law_whole)))
    (l_law_whole : K.lookup f_law_whole = some ⟨oc_law_whole, od_law_whole, .func (PySem.W.fnOf "_law_whole" "_law_whole" (defArgs s_law_whole) (defBody s_law_whole) (defScope s_law_whole) .none kV_law_whole doc_law_whole pm_law_whole an_law_whole cd_law_whole ct_law_whole), sl_law_whole⟩)
    (cd_is_law_whole : PySem.W.codeIn K cd_law_whole "_law_whole" = true)
    (k_law_whole : PySem.W.keepIn K (.ref f_law_whole) = true)
    (a_law_row : PySem.W.nsIn K mainGlobals "_law_row" = some (some (.ref f_law_row)))
    (l_law_row : K.lookup f_law_row = some ⟨oc_law_row, od_law_row, .func (PySem.W.fnOf "_law_row" "_law_row" (defArgs s_law_row) (defBody s_law_row) (defScope s_law_row) .none kV_law_row doc_law_row pm_law_row an_law_row cd_law_row ct_law_row), sl_law_row⟩)
    (cd_is_law_row : PySem.W.codeIn K cd_law_row "_law_row" = true)
    (k_law_row : PySem.W.keepIn K (.ref f_law_row) = true)
    (a_law_kind_told : PySem.W.nsIn K mainGlobals "_law_kind_told" = some (some (.ref f_law_kind_told)))
    (l_law_kind_told : K.lookup f_law_kind_told = some ⟨oc_law_kind_told, od_law_kind_told, .func (PySem.W.fnOf "_law_kind_told" "_law_kind_told" (defArgs s_law_kind_told) (defBody s_law_kind_told) (defScope s_law_kind_told) .none kV_law_kind_told doc_law_kind_told pm_law_kind_told an_law_kind_told cd_law_kind_told ct_law_kind_told), sl_law_kind_told⟩)
    (cd_is_law_kind_told : PySem.W.codeIn K cd_law_kind_told "_law_kind_told" = true)
    (k_law_kind_told : PySem.W.keepIn K (.ref f_law_kind_told) = true)
    (a_law_ascending : PySem.W.nsIn K mainGlobals "_law_ascending" = some (some (.ref f_law_ascending)))
    (l_law_ascending : K.lookup f_law_ascending = some ⟨oc_law_ascending, od_law_ascending, .func (PySem.W.fnOf "_law_ascending" "_law_ascending" (defArgs s_law_ascending) (defBody s_law_ascending) (defScope s_law_ascending) .none kV_law_ascending doc_law_ascending pm_law_ascending an_law_ascending cd_law_ascending ct_law_ascending), sl_law_ascending⟩)
    (cd_is_law_ascending : PySem.W.codeIn K cd_law_ascending "_law_ascending" = true)
    (k_law_ascending : PySem.W.keepIn K (.ref f_law_ascending) = true)
    (a_law_entry : PySem.W.nsIn K mainGlobals "_law_entry" = some (some (.ref f_law_entry)))
    (l_law_entry : K.lookup f_law_entry = some ⟨oc_law_entry, od_law_entry, .func (PySem.W.fnOf "_law_entry" "_law_entry" (defArgs s_law_entry) (defBody s_law_entry) (defScope s_law_entry) .none kV_law_entry doc_law_entry pm_law_entry an_law_entry cd_law_entry ct_law_entry), sl_law_entry⟩)
    (cd_is_law_entry : PySem.W.codeIn K cd_law_entry "_law_entry" = true)
    (k_law_entry : PySem.W.keepIn K (.ref f_law_entry) = true)
    (a_law_entries : PySem.W.nsIn K mainGlobals "_law_entries" = some (some (.ref f_law_entries)))
    (l_law_entries : K.lookup f_law_entries = some ⟨oc_law_entries, od_law_entries, .func (PySem.W.fnOf "_law_entries" "_law_entries" (defArgs s_law_entries) (defBody s_law_entries) (defScope s_law_entries) .none kV_law_entries doc_law_entries pm_law_entries an_law_entries cd_law_entries ct_law_entries), sl_law_entries⟩)
    (cd_is_law_entries : PySem.W.codeIn K cd_law_entries "_law_entries" = true)
    (k_law_entries : PySem.W.keepIn K (.ref f_law_entries) = true)
    (a_law_strange : PySem.W.nsIn K mainGlobals "_law_strange" = some (some (.ref f_law_strange)))
    (l_law_strange : K.lookup f_law_strange = some ⟨oc_law_strange, od_law_strange, .func (PySem.W.fnOf "_law_strange" "_law_strange" (defArgs s_law_strange) (defBody s_law_strange) (defScope s_law_strange) .none kV_law_strange doc_law_strange pm_law_strange an_law_strange cd_law_strange ct_law_strange), sl_law_strange⟩)
    (cd_is_law_strange : PySem.W.codeIn K cd_law_strange "_law_strange" = true)
    (k_law_strange : PySem.W.keepIn K (.ref f_law_strange) = true)
    (a_law_bent : PySem.W.nsIn K mainGlobals "_law_bent" = some (some (.ref f_law_bent)))
    (l_law_bent : K.lookup f_law_bent = some ⟨oc_law_bent, od_law_bent, .func (PySem.W.fnOf "_law_bent" "_law_bent" (defArgs s_law_bent) (defBody s_law_bent) (defScope s_law_bent) .none kV_law_bent doc_law_bent pm_law_bent an_law_bent cd_law_bent ct_law_bent), sl_law_bent⟩)
    (cd_is_law_bent : PySem.W.codeIn K cd_law_bent "_law_bent" = true)
    (k_law_bent : PySem.W.keepIn K (.ref f_law_bent) = true)
    (a_law_good_entry : PySem.W.nsIn K mainGlobals "_law_good_entry" = some (some (.ref f_law_good_entry)))
    (l_law_good_entry : K.lookup f_law_good_entry = some ⟨oc_law_good_entry, od_law_good_entry, .func (PySem.W.fnOf "_law_good_entry" "_law_good_entry" (defArgs s_law_good_entry) (defBody s_law_good_entry) (defScope s_law_good_entry) .none kV_law_good_entry doc_law_good_entry pm_law_good_entry an_law_good_entry cd_law_good_entry ct_law_good_entry), sl_law_good_entry⟩)
    (cd_is_law_good_entry : PySem.W.codeIn K cd_law_good_entry "_law_good_entry" = true)
    (k_law_good_entry : PySem.W.keepIn K (.ref f_law_good_entry) = true)
    (a_law_valid : PySem.W.nsIn K mainGlobals "_law_valid" = some (some (.ref f_law_valid)))
    (l_law_valid : K.lookup f_law_valid = some ⟨oc_law_valid, od_law_valid, .func (PySem.W.fnOf "_law_valid" "_law_valid" (defArgs s_law_valid) (defBody s_law_valid) (defScope s_law_valid) .none kV_law_valid doc_law_valid pm_law_valid an_law_valid cd_law_valid ct_law_valid), sl_law_valid⟩)
    (cd_is_law_valid : PySem.W.codeIn K cd_law_valid "_law_valid" = true)
    (k_law_valid : PySem.W.keepIn K (.ref f_law_valid) = true)
    (a_law_sample_due : PySem.W.nsIn K mainGlobals "_law_sample_due" = some (some (.ref f_law_sample_due)))
    (l_law_sample_due : K.lookup f_law_sample_due = some ⟨oc_law_sample_due, od_law_sample_due, .func (PySem.W.fnOf "_law_sample_due" "_law_sample_due" (defArgs s_law_sample_due) (defBody s_law_sample_due) (defScope s_law_sample_due) .none kV_law_sample_due doc_law_sample_due pm_law_sample_due an_law_sample_due cd_law_sample_due ct_law_sample_due), sl_law_sample_due⟩)
    (cd_is_law_sample_due : PySem.W.codeIn K cd_law_sample_due "_law_sample_due" = true)
    (k_law_sample_due : PySem.W.keepIn K (.ref f_law_sample_due) = true)
    (a_law_reversed : PySem.W.nsIn K mainGlobals "_law_reversed" = some (some (.ref f_law_reversed)))
    (l_law_reversed : K.lookup f_law_reversed = some ⟨oc_law_reversed, od_law_reversed, .func (PySem.W.fnOf "_law_reversed" "_law_reversed" (defArgs s_law_reversed) (defBody s_law_reversed) (defScope s_law_reversed) .none kV_law_reversed doc_law_reversed pm_law_reversed an_law_reversed cd_law_reversed ct_law_reversed), sl_law_reversed⟩)
    (cd_is_law_reversed : PySem.W.codeIn K cd_law_reversed "_law_reversed" = true)
    (k_law_reversed : PySem.W.keepIn K (.ref f_law_reversed) = true)
    (a_law_kept : PySem.W.nsIn K mainGlobals "_law_kept" = some (some (.ref f_law_kept)))
    (l_law_kept : K.lookup f_law_kept = some ⟨oc_law_kept, od_law_kept, .func (PySem.W.fnOf "_law_kept" "_law_kept" (defArgs s_law_kept) (defBody s_law_kept) (defScope s_law_kept) .none kV_law_kept doc_law_kept pm_law_kept an_law_kept cd_law_kept ct_law_kept), sl_law_kept⟩)
    (cd_is_law_kept : PySem.W.codeIn K cd_law_kept "_law_kept" = true)
    (k_law_kept : PySem.W.keepIn K (.ref f_law_kept) = true)
    (a_law_call : PySem.W.nsIn K mainGlobals "_law_call" = some (some (.ref f_law_call)))
    (l_law_call : K.lookup f_law_call = some ⟨oc_law_call, od_law_call, .func (PySem.W.fnOf "_law_call" "_law_call" (defArgs s_law_call) (defBody s_law_call) (defScope s_law_call) .none kV_law_call doc_law_call pm_law_call an_law_call cd_law_call ct_law_call), sl_law_call⟩)
    (cd_is_law_call : PySem.W.codeIn K cd_law_call "_law_call" = true)
    (k_law_call : PySem.W.keepIn K (.ref f_law_call) = true)
    (a_law_refused : PySem.W.nsIn K mainGlobals "_law_refused" = some (some (.ref f_law_refused)))
    (l_law_refused : K.lookup f_law_refused = some ⟨oc_law_refused, od_law_refused, .func (PySem.W.fnOf "_law_refused" "_law_refused" (defArgs s_law_refused) (defBody s_law_refused) (defScope s_law_refused) .none kV_law_refused doc_law_refused pm_law_refused an_law_refused cd_law_refused ct_law_refused), sl_law_refused⟩)
    (cd_is_law_refused : PySem.W.codeIn K cd_law_refused "_law_refused" = true)
    (k_law_refused : PySem.W.keepIn K (.ref f_law_refused) = true)
    (a_law_judged : PySem.W.nsIn K mainGlobals "_law_judged" = some (some (.ref f_law_judged)))
    (l_law_judged : K.lookup f_law_judged = some ⟨oc_law_judged, od_law_judged, .func (PySem.W.fnOf "_law_judged" "_law_judged" (defArgs s_law_judged) (defBody s_law_judged) (defScope s_law_judged) .none kV_law_judged doc_law_judged pm_law_judged an_law_judged cd_law_judged ct_law_judged), sl_law_judged⟩)
    (cd_is_law_judged : PySem.W.codeIn K cd_law_judged "_law_judged" = true)
    (k_law_judged : PySem.W.keepIn K (.ref f_law_judged) = true)
    (a_law : PySem.W.nsIn K mainGlobals "law" = some (some (.ref f_law)))
    (l_law : K.lookup f_law = some ⟨oc_law, od_law, .func (PySem.W.fnOf "law" "law" (defArgs s_law) (defBody s_law) (defScope s_law) .none kV_law doc_law pm_law an_law cd_law ct_law), sl_law⟩)
    (cd_is_law : PySem.W.codeIn K cd_law "law" = true)
    (k_law : PySem.W.keepIn K (.ref f_law) = true)
    (a_MendError : PySem.W.nsIn K mainGlobals "MendError" = some (some (.ref c_MendError)))
    (x_MendError : K.lookup c_MendError = some (excClassObj nm_MendError q_MendError c_MendError N_MendError_ bs_MendError bm_MendError true sn_MendError sub_MendError ab_MendError col_MendError dd_MendError k0_MendError k1_MendError k2_MendError k3_MendError k5_MendError "ValueError.__new__"))
    (a_InvalidImage : PySem.W.nsIn K mainGlobals "InvalidImage" = some (some (.ref c_InvalidImage)))
    (x_InvalidImage : K.lookup c_InvalidImage = some (excClassObj nm_InvalidImage q_InvalidImage c_InvalidImage N_InvalidImage_ bs_InvalidImage [.ref c_MendError, .type "ValueError", .type "Exception", .type "BaseException", .type "object"] true sn_InvalidImage sub_InvalidImage ab_InvalidImage col_InvalidImage dd_InvalidImage k0_InvalidImage k1_InvalidImage k2_InvalidImage k3_InvalidImage k5_InvalidImage "ValueError.__new__"))
    (kc_InvalidImage : PySem.W.keepIn K (.ref c_InvalidImage) = true)
    (sa_InvalidImage : PySem.W.findIn K (.ref c_InvalidImage) "__setattr__" = some (some (.builtin "object.__setattr__")))
    (ga_InvalidImage : PySem.W.findIn K (.ref c_InvalidImage) "__getattribute__" = some (some (.builtin "BaseException.__getattribute__")))
    (gg_InvalidImage : PySem.W.findIn K (.ref c_InvalidImage) "__getattr__" = some none)
    (ca_InvalidImage : PySem.W.findIn K (.ref c_InvalidImage) "__class__" = some (some (.builtin "object.__class__")))
    (i_is_InvalidImage : PySem.W.findIn K (.ref c_InvalidImage) "__init__" = some (some (.ref i_InvalidImage)))
    (t_InvalidImage : PySem.W.typeIn K (.ref i_InvalidImage) = some (.type "function"))
    (nf_InvalidImage : PySem.W.findIn K (.ref c_InvalidImage) "record" = some none)
    (l_i_InvalidImage : K.lookup i_InvalidImage = some ⟨oc_i_InvalidImage, od_i_InvalidImage, .func (PySem.W.fnOf "__init__" "InvalidImage.__init__" (defArgs s_InvalidImage) (defBody s_InvalidImage) (defScope s_InvalidImage) .none kV_i_InvalidImage doc_i_InvalidImage pm_i_InvalidImage an_i_InvalidImage cd_i_InvalidImage ct_i_InvalidImage), sl_i_InvalidImage⟩)
    (cd_is_i_InvalidImage : PySem.W.codeIn K cd_i_InvalidImage "InvalidImage.__init__" = true)
    (k_i_InvalidImage : PySem.W.keepIn K (.ref i_InvalidImage) = true)
    (a_NotState : PySem.W.nsIn K mainGlobals "NotState" = some (some (.ref c_NotState)))
    (x_NotState : K.lookup c_NotState = some (excClassObj nm_NotState q_NotState c_NotState N_NotState_ bs_NotState [.ref c_MendError, .type "ValueError", .type "Exception", .type "BaseException", .type "object"] true sn_NotState sub_NotState ab_NotState col_NotState dd_NotState k0_NotState k1_NotState k2_NotState k3_NotState k5_NotState "ValueError.__new__"))
    (kc_NotState : PySem.W.keepIn K (.ref c_NotState) = true)
    (sa_NotState : PySem.W.findIn K (.ref c_NotState) "__setattr__" = some (some (.builtin "object.__setattr__")))
    (ga_NotState : PySem.W.findIn K (.ref c_NotState) "__getattribute__" = some (some (.builtin "BaseException.__getattribute__")))
    (gg_NotState : PySem.W.findIn K (.ref c_NotState) "__getattr__" = some none)
    (ca_NotState : PySem.W.findIn K (.ref c_NotState) "__class__" = some (some (.builtin "object.__class__")))
    (i_is_NotState : PySem.W.findIn K (.ref c_NotState) "__init__" = some (some (.ref i_NotState)))
    (t_NotState : PySem.W.typeIn K (.ref i_NotState) = some (.type "function"))
    (nf_NotState : PySem.W.findIn K (.ref c_NotState) "record" = some none)
    (l_i_NotState : K.lookup i_NotState = some ⟨oc_i_NotState, od_i_NotState, .func (PySem.W.fnOf "__init__" "NotState.__init__" (defArgs s_NotState) (defBody s_NotState) (defScope s_NotState) .none kV_i_NotState doc_i_NotState pm_i_NotState an_i_NotState cd_i_NotState ct_i_NotState), sl_i_NotState⟩)
    (cd_is_i_NotState : PySem.W.codeIn K cd_i_NotState "NotState.__init__" = true)
    (k_i_NotState : PySem.W.keepIn K (.ref i_NotState) = true)
    (a_UnequalSizes : PySem.W.nsIn K mainGlobals "UnequalSizes" = some (some (.ref c_UnequalSizes)))
    (x_UnequalSizes : K.lookup c_UnequalSizes = some (excClassObj nm_UnequalSizes q_UnequalSizes c_UnequalSizes N_UnequalSizes_ bs_UnequalSizes [.ref c_MendError, .type "ValueError", .type "Exception", .type "BaseException", .type "object"] true sn_UnequalSizes sub_UnequalSizes ab_UnequalSizes col_UnequalSizes dd_UnequalSizes k0_UnequalSizes k1_UnequalSizes k2_UnequalSizes k3_UnequalSizes k5_UnequalSizes "ValueError.__new__"))
    (kc_UnequalSizes : PySem.W.keepIn K (.ref c_UnequalSizes) = true)
    (sa_UnequalSizes : PySem.W.findIn K (.ref c_UnequalSizes) "__setattr__" = some (some (.builtin "object.__setattr__")))
    (ga_UnequalSizes : PySem.W.findIn K (.ref c_UnequalSizes) "__getattribute__" = some (some (.builtin "BaseException.__getattribute__")))
    (gg_UnequalSizes : PySem.W.findIn K (.ref c_UnequalSizes) "__getattr__" = some none)
    (ca_UnequalSizes : PySem.W.findIn K (.ref c_UnequalSizes) "__class__" = some (some (.builtin "object.__class__")))
    (q_is_UnequalSizes : PySem.W.excIn K c_UnequalSizes [.type "ValueError", .type "Exception", .type "BaseException", .type "object"] "ValueError.__new__" = true)
    (a_InvalidKind : PySem.W.nsIn K mainGlobals "InvalidKind" = some (some (.ref c_InvalidKind)))
    (x_InvalidKind : K.lookup c_InvalidKind = some (excClassObj nm_InvalidKind q_InvalidKind c_InvalidKind N_InvalidKind_ bs_InvalidKind [.ref c_MendError, .type "ValueError", .type "Exception", .type "BaseException", .type "object"] true sn_InvalidKind sub_InvalidKind ab_InvalidKind col_InvalidKind dd_InvalidKind k0_InvalidKind k1_InvalidKind k2_InvalidKind k3_InvalidKind k5_InvalidKind "ValueError.__new__"))
    (kc_InvalidKind : PySem.W.keepIn K (.ref c_InvalidKind) = true)
    (sa_InvalidKind : PySem.W.findIn K (.ref c_InvalidKind) "__setattr__" = some (some (.builtin "object.__setattr__")))
    (ga_InvalidKind : PySem.W.findIn K (.ref c_InvalidKind) "__getattribute__" = some (some (.builtin "BaseException.__getattribute__")))
    (gg_InvalidKind : PySem.W.findIn K (.ref c_InvalidKind) "__getattr__" = some none)
    (ca_InvalidKind : PySem.W.findIn K (.ref c_InvalidKind) "__class__" = some (some (.builtin "object.__class__")))
    (q_is_InvalidKind : PySem.W.excIn K c_InvalidKind [.type "ValueError", .type "Exception", .type "BaseException", .type "object"] "ValueError.__new__" = true)
    (a_InvalidChange : PySem.W.nsIn K mainGlobals "InvalidChange" = some (some (.ref c_InvalidChange)))
    (x_InvalidChange : K.lookup c_InvalidChange = some (excClassObj nm_InvalidChange q_InvalidChange c_InvalidChange N_InvalidChange_ bs_InvalidChange [.ref c_MendError, .type "ValueError", .type "Exception", .type "BaseException", .type "object"] true sn_InvalidChange sub_InvalidChange ab_InvalidChange col_InvalidChange dd_InvalidChange k0_InvalidChange k1_InvalidChange k2_InvalidChange k3_InvalidChange k5_InvalidChange "ValueError.__new__"))
    (kc_InvalidChange : PySem.W.keepIn K (.ref c_InvalidChange) = true)
    (sa_InvalidChange : PySem.W.findIn K (.ref c_InvalidChange) "__setattr__" = some (some (.builtin "object.__setattr__")))
    (ga_InvalidChange : PySem.W.findIn K (.ref c_InvalidChange) "__getattribute__" = some (some (.builtin "BaseException.__getattribute__")))
    (gg_InvalidChange : PySem.W.findIn K (.ref c_InvalidChange) "__getattr__" = some none)
    (ca_InvalidChange : PySem.W.findIn K (.ref c_InvalidChange) "__class__" = some (some (.builtin "object.__class__")))
    (q_is_InvalidChange : PySem.W.excIn K c_InvalidChange [.type "ValueError", .type "Exception", .type "BaseException", .type "object"] "ValueError.__new__" = true)
    (cn : PySem.W.specialIn K (.builtin "object.__class__") "__get__" = some (some (.builtin "getset_descriptor.__get__")))
    (ct : PySem.W.takesIn K (.builtin "object.__class__") = some true)
    (nd : [c_MendError, c_InvalidImage, c_NotState, c_UnequalSizes, c_InvalidKind, c_InvalidChange].Nodup)
    (rc1 : PySem.W.plainGet K c_Update Str.empty = true)
    (rc2 : PySem.W.hasDictIn K c_Update = true)
    (rc3 : PySem.W.plainOver K c_Update = true)
    (rc4 : PySem.W.findIn K (.ref c_Update) "__setattr__" = some (some (.builtin "object.__setattr__")))
    (rm1 : PySem.W.makesIn K c_Update = true)
    (rm3 : PySem.W.isFn K (.ref f_m_init) = true)
    (rm4 : PySem.W.keepIn K (.ref c_Update) = true)
    (r_cc : PySem.W.findIn K (.ref c_Update) "__class__" = some (some (.builtin "object.__class__")))
    (r_co : PySem.W.mroIn K c_Update (.type "object") = some true)
    (pb_kind : PySem.W.specialIn K (.ref p_kind) "__get__" = some (some (.builtin "property.__get__")))
    (pc_kind : PySem.W.takesIn K (.ref p_kind) = some true)
    (nc_is_before : PySem.W.findIn K (.ref c_Update) "before" = some none)
    (nc_is_after : PySem.W.findIn K (.ref c_Update) "after" = some none)
    (z_ValueError : PySem.W.nsIn K mainGlobals "ValueError" = some none)
    (z_int : PySem.W.nsIn K mainGlobals "int" = some none)
    (z_bool : PySem.W.nsIn K mainGlobals "bool" = some none)
    (z_str : PySem.W.nsIn K mainGlobals "str" = some none)
    (z_list : PySem.W.nsIn K mainGlobals "list" = some none)
    (z_tuple : PySem.W.nsIn K mainGlobals "tuple" = some none)
    (z_len : PySem.W.nsIn K mainGlobals "len" = some none)
    (z_range : PySem.W.nsIn K mainGlobals "range" = some none)
    (z_enumerate : PySem.W.nsIn K mainGlobals "enumerate" = some none)
    (z_isinstance : PySem.W.nsIn K mainGlobals "isinstance" = some none)
    (z_min : PySem.W.nsIn K mainGlobals "min" = some none)
    (z_abs : PySem.W.nsIn K mainGlobals "abs" = some none)
    (z_sorted : PySem.W.nsIn K mainGlobals "sorted" = some none)
    (z_all : PySem.W.nsIn K mainGlobals "all" = some none)
    (z_sum : PySem.W.nsIn K mainGlobals "sum" = some none)
    : ∃ fd : FuncData, (∀ (s : Shared) (v : Value), BindsTo s fd ⟨[v], []⟩ [("script", v)]) ∧ ∀ base : Heap, K.In base → base.Ns mainGlobals mg → FnOk l.prog w K mg base CX0 13 fa fd ["script"] (spLaw K) := by
  have e := hfa.symm.trans (PySem.W.mg_of X G a_law)
  cases e
  obtain ⟨A, hA⟩ : ∃ A : Ad, A = ⟨f_check_image, f_check_state, f_check_pair, f_check_kind, f_parts, f_kind_of, f_reverse_kind, f_sample_rows, f_is_entry, f_part_of, f_walk, f_gain, f_paired, f_m_init, f_m_kind, f_sample, f_law_mix, f_law_box, f_law_draw, f_law_whole, f_law_row, f_law_kind_told, f_law_ascending, f_law_entry, f_law_entries, f_law_strange, f_law_bent, f_law_good_entry, f_law_valid, f_law_sample_due, f_law_reversed, f_law_kept, f_law_call, f_law_refused, f_law_judged, fa, c_MendError, c_InvalidImage, c_NotState, c_UnequalSizes, c_InvalidKind, c_InvalidChange, i_InvalidImage, i_NotState, c_Update, p_kind⟩ := ⟨_, rfl⟩
  have T : Txt K mg A := {
    g_check_image := by rw [hA]; exact PySem.W.mg_of X G a_check_image,
    k_check_image := by rw [hA]; exact k_check_image,
    d_check_image := by rw [hA]; exact ⟨_, fun_mk (st := s_check_image) l_check_image cd_is_check_image k_check_image⟩,
    g_check_state := by rw [hA]; exact PySem.W.mg_of X G a_check_state,
    k_check_state := by rw [hA]; exact k_check_state,
    d_check_state := by rw [hA]; exact ⟨_, fun_mk (st := s_check_state) l_check_state cd_is_check_state k_check_state⟩,
    g_check_pair := by rw [hA]; exact PySem.W.mg_of X G a_check_pair,
    k_check_pair := by rw [hA]; exact k_check_pair,
    d_check_pair := by rw [hA]; exact ⟨_, fun_mk (st := s_check_pair) l_check_pair cd_is_check_pair k_check_pair⟩,
    g_check_kind := by rw [hA]; exact PySem.W.mg_of X G a_check_kind,
    k_check_kind := by rw [hA]; exact k_check_kind,
    d_check_kind := by rw [hA]; exact ⟨_, fun_mk (st := s_check_kind) l_check_kind cd_is_check_kind k_check_kind⟩,
    g_parts := by rw [hA]; exact PySem.W.mg_of X G a_parts,
    k_parts := by rw [hA]; exact k_parts,
    d_parts := by rw [hA]; exact ⟨_, fun_mk (st := s_parts) l_parts cd_is_parts k_parts⟩,
    g_kind_of := by rw [hA]; exact PySem.W.mg_of X G a_kind_of,
    k_kind_of := by rw [hA]; exact k_kind_of,
    d_kind_of := by rw [hA]; exact ⟨_, fun_mk (st := s_kind_of) l_kind_of cd_is_kind_of k_kind_of⟩,
    g_reverse_kind := by rw [hA]; exact PySem.W.mg_of X G a_reverse_kind,
    k_reverse_kind := by rw [hA]; exact k_reverse_kind,
    d_reverse_kind := by rw [hA]; exact ⟨_, fun_mk (st := s_reverse_kind) l_reverse_kind cd_is_reverse_kind k_reverse_kind⟩,
    g_sample_rows := by rw [hA]; exact PySem.W.mg_of X G a_sample_rows,
    k_sample_rows := by rw [hA]; exact k_sample_rows,
    d_sample_rows := by rw [hA]; exact ⟨_, fun_mk (st := s_sample_rows) l_sample_rows cd_is_sample_rows k_sample_rows⟩,
    g_is_entry := by rw [hA]; exact PySem.W.mg_of X G a_is_entry,
    k_is_entry := by rw [hA]; exact k_is_entry,
    d_is_entry := by rw [hA]; exact ⟨_, fun_mk (st := s_is_entry) l_is_entry cd_is_is_entry k_is_entry⟩,
    g_part_of := by rw [hA]; exact PySem.W.mg_of X G a_part_of,
    k_part_of := by rw [hA]; exact k_part_of,
    d_part_of := by rw [hA]; exact ⟨_, fun_mk (st := s_part_of) l_part_of cd_is_part_of k_part_of⟩,
    g_walk := by rw [hA]; exact PySem.W.mg_of X G a_walk,
    k_walk := by rw [hA]; exact k_walk,
    d_walk := by rw [hA]; exact ⟨_, fun_mk (st := s_walk) l_walk cd_is_walk k_walk⟩,
    g_gain := by rw [hA]; exact PySem.W.mg_of X G a_gain,
    k_gain := by rw [hA]; exact k_gain,
    d_gain := by rw [hA]; exact ⟨_, fun_mk (st := s_gain) l_gain cd_is_gain k_gain⟩,
    g_paired := by rw [hA]; exact PySem.W.mg_of X G a_paired,
    k_paired := by rw [hA]; exact k_paired,
    d_paired := by rw [hA]; exact ⟨_, fun_mk (st := s_paired) l_paired cd_is_paired k_paired⟩,
    d_m_init := by rw [hA]; exact ⟨_, fun_mk (st := s_m_init) l_m_init cd_is_m_init k_m_init⟩,
    d_m_kind := by rw [hA]; exact ⟨_, fun_mk (st := s_m_kind) l_m_kind cd_is_m_kind k_m_kind⟩,
    g_sample := by rw [hA]; exact PySem.W.mg_of X G a_sample,
    k_sample := by rw [hA]; exact k_sample,
    d_sample := by rw [hA]; exact ⟨_, fun_mk (st := s_sample) l_sample cd_is_sample k_sample⟩,
    g_law_mix := by rw [hA]; exact PySem.W.mg_of X G a_law_mix,
    k_law_mix := by rw [hA]; exact k_law_mix,
    d_law_mix := by rw [hA]; exact ⟨_, fun_mk (st := s_law_mix) l_law_mix cd_is_law_mix k_law_mix⟩,
    g_law_box := by rw [hA]; exact PySem.W.mg_of X G a_law_box,
    k_law_box := by rw [hA]; exact k_law_box,
    d_law_box := by rw [hA]; exact ⟨_, fun_mk (st := s_law_box) l_law_box cd_is_law_box k_law_box⟩,
    g_law_draw := by rw [hA]; exact PySem.W.mg_of X G a_law_draw,
    k_law_draw := by rw [hA]; exact k_law_draw,
    d_law_draw := by rw [hA]; exact ⟨_, fun_mk (st := s_law_draw) l_law_draw cd_is_law_draw k_law_draw⟩,
    g_law_whole := by rw [hA]; exact PySem.W.mg_of X G a_law_whole,
    k_law_whole := by rw [hA]; exact k_law_whole,
    d_law_whole := by rw [hA]; exact ⟨_, fun_mk (st := s_law_whole) l_law_whole cd_is_law_whole k_law_whole⟩,
    g_law_row := by rw [hA]; exact PySem.W.mg_of X G a_law_row,
    k_law_row := by rw [hA]; exact k_law_row,
    d_law_row := by rw [hA]; exact ⟨_, fun_mk (st := s_law_row) l_law_row cd_is_law_row k_law_row⟩,
    g_law_kind_told := by rw [hA]; exact PySem.W.mg_of X G a_law_kind_told,
    k_law_kind_told := by rw [hA]; exact k_law_kind_told,
    d_law_kind_told := by rw [hA]; exact ⟨_, fun_mk (st := s_law_kind_told) l_law_kind_told cd_is_law_kind_told k_law_kind_told⟩,
    g_law_ascending := by rw [hA]; exact PySem.W.mg_of X G a_law_ascending,
    k_law_ascending := by rw [hA]; exact k_law_ascending,
    d_law_ascending := by rw [hA]; exact ⟨_, fun_mk (st := s_law_ascending) l_law_ascending cd_is_law_ascending k_law_ascending⟩,
    g_law_entry := by rw [hA]; exact PySem.W.mg_of X G a_law_entry,
    k_law_entry := by rw [hA]; exact k_law_entry,
    d_law_entry := by rw [hA]; exact ⟨_, fun_mk (st := s_law_entry) l_law_entry cd_is_law_entry k_law_entry⟩,
    g_law_entries := by rw [hA]; exact PySem.W.mg_of X G a_law_entries,
    k_law_entries := by rw [hA]; exact k_law_entries,
    d_law_entries := by rw [hA]; exact ⟨_, fun_mk (st := s_law_entries) l_law_entries cd_is_law_entries k_law_entries⟩,
    g_law_strange := by rw [hA]; exact PySem.W.mg_of X G a_law_strange,
    k_law_strange := by rw [hA]; exact k_law_strange,
    d_law_strange := by rw [hA]; exact ⟨_, fun_mk (st := s_law_strange) l_law_strange cd_is_law_strange k_law_strange⟩,
    g_law_bent := by rw [hA]; exact PySem.W.mg_of X G a_law_bent,
    k_law_bent := by rw [hA]; exact k_law_bent,
    d_law_bent := by rw [hA]; exact ⟨_, fun_mk (st := s_law_bent) l_law_bent cd_is_law_bent k_law_bent⟩,
    g_law_good_entry := by rw [hA]; exact PySem.W.mg_of X G a_law_good_entry,
    k_law_good_entry := by rw [hA]; exact k_law_good_entry,
    d_law_good_entry := by rw [hA]; exact ⟨_, fun_mk (st := s_law_good_entry) l_law_good_entry cd_is_law_good_entry k_law_good_entry⟩,
    g_law_valid := by rw [hA]; exact PySem.W.mg_of X G a_law_valid,
    k_law_valid := by rw [hA]; exact k_law_valid,
    d_law_valid := by rw [hA]; exact ⟨_, fun_mk (st := s_law_valid) l_law_valid cd_is_law_valid k_law_valid⟩,
    g_law_sample_due := by rw [hA]; exact PySem.W.mg_of X G a_law_sample_due,
    k_law_sample_due := by rw [hA]; exact k_law_sample_due,
    d_law_sample_due := by rw [hA]; exact ⟨_, fun_mk (st := s_law_sample_due) l_law_sample_due cd_is_law_sample_due k_law_sample_due⟩,
    g_law_reversed := by rw [hA]; exact PySem.W.mg_of X G a_law_reversed,
    k_law_reversed := by rw [hA]; exact k_law_reversed,
    d_law_reversed := by rw [hA]; exact ⟨_, fun_mk (st := s_law_reversed) l_law_reversed cd_is_law_reversed k_law_reversed⟩,
    g_law_kept := by rw [hA]; exact PySem.W.mg_of X G a_law_kept,
    k_law_kept := by rw [hA]; exact k_law_kept,
    d_law_kept := by rw [hA]; exact ⟨_, fun_mk (st := s_law_kept) l_law_kept cd_is_law_kept k_law_kept⟩,
    g_law_call := by rw [hA]; exact PySem.W.mg_of X G a_law_call,
    k_law_call := by rw [hA]; exact k_law_call,
    d_law_call := by rw [hA]; exact ⟨_, fun_mk (st := s_law_call) l_law_call cd_is_law_call k_law_call⟩,
    g_law_refused := by rw [hA]; exact PySem.W.mg_of X G a_law_refused,
    k_law_refused := by rw [hA]; exact k_law_refused,
    d_law_refused := by rw [hA]; exact ⟨_, fun_mk (st := s_law_refused) l_law_refused cd_is_law_refused k_law_refused⟩,
    g_law_judged := by rw [hA]; exact PySem.W.mg_of X G a_law_judged,
    k_law_judged := by rw [hA]; exact k_law_judged,
    d_law_judged := by rw [hA]; exact ⟨_, fun_mk (st := s_law_judged) l_law_judged cd_is_law_judged k_law_judged⟩,
    g_law := by rw [hA]; exact PySem.W.mg_of X G a_law,
    k_law := by rw [hA]; exact k_law,
    d_law := by rw [hA]; exact ⟨_, fun_mk (st := s_law) l_law cd_is_law k_law⟩,
    e_MendError := by rw [hA]; exact ⟨PySem.W.mg_of X G a_MendError, ⟨_, _, _, _, _, _, _, _, _, _, _, _, _, _, _, x_MendError⟩⟩,
    e_InvalidImage := by rw [hA]; exact ⟨PySem.W.mg_of X G a_InvalidImage, kc_InvalidImage, ⟨_, _, _, _, _, _, _, _, _, _, _, _, _, _, x_InvalidImage⟩, sa_InvalidImage, ga_InvalidImage, gg_InvalidImage, ca_InvalidImage⟩,
    f_InvalidImage := by rw [hA]; exact ⟨i_is_InvalidImage, t_InvalidImage, nf_InvalidImage, ⟨_, fun_mk (st := s_InvalidImage) l_i_InvalidImage cd_is_i_InvalidImage k_i_InvalidImage⟩⟩,
    e_NotState := by rw [hA]; exact ⟨PySem.W.mg_of X G a_NotState, kc_NotState, ⟨_, _, _, _, _, _, _, _, _, _, _, _, _, _, x_NotState⟩, sa_NotState, ga_NotState, gg_NotState, ca_NotState⟩,
    f_NotState := by rw [hA]; exact ⟨i_is_NotState, t_NotState, nf_NotState, ⟨_, fun_mk (st := s_NotState) l_i_NotState cd_is_i_NotState k_i_NotState⟩⟩,
    e_UnequalSizes := by rw [hA]; exact ⟨PySem.W.mg_of X G a_UnequalSizes, kc_UnequalSizes, ⟨_, _, _, _, _, _, _, _, _, _, _, _, _, _, x_UnequalSizes⟩, sa_UnequalSizes, ga_UnequalSizes, gg_UnequalSizes, ca_UnequalSizes⟩,
    q_UnequalSizes := by rw [hA]; exact q_is_UnequalSizes,
    e_InvalidKind := by rw [hA]; exact ⟨PySem.W.mg_of X G a_InvalidKind, kc_InvalidKind, ⟨_, _, _, _, _, _, _, _, _, _, _, _, _, _, x_InvalidKind⟩, sa_InvalidKind, ga_InvalidKind, gg_InvalidKind, ca_InvalidKind⟩,
    q_InvalidKind := by rw [hA]; exact q_is_InvalidKind,
    e_InvalidChange := by rw [hA]; exact ⟨PySem.W.mg_of X G a_InvalidChange, kc_InvalidChange, ⟨_, _, _, _, _, _, _, _, _, _, _, _, _, _, x_InvalidChange⟩, sa_InvalidChange, ga_InvalidChange, gg_InvalidChange, ca_InvalidChange⟩,
    q_InvalidChange := by rw [hA]; exact q_is_InvalidChange,
    cn := cn,
    ct := ct,
    nd := by rw [hA]; exact nd,
    cc := by rw [hA]; exact r_cc,
    co := by rw [hA]; exact r_co,
    g_Update := by rw [hA]; exact PySem.W.mg_of X G a_Update,
    cR := by rw [hA]; exact ⟨rc1, rc2, rc3, rc4⟩,
    mkR := by rw [hA]; exact ⟨rm1, rm2, rm3, rm4⟩,
    pp_kind := by rw [hA]; exact ⟨pa_kind, pb_kind, pc_kind, _, pd_kind⟩,
    nc_before := by rw [hA]; exact nc_is_before,
    nc_after := by rw [hA]; exact nc_is_after,
    n_ValueError := PySem.W.mg_none_of X G z_ValueError,
    n_int := PySem.W.mg_none_of X G z_int,
    n_bool := PySem.W.mg_none_of X G z_bool,
    n_str := PySem.W.mg_none_of X G z_str,
    n_list := PySem.W.mg_none_of X G z_list,
    n_tuple := PySem.W.mg_none_of X G z_tuple,
    n_len := PySem.W.mg_none_of X G z_len,
    n_range := PySem.W.mg_none_of X G z_range,
    n_enumerate := PySem.W.mg_none_of X G z_enumerate,
    n_isinstance := PySem.W.mg_none_of X G z_isinstance,
    n_min := PySem.W.mg_none_of X G z_min,
    n_abs := PySem.W.mg_none_of X G z_abs,
    n_sorted := PySem.W.mg_none_of X G z_sorted,
    n_all := PySem.W.mg_none_of X G z_all,
    n_sum := PySem.W.mg_none_of X G z_sum }
  have FL := fun_mk (st := s_law) l_law cd_is_law k_law
  have eL : A.law = fa := by rw [hA]
  refine ⟨PySem.W.fnOf "law" "law" (defArgs s_law) (defBody s_law) (defScope s_law) .none kV_law doc_law pm_law an_law cd_law ct_law, fun s v => .of_eq rfl, fun base _ _ => ?_⟩
  rw [← eL] at FL ⊢
  have g_InvalidImage := ok_InvalidImage (P := l.prog) (w := w) (base := base) T 
  have g_NotState := ok_NotState (P := l.prog) (w := w) (base := base) T 
  have g_paired := ok_paired (P := l.prog) (w := w) (base := base) T 
  have g_is_entry := ok_is_entry (P := l.prog) (w := w) (base := base) T 
  have g_check_kind := ok_check_kind (P := l.prog) (w := w) (base := base) T g_is_entry
  have g_sample_rows := ok_sample_rows (P := l.prog) (w := w) (base := base) T g_check_kind g_paired
  have g_check_image := ok_check_image (P := l.prog) (w := w) (base := base) T g_InvalidImage
  have g_check_state := ok_check_state (P := l.prog) (w := w) (base := base) T g_check_image g_NotState
  have g_check_pair := ok_check_pair (P := l.prog) (w := w) (base := base) T g_check_state
  have g_m_init := ok_m_init (P := l.prog) (w := w) (base := base) T g_check_pair
  have g_sample := ok_sample (P := l.prog) (w := w) (base := base) T g_sample_rows g_m_init
  have g_law_ascending := ok_law_ascending (P := l.prog) (w := w) (base := base) T 
  have g_law_reversed := ok_law_reversed (P := l.prog) (w := w) (base := base) T g_law_ascending
  have g_law_sample_due := ok_law_sample_due (P := l.prog) (w := w) (base := base) T 
  have g_law_whole := ok_law_whole (P := l.prog) (w := w) (base := base) T 
  have g_law_row := ok_law_row (P := l.prog) (w := w) (base := base) T g_law_whole
  have g_law_kind_told := ok_law_kind_told (P := l.prog) (w := w) (base := base) T g_law_whole
  have g_walk := ok_walk (P := l.prog) (w := w) (base := base) T 
  have g_part_of := ok_part_of (P := l.prog) (w := w) (base := base) T g_walk
  have g_parts := ok_parts (P := l.prog) (w := w) (base := base) T g_check_pair g_part_of
  have g_gain := ok_gain (P := l.prog) (w := w) (base := base) T 
  have g_kind_of := ok_kind_of (P := l.prog) (w := w) (base := base) T g_parts g_gain
  have g_reverse_kind := ok_reverse_kind (P := l.prog) (w := w) (base := base) T g_check_kind
  have g_m_kind := ok_m_kind (P := l.prog) (w := w) (base := base) T g_kind_of
  have g_law_kept := ok_law_kept (P := l.prog) (w := w) (base := base) T g_law_reversed g_law_sample_due g_check_kind g_sample_rows g_law_row g_law_kind_told g_kind_of g_reverse_kind g_sample g_m_kind
  have g_law_good_entry := ok_law_good_entry (P := l.prog) (w := w) (base := base) T 
  have g_law_valid := ok_law_valid (P := l.prog) (w := w) (base := base) T g_law_good_entry
  have g_law_call := ok_law_call (P := l.prog) (w := w) (base := base) T g_check_kind g_reverse_kind g_sample_rows g_sample
  have g_law_refused := ok_law_refused (P := l.prog) (w := w) (base := base) T g_law_call
  have g_law_judged := ok_law_judged (P := l.prog) (w := w) (base := base) T g_law_valid g_law_kept g_law_refused
  have g_law_mix := ok_law_mix (P := l.prog) (w := w) (base := base) T 
  have g_law_draw := ok_law_draw (P := l.prog) (w := w) (base := base) T g_law_mix
  have g_law_strange := ok_law_strange (P := l.prog) (w := w) (base := base) T g_law_draw
  have g_law_bent := ok_law_bent (P := l.prog) (w := w) (base := base) T g_law_draw g_law_strange
  have g_law_entry := ok_law_entry (P := l.prog) (w := w) (base := base) T g_law_draw
  have g_law_entries := ok_law_entries (P := l.prog) (w := w) (base := base) T g_law_draw g_law_entry g_law_ascending
  have g_law_box := ok_law_box (P := l.prog) (w := w) (base := base) T 
  exact ok_law T FL g_law_box g_law_entries g_law_kept g_law_bent g_law_judged
theorem walk {l : PySem.W.OpenLaw} {q : Program} {loose : List Str} {XP : (Str → Option Value) → Heap → Prop} {YP : World → Heap → Prop} {d : DefRec} {K : Params → PySem.W.Frag} (hn : l.most = some 63) (hdf : d.params.defaults = [])
    (hY : ∀ (w : World) (h : Heap), YP w h → (K w.params).In h)
    (F : ∀ (w : World) (mg : Str → Option Value) (fa : Addr) (h : Heap), (K w.params).In h → h.Ns mainGlobals mg → mg d.name = some (.ref fa) →
      ∃ fd : FuncData, (∀ (s : Shared) (u : Value), BindsTo s fd ⟨[u], []⟩ [("script", u)]) ∧ ∀ base : Heap, (K w.params).In base → base.Ns mainGlobals mg → FnOk l.prog w (K w.params) mg base CX0 13 fa fd ["script"] (spLaw (K w.params))) :
    PySem.W.WalkO q loose XP YP l.row.toRowW d [] (fun f vs => PySem.call f vs) :=
  L2.walk_of (n := 63) (k := 13) (x := "script") (CX := fun _ => CX0) (sp := fun w => spLaw (K w.params)) hn (by decide) hdf ⟨rfl, by decide, by decide⟩ hY F (fun _ _ a ns hl _ hS => ⟨a, ns, rfl, hS, hl, fun _ => rfl⟩) fun _ _ _ _ _ z => z
end Pv

open PySem PySem.W PyProof.Rows
set_option maxRecDepth 100000 in
set_option maxHeartbeats 0 in
theorem PySem.Challenge.cw_peermend_k08_kinds_and_samples_holds : PySem.Challenge.rw_peermend_k08_kinds_and_samples.Holds := by
  w_on; o_law; k_head; (case hw => w_witness2)
  k_fill
  refine Pv.walk (l := PySem.Challenge.rw_peermend_k08_kinds_and_samples) rfl rfl (fun w h Y => PySem.W.kIn_of Y) ?F
  case F =>
    intro w mg fa h KX G hmg
    refine' Pv.all_mk KX G hmg ?qa_Update ?qrm2 ?qpa_kind ?qpd_kind ?qa_check_image ?ql_check_image ?qcd_is_check_image ?qk_check_image ?qa_check_state ?ql_check_state ?qcd_is_check_state ?qk_check_state ?qa_check_pair ?ql_check_pair ?qcd_is_check_pair ?qk_check_pair ?qa_check_kind ?ql_check_kind ?qcd_is_check_kind ?qk_check_kind ?qa_parts ?ql_parts ?qcd_is_parts ?qk_parts ?qa_kind_of ?ql_kind_of ?qcd_is_kind_of ?qk_kind_of ?qa_reverse_kind ?ql_reverse_kind ?qcd_is_reverse_kind ?qk_reverse_kind ?qa_sample_rows ?ql_sample_rows ?qcd_is_sample_rows ?qk_sample_rows ?qa_is_entry ?ql_is_entry ?qcd_is_is_entry ?qk_is_entry ?qa_part_of ?ql_part_of ?qcd_is_part_of ?qk_part_of ?qa_walk ?ql_walk ?qcd_is_walk ?qk_walk ?qa_gain ?ql_gain ?qcd_is_gain ?qk_gain ?qa_paired ?ql_paired ?qcd_is_paired ?qk_paired ?ql_m_init ?qcd_is_m_init ?qk_m_init ?ql_m_kind ?qcd_is_m_kind ?qk_m_kind ?qa_sample ?ql_sample ?qcd_is_sample ?qk_sample ?qa_law_mix ?ql_law_mix ?qcd_is_law_mix ?qk_law_mix ?qa_law_box ?ql_law_box ?qcd_is_law_box ?qk_law_box ?qa_law_draw ?ql_law_draw ?qcd_is_law_draw ?qk_law_draw ?qa_law_whole ?ql_law_whole ?qcd_is_law_whole ?qk_law_whole ?qa_law_row ?ql_law_row ?qcd_is_law_row ?qk_law_row ?qa_law_kind_told ?ql_law_kind_told ?qcd_is_law_kind_told ?qk_law_kind_told ?qa_law_ascending ?ql_law_ascending ?qcd_is_law_ascending ?qk_law_ascending ?qa_law_entry ?ql_law_entry ?qcd_is_law_entry ?qk_law_entry ?qa_law_entries ?ql_law_entries ?qcd_is_law_entries ?qk_law_entries ?qa_law_strange ?ql_law_strange ?qcd_is_law_strange ?qk_law_strange ?qa_law_bent ?ql_law_bent ?qcd_is_law_bent ?qk_law_bent ?qa_law_good_entry ?ql_law_good_entry ?qcd_is_law_good_entry ?qk_law_good_entry ?qa_law_valid ?ql_law_valid ?qcd_is_law_valid ?qk_law_valid ?qa_law_sample_due ?ql_law_sample_due ?qcd_is_law_sample_due ?qk_law_sample_due ?qa_law_reversed ?ql_law_reversed ?qcd_is_law_reversed ?qk_law_reversed ?qa_law_kept ?ql_law_kept ?qcd_is_law_kept ?qk_law_kept ?qa_law_call ?ql_law_call ?qcd_is_law_call ?qk_law_call ?qa_law_refused ?ql_law_refused ?qcd_is_law_refused ?qk_law_refused ?qa_law_judged ?ql_law_judged ?qcd_is_law_judged ?qk_law_judged ?qa_law ?ql_law ?qcd_is_law ?qk_law ?qa_MendError ?qx_MendError ?qa_InvalidImage ?qx_InvalidImage ?qkc_InvalidImage ?qsa_InvalidImage ?qga_InvalidImage ?qgg_InvalidImage ?qca_InvalidImage ?qi_is_InvalidImage ?qt_InvalidImage ?qnf_InvalidImage ?ql_i_InvalidImage ?qcd_is_i_InvalidImage ?qk_i_InvalidImage ?qa_NotState ?qx_NotState ?qkc_NotState ?qsa_NotState ?qga_NotState ?qgg_NotState ?qca_NotState ?qi_is_NotState ?qt_NotState ?qnf_NotState ?ql_i_NotState ?qcd_is_i_NotState ?qk_i_NotState ?qa_UnequalSizes ?qx_UnequalSizes ?qkc_UnequalSizes ?qsa_UnequalSizes ?qga_UnequalSizes ?qgg_UnequalSizes ?qca_UnequalSizes ?qq_is_UnequalSizes ?qa_InvalidKind ?qx_InvalidKind ?qkc_InvalidKind ?qsa_InvalidKind ?qga_InvalidKind ?qgg_InvalidKind ?qca_InvalidKind ?qq_is_InvalidKind ?qa_InvalidChange ?qx_InvalidChange ?qkc_InvalidChange ?qsa_InvalidChange ?qga_InvalidChange ?qgg_InvalidChange ?qca_InvalidChange ?qq_is_InvalidChange ?qcn ?qct ?qnd ?qrc1 ?qrc2 ?qrc3 ?qrc4 ?qrm1 ?qrm3 ?qrm4 ?qr_cc ?qr_co ?qpb_kind ?qpc_kind ?qnc_is_before ?qnc_is_after ?qz_ValueError ?qz_int ?qz_bool ?qz_str ?qz_list ?qz_tuple ?qz_len ?qz_range ?qz_enumerate ?qz_isinstance ?qz_min ?qz_abs ?qz_sorted ?qz_all ?qz_sum
    (case qa_Update => k_is)
    (case qrm2 => k_is)
    (case qpa_kind => k_is)
    (case qpd_kind => k_is)
    (case qa_check_image => k_is)
    (case ql_check_image => k_is)
    (case qcd_is_check_image => k_is)
    (case qk_check_image => k_is)
    (case qa_check_state => k_is)
    (case ql_check_state => k_is)
    (case qcd_is_check_state => k_is)
    (case qk_check_state => k_is)
    (case qa_check_pair => k_is)
    (case ql_check_pair => k_is)
    (case qcd_is_check_pair => k_is)
    (case qk_check_pair => k_is)
    (case qa_check_kind => k_is)
    (case ql_check_kind => k_is)
    (case qcd_is_check_kind => k_is)
    (case qk_check_kind => k_is)
    (case qa_parts => k_is)
    (case ql_parts => k_is)
    (case qcd_is_parts => k_is)
    (case qk_parts => k_is)
    (case qa_kind_of => k_is)
    (case ql_kind_of => k_is)
    (case qcd_is_kind_of => k_is)
    (case qk_kind_of => k_is)
    (case qa_reverse_kind => k_is)
    (case ql_reverse_kind => k_is)
    (case qcd_is_reverse_kind => k_is)
    (case qk_reverse_kind => k_is)
    (case qa_sample_rows => k_is)
    (case ql_sample_rows => k_is)
    (case qcd_is_sample_rows => k_is)
    (case qk_sample_rows => k_is)
    (case qa_is_entry => k_is)
    (case ql_is_entry => k_is)
    (case qcd_is_is_entry => k_is)
    (case qk_is_entry => k_is)
    (case qa_part_of => k_is)
    (case ql_part_of => k_is)
    (case qcd_is_part_of => k_is)
    (case qk_part_of => k_is)
    (case qa_walk => k_is)
    (case ql_walk => k_is)
    (case qcd_is_walk => k_is)
    (case qk_walk => k_is)
    (case qa_gain => k_is)
    (case ql_gain => k_is)
    (case qcd_is_gain => k_is)
    (case qk_gain => k_is)
    (case qa_paired => k_is)
    (case ql_paired => k_is)
    (case qcd_is_paired => k_is)
    (case qk_paired => k_is)
    (case ql_m_init => k_is)
    (case qcd_is_m_init => k_is)
    (case qk_m_init => k_is)
    (case ql_m_kind => k_is)
    (case qcd_is_m_kind => k_is)
    (case qk_m_kind => k_is)
    (case qa_sample => k_is)
    (case ql_sample => k_is)
    (case qcd_is_sample => k_is)
    (case qk_sample => k_is)
    (case qa_law_mix => k_is)
    (case ql_law_mix => k_is)
    (case qcd_is_law_mix => k_is)
    (case qk_law_mix => k_is)
    (case qa_law_box => k_is)
    (case ql_law_box => k_is)
    (case qcd_is_law_box => k_is)
    (case qk_law_box => k_is)
    (case qa_law_draw => k_is)
    (case ql_law_draw => k_is)
    (case qcd_is_law_draw => k_is)
    (case qk_law_draw => k_is)
    (case qa_law_whole => k_is)
    (case ql_law_whole => k_is)
    (case qcd_is_law_whole => k_is)
    (case qk_law_whole => k_is)
    (case qa_law_row => k_is)
    (case ql_law_row => k_is)
    (case qcd_is_law_row => k_is)
    (case qk_law_row => k_is)
    (case qa_law_kind_told => k_is)
    (case ql_law_kind_told => k_is)
    (case qcd_is_law_kind_told => k_is)
    (case qk_law_kind_told => k_is)
    (case qa_law_ascending => k_is)
    (case ql_law_ascending => k_is)
    (case qcd_is_law_ascending => k_is)
    (case qk_law_ascending => k_is)
    (case qa_law_entry => k_is)
    (case ql_law_entry => k_is)
    (case qcd_is_law_entry => k_is)
    (case qk_law_entry => k_is)
    (case qa_law_entries => k_is)
    (case ql_law_entries => k_is)
    (case qcd_is_law_entries => k_is)
    (case qk_law_entries => k_is)
    (case qa_law_strange => k_is)
    (case ql_law_strange => k_is)
    (case qcd_is_law_strange => k_is)
    (case qk_law_strange => k_is)
    (case qa_law_bent => k_is)
    (case ql_law_bent => k_is)
    (case qcd_is_law_bent => k_is)
    (case qk_law_bent => k_is)
    (case qa_law_good_entry => k_is)
    (case ql_law_good_entry => k_is)
    (case qcd_is_law_good_entry => k_is)
    (case qk_law_good_entry => k_is)
    (case qa_law_valid => k_is)
    (case ql_law_valid => k_is)
    (case qcd_is_law_valid => k_is)
    (case qk_law_valid => k_is)
    (case qa_law_sample_due => k_is)
    (case ql_law_sample_due => k_is)
    (case qcd_is_law_sample_due => k_is)
    (case qk_law_sample_due => k_is)
    (case qa_law_reversed => k_is)
    (case ql_law_reversed => k_is)
    (case qcd_is_law_reversed => k_is)
    (case qk_law_reversed => k_is)
    (case qa_law_kept => k_is)
    (case ql_law_kept => k_is)
    (case qcd_is_law_kept => k_is)
    (case qk_law_kept => k_is)
    (case qa_law_call => k_is)
    (case ql_law_call => k_is)
    (case qcd_is_law_call => k_is)
    (case qk_law_call => k_is)
    (case qa_law_refused => k_is)
    (case ql_law_refused => k_is)
    (case qcd_is_law_refused => k_is)
    (case qk_law_refused => k_is)
    (case qa_law_judged => k_is)
    (case ql_law_judged => k_is)
    (case qcd_is_law_judged => k_is)
    (case qk_law_judged => k_is)
    (case qa_law => k_is)
    (case ql_law => k_is)
    (case qcd_is_law => k_is)
    (case qk_law => k_is)
    (case qa_MendError => k_is)
    (case qx_MendError => k_is)
    (case qa_InvalidImage => k_is)
    (case qx_InvalidImage => k_is)
    (case qkc_InvalidImage => k_is)
    (case qsa_InvalidImage => k_is)
    (case qga_InvalidImage => k_is)
    (case qgg_InvalidImage => k_is)
    (case qca_InvalidImage => k_is)
    (case qi_is_InvalidImage => k_is)
    (case qt_InvalidImage => k_is)
    (case qnf_InvalidImage => k_is)
    (case ql_i_InvalidImage => k_is)
    (case qcd_is_i_InvalidImage => k_is)
    (case qk_i_InvalidImage => k_is)
    (case qa_NotState => k_is)
    (case qx_NotState => k_is)
    (case qkc_NotState => k_is)
    (case qsa_NotState => k_is)
    (case qga_NotState => k_is)
    (case qgg_NotState => k_is)
    (case qca_NotState => k_is)
    (case qi_is_NotState => k_is)
    (case qt_NotState => k_is)
    (case qnf_NotState => k_is)
    (case ql_i_NotState => k_is)
    (case qcd_is_i_NotState => k_is)
    (case qk_i_NotState => k_is)
    (case qa_UnequalSizes => k_is)
    (case qx_UnequalSizes => k_is)
    (case qkc_UnequalSizes => k_is)
    (case qsa_UnequalSizes => k_is)
    (case qga_UnequalSizes => k_is)
    (case qgg_UnequalSizes => k_is)
    (case qca_UnequalSizes => k_is)
    (case qq_is_UnequalSizes => k_exc)
    (case qa_InvalidKind => k_is)
    (case qx_InvalidKind => k_is)
    (case qkc_InvalidKind => k_is)
    (case qsa_InvalidKind => k_is)
    (case qga_InvalidKind => k_is)
    (case qgg_InvalidKind => k_is)
    (case qca_InvalidKind => k_is)
    (case qq_is_InvalidKind => k_exc)
    (case qa_InvalidChange => k_is)
    (case qx_InvalidChange => k_is)
    (case qkc_InvalidChange => k_is)
    (case qsa_InvalidChange => k_is)
    (case qga_InvalidChange => k_is)
    (case qgg_InvalidChange => k_is)
    (case qca_InvalidChange => k_is)
    (case qq_is_InvalidChange => k_exc)
    (case qcn => k_is)
    (case qct => k_is)
    (case qnd => decide)
    (case qrc1 => k_is)
    (case qrc2 => k_is)
    (case qrc3 => k_is)
    (case qrc4 => k_is)
    (case qrm1 => k_is)
    (case qrm3 => k_is)
    (case qrm4 => k_is)
    (case qr_cc => k_is)
    (case qr_co => k_is)
    (case qpb_kind => k_is)
    (case qpc_kind => k_is)
    (case qnc_is_before => k_is)
    (case qnc_is_after => k_is)
    (case qz_ValueError => k_is)
    (case qz_int => k_is)
    (case qz_bool => k_is)
    (case qz_str => k_is)
    (case qz_list => k_is)
    (case qz_tuple => k_is)
    (case qz_len => k_is)
    (case qz_range => k_is)
    (case qz_enumerate => k_is)
    (case qz_isinstance => k_is)
    (case qz_min => k_is)
    (case qz_abs => k_is)
    (case qz_sorted => k_is)
    (case qz_all => k_is)
    (case qz_sum => k_is)
