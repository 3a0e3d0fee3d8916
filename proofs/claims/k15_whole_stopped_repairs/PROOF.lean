import PyProof.Rows.All
import Wide.All
import OpenK.AllK
import Wide.FinOn
import KE.KIsAll
import KE.KExcIs
import HandS.ForMost
import HandS.ForExc
import HandS.TryMany
import HandS.ExcInit
import HandS.ExcValue
import HandS.ExcField
import HandS.IsInst
import HandS.ExcIs
import HandS.Small
import HandS.Wide
import HandS.Flow
import HandS.Evl
import HandS.Conv
import HandS.Walk
import KE.KDictKeyed
import KE.KDictList
import KE.KDictDisplayH
import HandS.SetKeys
import HandS.DictComp
import HandS.NoneIn
import HandS.SortInts
import HandS.SortOrd
import HandS.TupAny
import HandS.ListItems
import HandS.SortRule
import HandS.ExcCtx
import HandS.HotCalls
import HandS.ExcInitHot
import HandS.TupSets
import HandS.SetFor
import HandS.Deep
import PyProof.WalkInts
import PyProof.WalksMore
import KE.GoesMore
import HandS.Zip
import HandS.Style
import HandS.HeadHook3
import HandS.MakeKwOnly
import HandS.CallLocal
import HandS.ClsMeth
import HandS.ExcOwn
import HandS.Property
import HandS.More
import HandS.SlotsOwn
import HandS.Star
import HandS.List
import KE.KRevSl
import HandS.FStr
import HandS.Strs
import PySem.Challenge.RW_peermend_k15_whole_stopped_repairs
set_option Elab.async false
set_option linter.all false
set_option maxRecDepth 100000
set_option maxHeartbeats 4000000
namespace L2
open PySem PySem.Spec PyProof.Rows

/-- an error object held as a value: without a dict, or with one that holds fields -/
def ErrT (H : Hp) (a C : Addr) : Prop := H a = some (ExO (.ref C) a) ∨ ∃ (dx : Addr) (fs : List (Str × V)), H a = some (exo a C (some dx)) ∧ H dx = some (exd dx fs)
/-- isinstance of such a value -/
def rIsX (K : PySem.W.Frag) : List V → Hp → VK → Prop := fun xs H Q => ∃ (a C : Addr) (c : V) (u : Value) (b : Bool), xs = [.ref a, c] ∧ ErrT H a C ∧ ExcC K C ∧ ClsV c u ∧ PySem.W.kitOne K (.ref C) u = some b ∧ Q (.bl b) H
theorem clsIn_some {K : PySem.W.Frag} {C : Addr} (h : PySem.W.hasDictIn K C = true) : (PySem.W.clsIn K C).isSome = true := by
  obtain ⟨cd, hc, _⟩ := PySem.W.any_some h
  rw [hc]
  rfl
theorem kitX_err {K : PySem.W.Frag} {C a : Addr} {oe : Obj} {od : Option Obj} (D : ExcC K C) : PySem.W.KitX K (.ref a) (.ref C) (fun h => PySem.W.InstAt h a oe C od) :=
  PySem.W.kitx_exc (clsIn_some D.hd) D.hg D.hk D.hs D.ha D.hn D.ht D.hm
theorem call_isX {X : Cx} : CallR X (.builtin "isinstance") (rIsX X.K) := by
  intro pins s σ H xs us Q I r h
  obtain ⟨a, C, c, u, b, rfl, T, D, k, e, q⟩ := h
  obtain ⟨u1, u2, rfl, r1, r2⟩ := vals2 r
  have e2 := k.eq r2
  subst e2
  cases (show u1 = Value.ref a from r1)
  rcases T with ea | ⟨dx, fs, ea, ed⟩
  · have x : ObjOk X.prog X.w H s.heap a (ExO (.ref C) a) := I.hok a _ ea
    obtain ⟨⟨oe, vs, ho, hz, hd, _⟩, _, _⟩ := x
    obtain ⟨oc, odi, oda, osl⟩ := oe
    obtain ⟨h1, h2⟩ := hz
    dsimp only at h1 h2 hd
    subst h1 h2 hd
    exact PySem.W.kia_one (kitX_err (od := none) D) I.kIn ⟨ho, rfl, rfl, trivial⟩ e (fun z => nomatch z) fun tk => ⟨.bl b, H, I.tok tk, rfl, q⟩
  · obtain ⟨t1, ho⟩ := exo_at I.hok ea
    obtain ⟨mA, hns, _⟩ := exd_at I.hok ed
    obtain ⟨od, ho2, _⟩ := lookIn_ns hns
    exact PySem.W.kia_one (kitX_err (od := some od) D) I.kIn ⟨ho, rfl, rfl, ho2⟩ e (fun z => nomatch z) fun tk => ⟨.bl b, H, I.tok tk, rfl, q⟩
/-- isinstance(e, c), e the exception that the suite holds, with its dict -/
def rIsS (K : PySem.W.Frag) (a : Addr) (cls : Value) (d : Option Addr) : List V → Hp → VK → Prop := fun xs H Q => ∃ (C dd : Addr) (fs : List (Str × V)) (c : V) (u : Value) (b : Bool), xs = [.ref a, c] ∧ cls = .ref C ∧ d = some dd ∧ H dd = some (.xd fs) ∧
  ExcC K C ∧ ClsV c u ∧ PySem.W.kitOne K (.ref C) u = some b ∧ Q (.bl b) H
theorem call_isS {X : Cx} {K : PySem.W.Frag} {a : Addr} {cls : Value} {d : Option Addr} {oe : Obj} {pn : List (Addr × Obj)} (hK : X.K = K) (hz : Zc cls d oe) (hf : ∃ vs, oe.data = .fields vs) : CallR (X.suite a ((a, oe) :: pn)) (.builtin "isinstance") (rIsS K a cls d) := by
  subst hK
  intro pins s σ H xs us Q I r h
  obtain ⟨C, dd, fs, c, u, b, rfl, rfl, rfl, ea, D, k, e, q⟩ := h
  obtain ⟨u1, u2, rfl, r1, r2⟩ := vals2 r
  have e2 := k.eq r2
  subst e2
  cases (show u1 = Value.ref a from r1)
  obtain ⟨hget, _⟩ := I.pin (a, oe) (List.mem_append.mpr (.inl List.mem_cons_self))
  obtain ⟨vs, hv⟩ := hf
  have hx : ObjOk X.prog X.w H s.heap dd (.xd fs) := I.hok dd _ ea
  obtain ⟨mA, hns, hr⟩ := hx
  obtain ⟨od, ho, hl⟩ := lookIn_ns hns
  have J : PySem.W.InstAt s.heap a oe C (some od) := ⟨hget, hz.1, by unfold PySem.W.notCls; rw [hv] <;> rfl, by rw [hz.2]; exact ho⟩
  exact PySem.W.kia_one (kitX_err D) I.kIn J e (fun z => nomatch z) fun tk => ⟨.bl b, H, I.kept (t' := tk) fun _ _ z => z, rfl, q⟩

section
variable {X : Cx} {C : Addr} {bmB : List Value} {B newId initId : String} {x : Str} {p pos : Pos}
/-- X(), raised: an own exception class without own __init__ -/
theorem pmk_own0 (F : ExcBaseFacts B newId initId bmB) (q : PySem.W.excIn X.K C bmB newId = true) (gC : X.mg x = some (.ref C)) (kC : PySem.W.keepIn X.K (.ref C) = true) (r : Raises X (.ref C)) (hg : Gl X x)
    (hdb : (x == ("__debug__" : Str)) = false := by decide) : PMk X (.Call (.Name x p) [] [] pos) (fun _ H Q => Q (.ref C) none H) := by
  intro pins s σ H Q I h
  refine wpAny_Call_Name_kw (ld_glob I hg gC ?_ hdb)
  refine PySem.W.callWith_K0 I.kIn kC ?_
  obtain ⟨bm, N, nm, qn, bs, hdct, sn, sub, ab, col, dd, k0, k1, k2, k3, k5, mN, hC, hN, hni, T⟩ := exc_obj I.kIn q
  refine wpAny_call_exc_subT F T hC hN hni (fun h' e hm => ?_) (Nat.zero_le _)
  exact mk_of I hm r h (I.hok.gone hm.new)
/-- X(), as a value -/
theorem pe_exc0 (F : ExcBaseFacts B newId initId bmB) (q : PySem.W.excIn X.K C bmB newId = true) (gC : X.mg x = some (.ref C)) (kC : PySem.W.keepIn X.K (.ref C) = true) (hg : Gl X x)
    (hdb : (x == ("__debug__" : Str)) = false := by decide) : PE X (.Call (.Name x p) [] [] pos) (fun _ H Q => ∀ a, H a = none → Q (.ref a) (upd H a (ExO (.ref C) a))) := by
  refine ⟨fun pins s σ H Q I h => ?_⟩
  refine wpAny_Call_Name_kw (ld_glob I hg gC ?_ hdb)
  refine PySem.W.callWith_K0 I.kIn kC ?_
  obtain ⟨bm, N, nm, qn, bs, hdct, sn, sub, ab, col, dd, k0, k1, k2, k3, k5, mN, hC, hN, hni, T⟩ := exc_obj I.kIn q
  refine wpAny_call_exc_subT F T hC hN hni (fun h' a hm => ?_) (Nat.zero_le _)
  have hn : H a = none := I.hok.gone hm.new
  obtain ⟨t, ht, _, _⟩ := hm.there
  exact ⟨.ref a, upd H a (ExO (.ref C) a), I.laidN hm.keeps hm.new hn (exO_ok ht ⟨rfl, rfl⟩ rfl rfl rfl (show 4 < 6 by decide)), rfl, h a hn⟩
end
/-- X(e, ..) as a value, its own __init__ keeping sp -/
def tMkV (C : Addr) (sp : Sp) (ta : TA) : TE := fun σ H Q => ta σ H fun vs H1 => vs.length ≤ 1000 ∧ ∀ a, H1 a = none → sp (.ref a :: vs) (upd H1 a (exo a C none)) (fun v H2 => v = .non ∧ Q (.ref a) H2) (fun _ _ _ => False)
section
variable {X : Cx} {e : Expr} {es : List Expr} {ta : TA} {p pos : Pos}
theorem pe_oexV {CX : CXT} {x : Str} {C fI : Addr} {k : Nat} {fd : FuncData} {ps : List Str} {sp : Sp} (T : OexC X.K C) (iC : PySem.W.findIn X.K (.ref C) "__init__" = some (some (.ref fI))) (tI : PySem.W.typeIn X.K (.ref fI) = some (.type "function"))
    (F1 : FnOk X.prog X.w X.K X.mg X.base CX k fI fd ps sp) (hr : Room (k + 1) X.A) (hb : Binds X.K fd ps []) (hx : Passes CX X (fun _ _ _ => False)) (hg : Gl X x) (hm : X.mg x = some (.ref C)) (ha : PA X (e :: es) ta)
    (hdb : (x == ("__debug__" : Str)) = false := by decide) (he : starEach (e :: es) X.env = (false, eval e X.env) :: starEach es X.env := by rfl) (hpl : (backTo pos (starEach es X.env)).any (·.1) = false := by rfl) :
    PE X (.Call (.Name x p) (e :: es) [] pos) (tMkV C sp ta) := by
  refine ⟨fun pins s σ H Q I h => ?_⟩
  obtain ⟨nm, q, N, bs, bm, sn, sub, ab, col, dd, k0, k1, k2, k3, k5, hC, hmro⟩ := T.cls
  refine wpAny_Call_Name_kw (ld_glob I hg hm ?_ hdb)
  refine PySem.W.callWith_K (h₀ := X.base) I.ok.mod.kin T.kC (thn (ha.run pos pins s σ H _ I h) fun us s1 ⟨vs, H1, I1, r1, hz, q1⟩ => ⟨I1.kIn, ?_⟩) he hpl
  show wpAny _ _ (call (.ref C) us) _ _ _
  obtain ⟨hh, g, dw, tc, ow⟩ := s1
  have hgt : hh.objs.size ≤ hh.objs.size + 1 := Nat.le_succ _
  have fr1 : H1 (hh.objs.size + 1) = none := I1.hok.fresh hgt
  have pr1 := q1 (hh.objs.size + 1) fr1
  have kp1 : ∀ b o, hh.get? b = some o → ((hh.push (PySem.W.kdv_tup us)).push (PySem.HandSPX.excO C hh.objs.size)).get? b = some o := fun b o e => Heap.get?_push_of_some _ (Heap.get?_push_of_some _ e)
  have ob1 : ((hh.push (PySem.W.kdv_tup us)).push (PySem.HandSPX.excO C hh.objs.size)).get? (hh.objs.size + 1) = some (PySem.HandSPX.excO C hh.objs.size) := by heap_get
  have Iv2 : Inv X pins σ (upd H1 (hh.objs.size + 1) (exo (hh.objs.size + 1) C none)) ⟨(hh.push (PySem.W.kdv_tup us)).push (PySem.HandSPX.excO C hh.objs.size), g, dw, tc, ow⟩ :=
    I1.laid (t' := tc) (a := hh.objs.size + 1) (o := exo (hh.objs.size + 1) C none) (h' := (hh.push (PySem.W.kdv_tup us)).push (PySem.HandSPX.excO C hh.objs.size)) kp1 hgt (exo_ok ob1)
  have rl2 : Vals (V.ref (hh.objs.size + 1) :: vs) (Value.ref (hh.objs.size + 1) :: us) := .cons rfl r1
  have ln1 : (Value.ref (hh.objs.size + 1) :: us).length = ps.length := by
    have e := rl2.length
    rw [F1.len _ _ _ _ pr1] at e
    exact e.symm
  have ln2 : us.length ≤ sizeLine := by
    rw [← Paired.length r1, sizeLine_eq]
    omega
  have b0 := hb ⟨(hh.push (PySem.W.kdv_tup us)).push (PySem.HandSPX.excO C hh.objs.size), g, dw, tc, ow⟩ (Value.ref (hh.objs.size + 1) :: us) Iv2.kIn (by rw [List.append_nil]; exact ln1)
  rw [List.append_nil] at b0
  refine wpAny_call (PySem.HandSPX.call_own F.excBase_ValueError (fun Y => PySem.HandSPX.refsVE_contains Y bm hmro) (I1.kIn _ _ hC) (PySem.W.looks_findIn I1.kIn iC) (fun self => PySem.W.bind_fn I1.kIn self tI) ln2
    (codeAny_mono (F1.run _ X.stack _ _ ⟨Value.ref (hh.objs.size + 1) :: us, []⟩ (Value.ref (hh.objs.size + 1) :: us) _ _ (fun _ _ _ => False) (hr.make C us []) (Iv2.env0.make C us []) b0 rl2 pr1) fun r s' hq' => ?_))
  cases r with
  | error er => exact hx pins σ _ _ er s' Iv2 hq'
  | ok fl =>
    cases fl with
    | ret u =>
      obtain ⟨v, H2, os2, bare2, un2, hok2, rv, ev, q2⟩ := hq'
      subst ev
      exact ⟨rv, .ref (hh.objs.size + 1), H2, Iv2.call' (ch := []) os2 un2 hok2 bare2 (fun b z => absurd z (by simp)), rfl, q2⟩
    | next => exact False.elim hq'
    | brk => exact False.elim hq'
    | cont => exact False.elim hq'
/-- err.f, err an error held as a value -/
def tXa (K : PySem.W.Frag) (f : Str) (te : TE) : TE := fun σ H Q => te σ H fun x H1 => ∃ (a C dx : Addr) (fs : List (Str × V)) (v : V), x = .ref a ∧ H1 a = some (exo a C (some dx)) ∧ H1 dx = some (exd dx fs) ∧ XfC K C ∧ PySem.W.findIn K (.ref C) f = some none ∧ fs.lookup f = some v ∧ Q v H1
theorem pe_xa {te : TE} {n : Str} (he : PE X e te) (hb : attributeBase e n X.env (eval e X.env) = eval e X.env := by rfl) : PE X (.Attribute e n pos) (tXa X.K n te) := by
  refine ⟨fun pins s σ H Q I h => ?_⟩
  refine attr_of hb (thn (he.run pins s σ H _ I h) fun u s1 hh => ?_)
  obtain ⟨x, H1, I1, rx, a, C, dx, fs, v, ex, ea, ed, T, hno, l, q⟩ := hh
  subst ex
  obtain rfl : u = Value.ref a := rx
  obtain ⟨t1, ho⟩ := exo_at I1.hok ea
  obtain ⟨mA, hns, hr⟩ := exd_at I1.hok ed
  obtain ⟨od, ho2, ln1⟩ := lookIn_ns hns
  obtain ⟨u, hu, ru⟩ := RelO.some_of (v := v) (o := mA n) (by rw [← l]; exact hr n)
  have J : PySem.W.InstAt s1.heap a _ C (some od) := ⟨ho, rfl, rfl, ho2⟩
  exact HandSPX.exc_get I1.kIn J T.ga T.gg T.exC (PySem.W.findObj_own T.hdC hno rfl (by rw [ln1, hu])) (handed_of ru) ⟨v, H1, I1.tok _, ru, q⟩
end
theorem ix_listK {X : Cx} {K : PySem.W.Frag} (h : X.K = K) : IxR X (rIxL K) := by
  subst h
  exact ix_list
theorem ix_tupK {X : Cx} {K : PySem.W.Frag} (h : X.K = K) : IxR X (rIxT K) := by
  subst h
  exact ix_tup
/-! several except clauses, some with names -/
/-- what is behind a suite with (slot i) or without a name -/
def goneD (oi : Option Nat) (D : Ends) : Ends := match oi with
  | none => D
  | some i => { nx := fun σ' H' => D.nx (σ'.set i none) H', rt := D.rt, bk := fun σ' H' => D.bk (σ'.set i none) H', ct := fun σ' H' => D.ct (σ'.set i none) H' }
def hadS (oi : Option Nat) (a : Addr) (σ : St) : St := match oi with
  | none => σ
  | some i => σ.set i (some (.ref a))
def wManyN (K : PySem.W.Frag) (Wout : WX) (D : Ends) : List (Value × Option Nat × (Addr → Value → Option Addr → TS)) → WX
  | [] => Wout
  | (c, oi, ts) :: r => fun cls d σ H => ∃ b, PySem.W.exmOne K cls c = some b ∧ (b = true → ∀ a, H a = none → ts a cls d (goneD oi D) (hadS oi a σ) H) ∧ (b = false → wManyN K Wout D r cls d σ H)
inductive HdsN (X : Cx) : List ExceptHandler → List (Value × Option Nat × (Addr → Value → Option Addr → TS)) → Prop
  | nil : HdsN X [] []
  | cons {x : Str} {c : Value} {ts : Addr → Value → Option Addr → TS} {b₀ : Stmt} {suite : List Stmt} {np pos' : Pos} {hds : List ExceptHandler} {l : List (Value × Option Nat × (Addr → Value → Option Addr → TS))} (hc : Names X x c)
      (hsu : ∀ (a : Addr) (oe : Obj) (cls : Value) (d : Option Addr) (pn : List (Addr × Obj)), Zc cls d oe → (∃ vs, oe.data = .fields vs) → PSs (X.suite a ((a, oe) :: pn)) (b₀ :: suite) (ts a cls d)) (r : HdsN X hds l) :
      HdsN X (.ExceptHandler (some (.Name x np)) none (b₀ :: suite) pos' :: hds) ((c, none, ts) :: l)
  | consN {x n : Str} {i : Nat} {c : Value} {ts : Addr → Value → Option Addr → TS} {b₀ : Stmt} {suite : List Stmt} {np pos' : Pos} {hds : List ExceptHandler} {l : List (Value × Option Nat × (Addr → Value → Option Addr → TS))} (hN : X.N.Nodup) (hi : X.N[i]? = some n) (hln : X.env.kindOf n = some .local) (hc : Names X x c)
      (hsu : ∀ (a : Addr) (oe : Obj) (cls : Value) (d : Option Addr) (pn : List (Addr × Obj)), Zc cls d oe → (∃ vs, oe.data = .fields vs) → PSs (X.suite a ((a, oe) :: pn)) (b₀ :: suite) (ts a cls d)) (r : HdsN X hds l) :
      HdsN X (.ExceptHandler (some (.Name x np)) (some n) (b₀ :: suite) pos' :: hds) ((c, some i, ts) :: l)
section
variable {X : Cx} {body : List Stmt} {h₀ : ExceptHandler} {hds : List ExceptHandler} {l : List (Value × Option Nat × (Addr → Value → Option Addr → TS))} {pos : Pos} {tb : WX → TS} {Wout : WX}
theorem ps_try_manyN (hs : X.stack = X.env :: X.outer) (hf : X.env.frame = some X.env.locals) (tk : Takes X Wout)
    (hb : ∀ (W : WX) (pn : List (Addr × Obj)) (xe : Value → Shared → Prop), Takes (X.tr pn xe) W → PassesOwn (model X.prog X.w) X.A X.env xe → PSs (X.tr pn xe) body (tb W))
    (hh : HdsN X (h₀ :: hds) l) : PS X (.Try body (h₀ :: hds) [] [] pos) (fun D σ H => tb (wManyN X.K Wout D l) D σ H) := by
  refine ⟨fun pins s σ H D I h => ?_⟩
  have ok := I.ok
  have frA : X.A.frames = some (X.env :: X.outer) := by rw [ok.frames, hs]
  refine wpAny_Try_except ?_
  refine wpAny_mono ((hb (wManyN X.K Wout D l) (X.pn ++ pins) (fun e s₁ => wpAny (model X.prog X.w) X.A (noteFrame e X.env) (fun _ s₂ => wpAny (model X.prog X.w) X.A (setFlight e none) (fun _ s₃ =>
    wpAny (model X.prog X.w) X.A (handleBy e X.env (h₀ :: hds)) (SP X pins D) X.xe s₃) X.xe s₂) X.xe s₁) (fun u s' xx => ?_) PassesOwn.looking).run [] s σ H D (I.toTry _) h) (fun f s1 back => ?_) (fun e s1 he => he)
  · -- the catch
    obtain ⟨a, B, sI, pins', σ', H', cls, d, rfl, J', nb, up, sky, na, os, ag, w⟩ := xx
    have J : Inv X pins σ' H' sI := J'.ofTry ok
    have skyE : Sky B (X.env :: X.outer) a (Zc cls d) X.env.locals s'.heap := by rw [← hs]; exact sky
    show wpAny (model X.prog X.w) X.A (noteFrame (.ref a) X.env) _ _ _
    refine Sky.land Zc.steady frA hf skyE fun h3 fz3 ut3 => ?_
    have Jn3 : Inv X pins σ' H' { s' with heap := h3 } := J.landed nb fz3.1 (up.trans ut3) os ag
    obtain ⟨ox3, xs3, ob3, zc3, dt3⟩ := fz3.there
    have aside : ∀ {h : Heap} {o : Obj} {vs : Array Value}, h.FunFrames B (X.env :: X.outer) → h.get? a = some o → o.data = .fields vs → a ∉ frs (X.env :: X.outer) := fun {h o vs} ff e dd hm => by
      obtain ⟨_, o', e', hnf⟩ := ff.mem hm
      rw [e] at e'; cases e'
      exact hnf _ dd
    have offF := aside fz3.2.2.1 ob3 dt3
    have offL : a ≠ X.env.locals := fun z => offF (List.mem_filterMap.mpr ⟨X.env, List.mem_cons_self, by rw [hf, z]⟩)
    have offS : a ∉ X.fs := fun hm => by
      obtain ⟨e, he, q⟩ := List.mem_filterMap.mp hm
      exact offF (List.mem_filterMap.mpr ⟨e, List.mem_cons_of_mem _ he, q⟩)
    have In3 := Jn3.suite ob3 dt3 na offL offS
    have go : ∀ {hds' : List ExceptHandler} {l' : List (Value × Option Nat × (Addr → Value → Option Addr → TS))}, HdsN X hds' l' → wManyN X.K Wout D l' cls d σ' H' →
        wpAny (model X.prog X.w) X.A (handleBy (.ref a) X.env hds') (SP X pins D) X.xe { s' with heap := h3 } := by
      intro hds' l' hk
      induction hk with
      | nil =>
        intro w
        refine wpAny_handleBy_nil ?_
        obtain ⟨k1, k2, k3, oe, vs, T, oT, ts', he, hz, hd, h1, hr⟩ := id fz3
        unfold PySem.passOn
        refine wpAny_bind (wpAny_field he hd h1 ?_)
        rw [if_neg (show ¬ ((Value.ref T == Value.none) = true) from by simp)]
        have fin : wpAny (model X.prog X.w) X.A (setFlight (.ref a) X.env.frame) (fun _ s4 => wpAny (model X.prog X.w) X.A (throw (.ref a) : Sem Flow) (SP X pins D) X.xe s4) X.xe { s' with heap := h3 } := by
          rw [hf]
          refine HandSPX.setFlight_upZ fz3 fun h4 hh4 ut4 => wpAny_throw (tk _ _ ?_)
          exact ⟨a, B, sI, pins, σ', H', cls, d, rfl, J, nb, (up.trans ut3).trans ut4, .inr (.inr (by rw [hs]; exact hh4)), na, os, ag, w⟩
        first
          | exact wpAny_bind (wpAny_pure (wpAny_bind fin))
          | exact wpAny_bind fin
      | @cons x c ts b₀ suite np pos' hds2 l2 hc hsu r ih =>
        intro w
        obtain ⟨b, hx1, yes, nay⟩ := w
        refine wpAny_handleBy_cons (codeAny_handlers_test ?_) (by intro q; cases q)
        have lkT : PySem.W.Looks (model X.prog X.w) h3 (typeOf (.ref a)) cls := fun A Q E s k q => wpAny_typeOf_ref (k _ _ ob3) (by rw [zc3.1]; exact q)
        have lkM := PySem.W.exm_one (M := model X.prog X.w) (Jn3.kIn) lkT hx1
        have test : ∀ {Q : Value → Shared → Prop} {E : Value → Shared → Prop}, Q c { s' with heap := h3 } → wpAny (model X.prog X.w) (X.A.mark (some (.ref a))) (eval (.Name x np) X.env) Q E { s' with heap := h3 } := fun {Q E} q => by
          obtain ⟨hg, hdbg, hm | ⟨hm, hv, hnn⟩⟩ := hc
          · exact ld_glob (X := X.suite a ((a, ox3) :: (X.pn ++ pins))) In3 hg hm q hdbg
          · exact ld_blt (X := X.suite a ((a, ox3) :: (X.pn ++ pins))) In3 hg hm hv q hnn hdbg
        refine test (lkM.here ?_)
        cases b with
        | true =>
          refine codeAny_handlers_suite ?_
          refine HandSPX.lands_againZ fz3 fun h4 fz4 ut4 => ?_
          have Jn4 : Inv X pins σ' H' { s' with heap := h4 } := J.landed nb fz4.1 ((up.trans ut3).trans ut4) os ag
          obtain ⟨ox4, xs4, ob4, zc4, dt4⟩ := fz4.there
          have In4 := Jn4.suite ob4 dt4 na offL offS
          refine wpAny_mono ((hsu a ox4 cls d (X.pn ++ pins) zc4 ⟨_, dt4⟩).run [] _ _ H' _ In4 (yes rfl a na)) (fun f t6 back => ?_) (fun _ _ z => False.elim z)
          cases f with
          | next =>
            obtain ⟨σb, Hb, Inb, qb⟩ := back
            exact ⟨_, _, Inb.unsuite ok, qb⟩
          | brk =>
            obtain ⟨σb, Hb, Inb, qb⟩ := back
            exact ⟨_, _, Inb.unsuite ok, qb⟩
          | cont =>
            obtain ⟨σb, Hb, Inb, qb⟩ := back
            exact ⟨_, _, Inb.unsuite ok, qb⟩
          | ret u =>
            obtain ⟨vb, σb, Hb, Inb, rb, qb⟩ := back
            exact ⟨_, _, _, Inb.unsuite ok, rb, qb⟩
        | false =>
          show wpAny _ X.A (handleBy (.ref a) X.env hds2) _ _ _
          exact ih (nay rfl)
      | @consN x n i c ts b₀ suite np pos' hds2 l2 hN hi hln hc hsu r ih =>
        intro w
        obtain ⟨b, hx1, yes, nay⟩ := w
        have hloc : Loc X.env.scope n := .inl hln
        refine wpAny_handleBy_cons (codeAny_handlers_test ?_) (by intro q; cases q)
        have lkT : PySem.W.Looks (model X.prog X.w) h3 (typeOf (.ref a)) cls := fun A Q E s k q => wpAny_typeOf_ref (k _ _ ob3) (by rw [zc3.1]; exact q)
        have lkM := PySem.W.exm_one (M := model X.prog X.w) (Jn3.kIn) lkT hx1
        have test : ∀ {Q : Value → Shared → Prop} {E : Value → Shared → Prop}, Q c { s' with heap := h3 } → wpAny (model X.prog X.w) (X.A.mark (some (.ref a))) (eval (.Name x np) X.env) Q E { s' with heap := h3 } := fun {Q E} q => by
          obtain ⟨hg, hdbg, hm | ⟨hm, hv, hnn⟩⟩ := hc
          · exact ld_glob (X := X.suite a ((a, ox3) :: (X.pn ++ pins))) In3 hg hm q hdbg
          · exact ld_blt (X := X.suite a ((a, ox3) :: (X.pn ++ pins))) In3 hg hm hv q hnn hdbg
        refine test (lkM.here ?_)
        cases b with
        | true =>
          refine codeAny_handlers_suite_as ?_
          refine HandSPX.lands_againZ fz3 fun h4 fz4 ut4 => ?_
          have Jn4 : Inv X pins σ' H' { s' with heap := h4 } := J.landed nb fz4.1 ((up.trans ut3).trans ut4) os ag
          obtain ⟨ox4, xs4, ob4, zc4, dt4⟩ := fz4.there
          have In4 := Jn4.suite ob4 dt4 na offL offS
          refine store_ok (X := X.suite a ((a, ox4) :: (X.pn ++ pins))) (v := .ref a) In4 hN hi hloc rfl (fun t5 In5 => ?_) (.inr hln)
          refine wpAny_mono ((hsu a ox4 cls d (X.pn ++ pins) zc4 ⟨_, dt4⟩).run [] t5 _ H' _ In5 (yes rfl a na)) (fun f t6 back => ?_) (fun _ _ z => False.elim z)
          have gone : ∀ {σb : St} {Hb : Hp} {Q : Shared → Prop}, Inv (X.suite a ((a, ox4) :: (X.pn ++ pins))) [] σb Hb t6 → (∀ s7, Inv X pins (σb.set i none) Hb s7 → Q s7) →
              wpAny (model X.prog X.w) X.A (do bindName X.env n .none; unbindBehindTheSuite X.env n pos') (fun _ s7 => Q s7) X.xe t6 := fun {σb Hb Q} Inb hq => gone_ok (Inb.unsuite ok) hN hi hln hq
          cases f with
          | next =>
            obtain ⟨σb, Hb, Inb, qb⟩ := back
            exact gone Inb fun s7 J7 => ⟨_, _, J7, qb⟩
          | brk =>
            obtain ⟨σb, Hb, Inb, qb⟩ := back
            exact gone Inb fun s7 J7 => ⟨_, _, J7, qb⟩
          | cont =>
            obtain ⟨σb, Hb, Inb, qb⟩ := back
            exact gone Inb fun s7 J7 => ⟨_, _, J7, qb⟩
          | ret u =>
            obtain ⟨vb, σb, Hb, Inb, rb, qb⟩ := back
            exact gone Inb fun s7 J7 => ⟨_, _, _, J7, rb, qb⟩
        | false =>
          show wpAny _ X.A (handleBy (.ref a) X.env hds2) _ _ _
          exact ih (nay rfl)
    exact go hh w
  · cases f with
    | next =>
      obtain ⟨σ', H', J', q⟩ := back
      exact wpAny_execs_nil ⟨σ', H', J'.ofTry ok, q⟩
    | brk =>
      obtain ⟨σ', H', J', q⟩ := back
      exact ⟨σ', H', J'.ofTry ok, q⟩
    | cont =>
      obtain ⟨σ', H', J', q⟩ := back
      exact ⟨σ', H', J'.ofTry ok, q⟩
    | ret u =>
      obtain ⟨v, σ', H', J', r, q⟩ := back
      exact ⟨v, σ', H', J'.ofTry ok, r, q⟩
end
end L2

namespace Pm
/-! ### forms and blocks -/
def form : Nat → List Nat
  | 0 => [0] | 1 => [1, 0] | 2 => [1, 1] | 3 => [1, 2, 1] | 4 => [1, 2, 2] | 5 => [1, 2, 1, 2] | 6 => [1, 2, 3, 2] | _ => [1, 2, 3, 0]
abbrev Bk := Nat × List Nat
structure Blk (ys : List Nat) (b : Bk) : Prop where
  w : b.1 < 8
  len : b.2.length = (form b.1).length
  sh : ∀ k, k < b.2.length → ys.getD (b.2.getD k 0) 0 = b.2.getD ((form b.1).getD k 0) 0
structure Built (ys : List Nat) (bs : List Bk) : Prop where
  blk : ∀ b ∈ bs, Blk ys b
  perm : (bs.flatMap (·.2)).Perm (List.range ys.length)
theorem form_len (w : Nat) : 0 < (form w).length := by
  unfold form
  split <;> decide
theorem form_lt (w k : Nat) (h : k < (form w).length) : (form w).getD k 0 < (form w).length := by
  unfold form at h ⊢
  split at h <;> (simp at h ⊢; rcases k with _ | _ | _ | _ | k <;> simp at h ⊢ <;> omega)
/-- the least of a list -/
def mn : List Nat → Nat
  | [] => 0
  | [a] => a
  | a :: b :: l => min a (mn (b :: l))
theorem mn_mem : ∀ {l : List Nat}, l ≠ [] → mn l ∈ l
  | [], h => absurd rfl h
  | [a], _ => by simp [mn]
  | a :: b :: l, _ => by
    have ih := mn_mem (l := b :: l) (by simp)
    unfold mn
    by_cases h : a ≤ mn (b :: l)
    · rw [Nat.min_eq_left h]; exact List.mem_cons_self ..
    · rw [Nat.min_eq_right (by omega)]; exact List.mem_cons_of_mem _ ih
theorem mn_le : ∀ {l : List Nat} {x : Nat}, x ∈ l → mn l ≤ x
  | [a], x, h => by
    rw [List.mem_singleton.mp h]
    exact Nat.le_refl _
  | a :: b :: l, x, h => by
    unfold mn
    rcases List.mem_cons.mp h with e | h
    · rw [e]; exact Nat.min_le_left _ _
    · exact Nat.le_trans (Nat.min_le_right _ _) (mn_le h)
theorem uniq : ∀ {bs : List Bk} {b c : Bk} {x : Nat}, (bs.flatMap (·.2)).Nodup → b ∈ bs → c ∈ bs → x ∈ b.2 → x ∈ c.2 → b = c
  | a :: bs, b, c, x, nd, hb, hc, xb, xc => by
    rw [List.flatMap_cons, List.nodup_append] at nd
    rcases List.mem_cons.mp hb with e1 | hb
    · rcases List.mem_cons.mp hc with e2 | hc
      · rw [e1, e2]
      · exact absurd rfl (nd.2.2 x (e1 ▸ xb) x (List.mem_flatMap.mpr ⟨c, hc, xc⟩))
    · rcases List.mem_cons.mp hc with e2 | hc
      · exact absurd rfl (nd.2.2 x (e2 ▸ xc) x (List.mem_flatMap.mpr ⟨b, hb, xb⟩))
      · exact uniq nd.2.1 hb hc xb xc
theorem nd_of : ∀ {bs : List Bk} {b : Bk}, (bs.flatMap (·.2)).Nodup → b ∈ bs → b.2.Nodup
  | a :: bs, b, nd, hb => by
    rw [List.flatMap_cons, List.nodup_append] at nd
    rcases List.mem_cons.mp hb with e1 | hb
    · rw [e1]; exact nd.1
    · exact nd_of nd.2.1 hb
def beta (bs : List Bk) (x : Nat) : Nat := match bs.find? (fun b => b.2.contains x) with
  | some b => mn b.2
  | none => x
section
variable {ys : List Nat} {bs : List Bk}
theorem Built.nd (B : Built ys bs) : (bs.flatMap (·.2)).Nodup := B.perm.nodup_iff.mpr List.nodup_range
theorem Built.lt (B : Built ys bs) {b : Bk} (hb : b ∈ bs) {x : Nat} (hx : x ∈ b.2) : x < ys.length :=
  List.mem_range.mp (B.perm.mem_iff.mp (List.mem_flatMap.mpr ⟨b, hb, hx⟩))
theorem Built.of (B : Built ys bs) {x : Nat} (hx : x < ys.length) : ∃ b ∈ bs, x ∈ b.2 := by
  obtain ⟨b, hb, h⟩ := List.mem_flatMap.mp (B.perm.mem_iff.mpr (List.mem_range.mpr hx))
  exact ⟨b, hb, h⟩
theorem Built.beta_of (B : Built ys bs) {b : Bk} (hb : b ∈ bs) {x : Nat} (hx : x ∈ b.2) : beta bs x = mn b.2 := by
  unfold beta
  cases h : bs.find? (fun b => b.2.contains x) with
  | none =>
    have := List.find?_eq_none.mp h b hb
    simp [hx] at this
  | some c =>
    have h1 := List.mem_of_find?_eq_some h
    have h2 := List.find?_some h
    have h3 : x ∈ c.2 := by simpa using h2
    rw [uniq B.nd hb h1 hx h3]
theorem Built.ne (B : Built ys bs) {b : Bk} (hb : b ∈ bs) : b.2 ≠ [] := fun z => by
  have h := (B.blk b hb).len
  have := form_len b.1
  rw [z] at h
  simp at h
  omega
theorem Built.mn_beta (B : Built ys bs) {b : Bk} (hb : b ∈ bs) : beta bs (mn b.2) = mn b.2 := B.beta_of hb (mn_mem (B.ne hb))
theorem Built.beta_le (B : Built ys bs) {x : Nat} (hx : x < ys.length) : beta bs x ≤ x := by
  obtain ⟨b, hb, h⟩ := B.of hx
  rw [B.beta_of hb h]
  exact mn_le h
theorem getD_mem {l : List Nat} {k : Nat} (h : k < l.length) : l.getD k 0 ∈ l := by
  rw [List.getD_eq_getElem?_getD, List.getElem?_eq_getElem h]
  exact List.getElem_mem h
theorem mem_getD {l : List Nat} {x : Nat} (h : x ∈ l) : ∃ k, k < l.length ∧ l.getD k 0 = x := by
  obtain ⟨k, hk, e⟩ := List.getElem_of_mem h
  exact ⟨k, hk, by rw [List.getD_eq_getElem?_getD, List.getElem?_eq_getElem hk]; exact e⟩
/-- what a record shows is of its block -/
theorem Built.shown (B : Built ys bs) {b : Bk} (hb : b ∈ bs) {x : Nat} (hx : x ∈ b.2) : ys.getD x 0 ∈ b.2 := by
  obtain ⟨k, hk, rfl⟩ := mem_getD hx
  have Q := B.blk b hb
  rw [Q.sh k hk]
  exact getD_mem (by rw [Q.len]; exact form_lt _ _ (by rw [← Q.len]; exact hk))
theorem Built.edge (B : Built ys bs) {x : Nat} (hx : x < ys.length) : ys.getD x 0 < ys.length ∧ beta bs (ys.getD x 0) = beta bs x := by
  obtain ⟨b, hb, h⟩ := B.of hx
  have h2 := B.shown hb h
  exact ⟨B.lt hb h2, by rw [B.beta_of hb h, B.beta_of hb h2]⟩
end
/-! ### the labels -/
def stepL (L : List Nat) (r nm : Nat) : List Nat := if min (L.getD r 0) (L.getD nm 0) = max (L.getD r 0) (L.getD nm 0) then L else L.map fun o => if o = max (L.getD r 0) (L.getD nm 0) then min (L.getD r 0) (L.getD nm 0) else o
def lab (ys : List Nat) : Nat → List Nat
  | 0 => List.range ys.length
  | i + 1 => stepL (lab ys i) i (ys.getD i 0)
structure Lab (ys : List Nat) (bs : List Bk) (i : Nat) (L : List Nat) : Prop where
  len : L.length = ys.length
  le : ∀ x, x < ys.length → L.getD x 0 ≤ x
  fx : ∀ x, x < ys.length → L.getD (L.getD x 0) 0 = L.getD x 0
  bl : ∀ x, x < ys.length → beta bs (L.getD x 0) = beta bs x
  ed : ∀ r, r < i → r < ys.length → L.getD r 0 = L.getD (ys.getD r 0) 0
theorem getD_map {L : List Nat} {f : Nat → Nat} {x : Nat} (h : x < L.length) : (L.map f).getD x 0 = f (L.getD x 0) := by
  rw [List.getD_eq_getElem?_getD, List.getElem?_map, List.getD_eq_getElem?_getD, List.getElem?_eq_getElem h]
  rfl
theorem getD_range {n x : Nat} (h : x < n) : (List.range n).getD x 0 = x := by
  rw [List.getD_eq_getElem?_getD, List.getElem?_range h]
  rfl
theorem lab_ok {ys : List Nat} {bs : List Bk} (B : Built ys bs) : ∀ i, i ≤ ys.length → Lab ys bs i (lab ys i)
  | 0, _ => ⟨List.length_range, fun x hx => by show (List.range _).getD x 0 ≤ x; rw [getD_range hx]; exact Nat.le_refl _,
      fun x hx => by show (List.range _).getD ((List.range _).getD x 0) 0 = (List.range _).getD x 0; rw [getD_range hx, getD_range hx],
      fun x hx => by show beta bs ((List.range _).getD x 0) = _; rw [getD_range hx], fun r h => absurd h (Nat.not_lt_zero _)⟩
  | i + 1, hi => by
    have ih := lab_ok B i (by omega)
    have hin : i < ys.length := by omega
    obtain ⟨hnm, hbe⟩ := B.edge hin
    show Lab ys bs (i + 1) (stepL (lab ys i) i (ys.getD i 0))
    generalize lab ys i = L at ih
    generalize hnmE : ys.getD i 0 = nm at hnm hbe
    unfold stepL
    have a1 := ih.fx i hin
    have b1 := ih.fx nm hnm
    have a2 := ih.le i hin
    have b2 := ih.le nm hnm
    have a3 := ih.bl i hin
    have b3 := ih.bl nm hnm
    generalize ha : L.getD i 0 = a at *
    generalize hb : L.getD nm 0 = b at *
    by_cases heq : min a b = max a b
    · rw [if_pos heq]
      refine ⟨ih.len, ih.le, ih.fx, ih.bl, fun r hr hrn => ?_⟩
      by_cases h : r = i
      · rw [h, ha, hnmE, hb]
        omega
      · exact ih.ed r (by omega) hrn
    · rw [if_neg heq]
      have hlow : L.getD (min a b) 0 = min a b := by
        by_cases h : a ≤ b
        · rw [Nat.min_eq_left h]; exact a1
        · rw [Nat.min_eq_right (by omega)]; exact b1
      have hbl : beta bs (min a b) = beta bs (max a b) := by
        by_cases h : a ≤ b
        · rw [Nat.min_eq_left h, Nat.max_eq_right h, a3, b3, hbe]
        · rw [Nat.min_eq_right (by omega), Nat.max_eq_left (by omega), a3, b3, hbe]
      have at_ : ∀ x, x < ys.length → (L.map fun o => if o = max a b then min a b else o).getD x 0 = if L.getD x 0 = max a b then min a b else L.getD x 0 := fun x hx => getD_map (by rw [ih.len]; exact hx)
      have hminlt : min a b < ys.length := by omega
      refine ⟨by rw [List.length_map]; exact ih.len, fun x hx => ?_, fun x hx => ?_, fun x hx => ?_, fun r hr hrn => ?_⟩
      · rw [at_ x hx]
        have := ih.le x hx
        split <;> omega
      · rw [at_ x hx]
        by_cases h : L.getD x 0 = max a b
        · rw [if_pos h, at_ _ hminlt, hlow, if_neg heq]
        · rw [if_neg h]
          have hl := ih.le x hx
          rw [at_ _ (by omega), ih.fx x hx, if_neg h]
      · rw [at_ x hx]
        by_cases h : L.getD x 0 = max a b
        · rw [if_pos h, hbl, ← h]; exact ih.bl x hx
        · rw [if_neg h]; exact ih.bl x hx
      · rw [at_ r hrn, at_ _ (B.edge hrn).1]
        by_cases h : r = i
        · rw [h, ha, hnmE, hb]
          by_cases hab : a ≤ b
          · rw [Nat.min_eq_left hab, Nat.max_eq_right hab]
            by_cases hq : a = b <;> simp [hq]
          · rw [Nat.min_eq_right (by omega), Nat.max_eq_left (by omega)]
            by_cases hq : b = a <;> simp [hq]
        · rw [ih.ed r (by omega) hrn]
theorem conn {w : Nat} {ms : List Nat} {f : Nat → Nat} (hl : ms.length = (form w).length) (h : ∀ k, k < ms.length → f (ms.getD k 0) = f (ms.getD ((form w).getD k 0) 0)) : ∀ k, k < ms.length → f (ms.getD k 0) = f (ms.getD 0 0) := by
  unfold form at hl h
  split at hl
  all_goals (simp only [List.length_cons, List.length_nil] at hl; intro k hk)
  all_goals (have h0 := h 0 (by omega); try have h1 := h 1 (by omega))
  all_goals (try have h2 := h 2 (by omega))
  all_goals (try have h3 := h 3 (by omega))
  all_goals (rcases k with _ | _ | _ | _ | k)
  all_goals first | omega | rfl | (simp at h0 h1 h2 h3 ⊢; omega) | (simp at h0 h1 h2 ⊢; omega) | (simp at h0 h1 ⊢; omega) | (simp at h0 ⊢; omega)
end Pm

namespace Pm
inductive Cs (g : Nat → Nat) : Nat → List Nat → Prop
  | free (a) : g a = a → Cs g 0 [a]
  | pair (a b) : g a = b → g b = a → Cs g 1 [a, b]
  | claim (a b) : g a = b → g b = b → Cs g 2 [a, b]
  | hook (c a b) : g c = a → g a = b → g b = a → Cs g 3 [c, a, b]
  | relay (c a b) : g c = a → g a = b → g b = b → Cs g 4 [c, a, b]
  | clamp (d a b c) : g d = a → g a = b → g b = a → g c = b → Cs g 5 [d, a, b, c]
  | trail (d c a b) : g d = c → g c = a → g a = b → g b = a → Cs g 6 [d, c, a, b]
  | wheel (a b c d) : g a = b → g b = c → g c = d → g d = a → Cs g 7 [a, b, c, d]
theorem Blk.cs {ys : List Nat} {b : Bk} (Q : Blk ys b) : Cs (fun x => ys.getD x 0) b.1 b.2 := by
  obtain ⟨w, ms⟩ := b
  obtain ⟨hw, hl, h⟩ := Q
  dsimp only at hw hl h
  match w, hw with
  | 0, _ => match ms, hl with | [a], _ => exact .free a (by simpa [form] using h 0 (by simp))
  | 1, _ => match ms, hl with | [a, b], _ => exact .pair a b (by simpa [form] using h 0 (by simp)) (by simpa [form] using h 1 (by simp))
  | 2, _ => match ms, hl with | [a, b], _ => exact .claim a b (by simpa [form] using h 0 (by simp)) (by simpa [form] using h 1 (by simp))
  | 3, _ => match ms, hl with | [a, b, c], _ => exact .hook a b c (by simpa [form] using h 0 (by simp)) (by simpa [form] using h 1 (by simp)) (by simpa [form] using h 2 (by simp))
  | 4, _ => match ms, hl with | [a, b, c], _ => exact .relay a b c (by simpa [form] using h 0 (by simp)) (by simpa [form] using h 1 (by simp)) (by simpa [form] using h 2 (by simp))
  | 5, _ => match ms, hl with | [a, b, c, d], _ => exact .clamp a b c d (by simpa [form] using h 0 (by simp)) (by simpa [form] using h 1 (by simp)) (by simpa [form] using h 2 (by simp)) (by simpa [form] using h 3 (by simp))
  | 6, _ => match ms, hl with | [a, b, c, d], _ => exact .trail a b c d (by simpa [form] using h 0 (by simp)) (by simpa [form] using h 1 (by simp)) (by simpa [form] using h 2 (by simp)) (by simpa [form] using h 3 (by simp))
  | 7, _ => match ms, hl with | [a, b, c, d], _ => exact .wheel a b c d (by simpa [form] using h 0 (by simp)) (by simpa [form] using h 1 (by simp)) (by simpa [form] using h 2 (by simp)) (by simpa [form] using h 3 (by simp))
structure Canon (b : Bk) : Prop where
  pair : b.1 = 1 → b.2.getD 0 0 < b.2.getD 1 0
  clamp : b.1 = 5 → b.2.getD 0 0 < b.2.getD 3 0
  wheel : b.1 = 7 → b.2.getD 0 0 = mn b.2
section
variable {ys : List Nat} {bs : List Bk}
theorem lab_end (B : Built ys bs) {x : Nat} (hx : x < ys.length) : (lab ys ys.length).getD x 0 = beta bs x := by
  have Q := lab_ok B ys.length (Nat.le_refl _)
  generalize lab ys ys.length = L at Q ⊢
  obtain ⟨b, hb, hxb⟩ := B.of hx
  have P := B.blk b hb
  have cn := conn (f := fun x => L.getD x 0) P.len fun k hk => by
    show L.getD (b.2.getD k 0) 0 = _
    have hm := B.lt hb (getD_mem hk)
    rw [Q.ed _ hm hm, P.sh k hk]
  have h0 : 0 < b.2.length := List.length_pos_iff.mpr (B.ne hb)
  have same : ∀ y, y ∈ b.2 → L.getD y 0 = L.getD (b.2.getD 0 0) 0 := fun y hy => by
    obtain ⟨k, hk, rfl⟩ := mem_getD hy
    exact cn k hk
  have hmn := mn_mem (B.ne hb)
  have e1 : L.getD x 0 = L.getD (mn b.2) 0 := by rw [same x hxb, same _ hmn]
  have h1 := Q.le (mn b.2) (B.lt hb hmn)
  have h2 := Q.bl x hx
  have h3 := Q.le x hx
  have h4 := B.beta_le (x := L.getD x 0) (by omega)
  have h5 := B.beta_of hb hxb
  omega
def grp (bs : List Bk) (n m : Nat) : List Nat := (List.range n).filter fun x => decide (beta bs x = m)
def roots (bs : List Bk) (n : Nat) : List Nat := (List.range n).filter fun x => decide (beta bs x = x)
theorem nodup_filter {l : List Nat} (p : Nat → Bool) (h : l.Nodup) : (l.filter p).Nodup := h.sublist List.filter_sublist
theorem grp_nd {n m : Nat} : (grp bs n m).Nodup := nodup_filter _ List.nodup_range
theorem grp_lt {n m : Nat} : (grp bs n m).Pairwise (· < ·) := List.Pairwise.filter _ List.pairwise_lt_range
theorem Built.mem_grp (B : Built ys bs) {b : Bk} (hb : b ∈ bs) {x : Nat} : x ∈ grp bs ys.length (mn b.2) ↔ x ∈ b.2 := by
  unfold grp
  rw [List.mem_filter, List.mem_range, decide_eq_true_eq]
  constructor
  · rintro ⟨h1, h2⟩
    obtain ⟨c, hc, hx⟩ := B.of h1
    rw [B.beta_of hc hx] at h2
    have e := uniq B.nd hc hb (x := mn b.2) (by rw [← h2]; exact mn_mem (B.ne hc)) (mn_mem (B.ne hb))
    exact e ▸ hx
  · exact fun h => ⟨B.lt hb h, B.beta_of hb h⟩
theorem Built.grp_perm (B : Built ys bs) {b : Bk} (hb : b ∈ bs) : (grp bs ys.length (mn b.2)).Perm b.2 :=
  (List.perm_ext_iff_of_nodup grp_nd (nd_of B.nd hb)).mpr fun x => B.mem_grp hb
theorem Built.roots_eq (B : Built ys bs) (hs : bs.Pairwise fun a b => mn a.2 < mn b.2) : roots bs ys.length = bs.map fun b => mn b.2 := by
  have s1 : (roots bs ys.length).Pairwise (· < ·) := List.Pairwise.filter _ List.pairwise_lt_range
  have s2 : (bs.map fun b => mn b.2).Pairwise (· < ·) := List.pairwise_map.mpr hs
  refine List.Perm.eq_of_pairwise (le := (· < ·)) (fun a b _ _ h1 h2 => by omega) s1 s2 ?_
  refine (List.perm_ext_iff_of_nodup (s1.imp fun h => by omega) (s2.imp fun h => by omega)).mpr fun x => ?_
  unfold roots
  rw [List.mem_filter, List.mem_range, decide_eq_true_eq, List.mem_map]
  constructor
  · rintro ⟨h1, h2⟩
    obtain ⟨b, hb, hx⟩ := B.of h1
    exact ⟨b, hb, by rw [← h2, B.beta_of hb hx]⟩
  · rintro ⟨b, hb, rfl⟩
    exact ⟨B.lt hb (mn_mem (B.ne hb)), B.mn_beta hb⟩
/-! ### one group's row -/
def path (b : Bk) : List Nat := if b.1 = 5 then b.2.take 3 else b.2
theorem filter_one {l : List Nat} {q : Nat → Bool} {x : Nat} (nd : l.Nodup) (hx : x ∈ l) (h1 : q x = true) (h2 : ∀ y ∈ l, q y = true → y = x) : l.filter q = [x] := by
  have nd2 := nodup_filter q nd
  have m : ∀ y, y ∈ l.filter q ↔ y = x := fun y => by
    rw [List.mem_filter]
    exact ⟨fun h => h2 y h.1 h.2, fun h => by rw [h]; exact ⟨hx, h1⟩⟩
  match hl : l.filter q with
  | [] => exact absurd ((m x).mpr rfl) (by rw [hl]; simp)
  | [a] => rw [(m a).mp (by rw [hl]; simp)]
  | a :: b :: r =>
    rw [hl] at nd2 m
    have ea := (m a).mp (by simp)
    have eb := (m b).mp (by simp)
    simp [ea, eb] at nd2
theorem mn_sing {a : Nat} : mn [a] = a := rfl
/-- the walk of a form -/
structure Walks (g : Nat → Nat) (p : List Nat) : Prop where
  pos : 0 < p.length
  nd : p.Nodup
  next : ∀ j, j + 1 < p.length → g (p.getD j 0) = p.getD (j + 1) 0
  back : g (p.getD (p.length - 1) 0) ∈ p
theorem Built.walks (B : Built ys bs) {b : Bk} (hb : b ∈ bs) : Walks (fun x => ys.getD x 0) (path b) := by
  have nd := nd_of B.nd hb
  have C := (B.blk b hb).cs
  obtain ⟨w, ms⟩ := b
  dsimp only at C nd
  unfold path
  dsimp only
  generalize (fun x => ys.getD x 0) = g at C
  cases C
  all_goals (simp at nd ⊢)
  all_goals (refine ⟨by simp, by simp; try simp [nd], fun j hj => ?_, by simp [*]⟩)
  all_goals (rcases j with _ | _ | _ | _ | j)
  all_goals first | (simp at hj; done) | (simp [*]; done) | (simp at hj ⊢; omega) | skip
theorem Built.left (B : Built ys bs) {b : Bk} (hb : b ∈ bs) : path b ++ (grp bs ys.length (mn b.2)).filter (fun x => !(path b).contains x) = b.2 := by
  have nd := nd_of B.nd hb
  have C := (B.blk b hb).cs
  have M : ∀ x, x ∈ grp bs ys.length (mn b.2) ↔ x ∈ b.2 := fun x => B.mem_grp hb
  have N : (grp bs ys.length (mn b.2)).Nodup := grp_nd
  generalize grp bs ys.length (mn b.2) = l at M N
  by_cases h5 : b.1 = 5
  · obtain ⟨w, ms⟩ := b
    dsimp only at h5 C nd M ⊢
    subst h5
    cases C
    rename_i d a b c h1 h2 h3 h4
    unfold path
    simp at nd ⊢
    rw [filter_one (x := c) N (by rw [M]; simp) (by simp; omega) fun y hy hq => ?_]
    rw [M] at hy
    simp at hy hq
    omega
  · unfold path
    rw [if_neg h5]
    have e : l.filter (fun x => !b.2.contains x) = [] := by
      rw [List.filter_eq_nil_iff]
      intro x hx
      have := (M x).mp hx
      simp [this]
    rw [e, List.append_nil]
/-- where the walk starts: at the first record that no other of the group shows, or at the first one -/
theorem Built.start (B : Built ys bs) {b : Bk} (hb : b ∈ bs) (K : Canon b) (T : List Nat)
    (hT : T = (grp bs ys.length (mn b.2)).filter (fun x => !((grp bs ys.length (mn b.2)).map fun y => ys.getD y 0).contains x)) :
    (T = [] → (grp bs ys.length (mn b.2)).head? = some (b.2.getD 0 0)) ∧ (T ≠ [] → T.head? = some (b.2.getD 0 0)) := by
  have nd := nd_of B.nd hb
  have C := (B.blk b hb).cs
  have M : ∀ x, x ∈ grp bs ys.length (mn b.2) ↔ x ∈ b.2 := fun x => B.mem_grp hb
  have sh : ∀ x, ((grp bs ys.length (mn b.2)).map fun y => ys.getD y 0).contains x = (b.2.map fun y => ys.getD y 0).contains x := fun x => by
    rw [Bool.eq_iff_iff, List.contains_iff_mem, List.contains_iff_mem, List.mem_map, List.mem_map]
    exact ⟨fun ⟨y, hy, e⟩ => ⟨y, (M y).mp hy, e⟩, fun ⟨y, hy, e⟩ => ⟨y, (M y).mpr hy, e⟩⟩
  have hT2 : T = (List.range ys.length).filter fun x => decide (beta bs x = mn b.2) && !(b.2.map fun y => ys.getD y 0).contains x := by
    rw [hT]
    unfold grp
    rw [List.filter_filter]
    refine List.filter_congr fun x hx => ?_
    have := sh x
    unfold grp at this
    rw [this, Bool.and_comm]
  have inB : ∀ x, x < ys.length → (decide (beta bs x = mn b.2) = true ↔ x ∈ b.2) := fun x hx => by
    rw [← M x]
    unfold grp
    rw [List.mem_filter, List.mem_range]
    exact ⟨fun h => ⟨hx, h⟩, fun h => h.2⟩
  have root : b.2.getD 0 0 = mn b.2 → (grp bs ys.length (mn b.2)).head? = some (b.2.getD 0 0) := fun e => by
    unfold grp
    rw [List.head?_filter, List.find?_range_eq_some, e]
    refine ⟨by rw [decide_eq_true_eq]; exact B.mn_beta hb, List.mem_range.mpr (B.lt hb (mn_mem (B.ne hb))), fun j hj => ?_⟩
    have hjn : j < ys.length := Nat.lt_trans hj (B.lt hb (mn_mem (B.ne hb)))
    have := B.beta_le hjn
    simp
    omega
  have tail : ∀ m0 : Nat, m0 ∈ b.2 → (b.2.map fun y => ys.getD y 0).contains m0 = false → (∀ j, j < m0 → j ∈ b.2 → (b.2.map fun y => ys.getD y 0).contains j = true) → T.head? = some m0 := fun m0 h1 h2 h3 => by
    rw [hT2, List.head?_filter, List.find?_range_eq_some]
    refine ⟨by rw [h2, (inB m0 (B.lt hb h1)).mpr h1]; rfl, List.mem_range.mpr (B.lt hb h1), fun j hj => ?_⟩
    have hjn : j < ys.length := Nat.lt_trans hj (B.lt hb h1)
    by_cases hjb : j ∈ b.2
    · rw [h3 j hj hjb]
      simp
    · have : decide (beta bs j = mn b.2) = false := by
        cases h : decide (beta bs j = mn b.2) with
        | false => rfl
        | true => exact absurd ((inB j hjn).mp h) hjb
      rw [this]
      rfl
  have none : (∀ x ∈ b.2, (b.2.map fun y => ys.getD y 0).contains x = true) → T = [] := fun h => by
    rw [hT2, List.filter_eq_nil_iff]
    intro x hx
    have hxn := List.mem_range.mp hx
    by_cases hxb : x ∈ b.2
    · rw [h x hxb]
      simp
    · intro z
      rw [Bool.and_eq_true] at z
      exact hxb ((inB x hxn).mp z.1)
  obtain ⟨w, ms⟩ := b
  dsimp only at *
  generalize hg : (fun y => ys.getD y 0) = g at C tail none
  clear hT hT2 sh
  cases C with
  | free a h1 =>
    have t := none (by simp [h1])
    exact ⟨fun _ => root rfl, fun h => absurd t h⟩
  | pair a b h1 h2 =>
    have t := none (by simp [h1, h2])
    have := K.pair rfl
    simp at this
    exact ⟨fun _ => root (by simp [mn]; omega), fun h => absurd t h⟩
  | wheel a b c d h1 h2 h3 h4 =>
    have t := none (by simp [h1, h2, h3, h4])
    exact ⟨fun _ => root (K.wheel rfl), fun h => absurd t h⟩
  | claim a b h1 h2 =>
    simp at nd
    have t := tail a (by simp) (by simp [h1, h2]; omega) (fun j hj hm => by simp at hm; simp [h1, h2]; omega)
    exact ⟨fun h => (by rw [h] at t; simp at t), fun _ => t⟩
  | hook c a b h1 h2 h3 =>
    simp at nd
    have t := tail c (by simp) (by simp [h1, h2, h3]; omega) (fun j hj hm => by simp at hm; simp [h1, h2, h3]; omega)
    exact ⟨fun h => (by rw [h] at t; simp at t), fun _ => t⟩
  | relay c a b h1 h2 h3 =>
    simp at nd
    have t := tail c (by simp) (by simp [h1, h2, h3]; omega) (fun j hj hm => by simp at hm; simp [h1, h2, h3]; omega)
    exact ⟨fun h => (by rw [h] at t; simp at t), fun _ => t⟩
  | clamp d a b c h1 h2 h3 h4 =>
    simp at nd
    have kk := K.clamp rfl
    simp at kk
    have t := tail d (by simp) (by simp [h1, h2, h3, h4]; omega) (fun j hj hm => by simp at hm; simp [h1, h2, h3, h4]; omega)
    exact ⟨fun h => (by rw [h] at t; simp at t), fun _ => t⟩
  | trail d c a b h1 h2 h3 h4 =>
    simp at nd
    have t := tail d (by simp) (by simp [h1, h2, h3, h4]; omega) (fun j hj hm => by simp at hm; simp [h1, h2, h3, h4]; omega)
    exact ⟨fun h => (by rw [h] at t; simp at t), fun _ => t⟩
end
end Pm

namespace L2
open PySem PySem.Spec PyProof.Rows
/-! ### a table of the text keyed by tuples of ints -/
def numK (ks : List Nat) : NestedKey := .tup (ks.map fun k : Nat => NestedKey.num (k : Int))
/-- at a, in the written part: a table of the given keys and texts -/
def TabK (P : Program) (w : World) (K : PySem.W.Frag) (a : Addr) (kvs : List (List Nat × Str)) : Prop := (a == sysModules) = false ∧
  ∃ ts : List Tok, ∀ h : Heap, K.In h → h.DictKeyed (nestedKind P w) a ((kvs.zip ts).map fun x => (numK x.1.1, Value.str x.1.2 x.2)) ∧ ts.length = kvs.length
theorem numK_depth : ∀ ks : List Nat, (numK ks).depth ≤ 8 := fun ks => by
  have h : ∀ l : List Nat, NestedKey.depthAll (l.map fun k : Nat => NestedKey.num (k : Int)) ≤ 1 := fun l => by
    induction l with
    | nil => simp [NestedKey.depthAll]
    | cons a l ih =>
      simp only [List.map_cons, NestedKey.depthAll, NestedKey.depth]
      omega
  have := h ks
  unfold numK
  simp only [NestedKey.depth]
  omega
theorem numAll_of {h : Heap} : ∀ {ks : List Nat} {us : List Value}, Vals (ks.map fun k : Nat => V.int (k : Int)) us → NestedAll h (ks.map fun k : Nat => NestedKey.num (k : Int)) us
  | [], _, r => by cases r; exact .nil
  | k :: ks, _, r => by
    cases r with
    | cons r1 r2 =>
      obtain ⟨t, e⟩ := r1
      rw [e]
      exact .cons (.int _ t) (numAll_of r2)
/-- d.get(t) of such a table, the key there -/
def tTabGet (P : Program) (w : World) (K : PySem.W.Frag) (td te : TE) : TE := fun σ H Q => td σ H fun x H1 => ∃ (a : Addr) (kvs : List (List Nat × Str)), x = .ref a ∧ TabK P w K a kvs ∧ te σ H1 fun y H2 => ∃ (p : Addr) (ks : List Nat) (z : Str), y = .ref p ∧ H2 p = some (.tup (ks.map fun k : Nat => V.int (k : Int))) ∧
  (∃ i, kvs[i]? = some (ks, z) ∧ ∀ (j : Nat) (q : List Nat × Str), j < i → kvs[j]? = some q → q.1 ≠ ks) ∧ Q (.str z) H2
theorem numK_inj {a b : List Nat} (h : numK a = numK b) : a = b := by
  unfold numK at h
  injection h with h
  have g : ∀ {l m : List Nat}, (l.map fun k : Nat => NestedKey.num (k : Int)) = (m.map fun k : Nat => NestedKey.num (k : Int)) → l = m := by
    intro l
    induction l with
    | nil =>
      intro m e
      cases m with
      | nil => rfl
      | cons _ _ => cases e
    | cons a l ih =>
      intro m e
      cases m with
      | nil => cases e
      | cons b m =>
        rw [List.map_cons, List.map_cons] at e
        injection e with e1 e2
        injection e1 with e1
        have : a = b := by omega
        rw [this, ih e2]
  exact g h
theorem tab_find {ks : List Nat} {z : Str} : ∀ {kvs : List (List Nat × Str)} {ts : List Tok} {i : Nat}, ts.length = kvs.length → kvs[i]? = some (ks, z) → (∀ (j : Nat) (q : List Nat × Str), j < i → kvs[j]? = some q → q.1 ≠ ks) →
    ∃ t : Tok, valueAt ((kvs.zip ts).map fun x => (numK x.1.1, Value.str x.1.2 x.2)) (numK ks) = some (Value.str z t)
  | [], _, i, _, h, _ => by simp at h
  | _ :: _, [], _, hl, _, _ => by simp at hl
  | (k0, z0) :: kvs, t0 :: ts, 0, _, h, _ => by
    have e := Option.some.inj h
    cases e
    exact ⟨t0, by simp [valueAt]⟩
  | (k0, z0) :: kvs, t0 :: ts, i + 1, hl, h, hn => by
    have ne : k0 ≠ ks := hn 0 (k0, z0) (Nat.succ_pos _) rfl
    have ne2 : ¬ numK k0 = numK ks := fun e => ne (numK_inj e)
    obtain ⟨t, e⟩ := tab_find (ks := ks) (z := z) (kvs := kvs) (ts := ts) (i := i) (by simpa using hl) (by simpa using h) fun j q hj hq => hn (j + 1) q (by omega) (by simpa using hq)
    refine ⟨t, ?_⟩
    unfold valueAt at e ⊢
    rw [List.zip_cons_cons, List.map_cons, List.find?_cons_of_neg (by simpa using ne2)]
    exact e
theorem pe_tabGet {X : Cx} {o e : Expr} {td te : TE} {apos cpos : Pos} (hu : X.A.units + 64 < cLine) (ho : PE X o td) (he : PE X e te) (m : M1 X o "get" apos e cpos) : PE X (.Call (.Attribute o "get" apos) [e] [] cpos) (tTabGet X.prog X.w X.K td te) := by
  refine ⟨fun pins s σ H Q I h => ?_⟩
  refine wpAny_Call_method m.base m.few m.line PySem.F.plainAttrs_dict PySem.F.slot_dict_get PySem.F.type_dict_get (thn (ho.run pins s σ H _ I h) fun u s1 ⟨x, H1, I1, rx, a, kvs, ex, ⟨hsm, ts, hT⟩, q1⟩ => ?_)
  subst ex
  obtain rfl : u = Value.ref a := rx
  obtain ⟨hD, _⟩ := hT _ I1.kIn
  have hD' := hD
  obtain ⟨xs, ⟨ob, es, ep, hob, hcl, hdat, _⟩, _⟩ := hD'
  refine ⟨hD.typeIs, fun b q => by cases q; exact ⟨ob, hob, hcl.2.1⟩, ?_⟩
  rw [m.trees]
  refine Calls.callWith_builtin rfl (Calls.evalArgs_plain (Calls.spliced_cons (thn (he.run pins s1 σ H1 _ I1 q1) fun iv s2 ⟨y, H2, I2, ry, p, ks, z, ey, hp, ⟨i, hi, hlt⟩, q2⟩ => Calls.spliced_nil ?_)))
  subst ey
  obtain rfl : iv = Value.ref p := ry
  obtain ⟨_, its, rv, ot, h1, h2, n, h3⟩ := (show ObjOk X.prog X.w H2 s2.heap p (.tup (ks.map fun k : Nat => V.int (k : Int))) from I2.hok p _ hp)
  obtain ⟨hD2, hlen⟩ := hT _ I2.kIn
  obtain ⟨t, ht⟩ := tab_find hlen hi hlt
  have hk : (nestedKind X.prog X.w).is s2.heap (numK ks) p := ⟨.tup h1 h2 h3 (by simpa using numAll_of (h := s2.heap) rv), numK_depth ks⟩
  refine get_keyed (knd := nestedKind X.prog X.w) (show X.A.in1.units + 8 < cLine by show X.A.units + 1 + 8 < cLine; omega) hk hsm hD2 ?_
  rw [ht]
  exact ⟨.str z, H2, I2.tok _, ⟨t, rfl⟩, q2⟩
/-! ### list(d.values()), list(d.keys()) -/
def tListVals (te : TE) : TE := fun σ H Q => te σ H fun x H1 => ∃ (d : Addr) (kvs : List (Key × V)), x = .ref d ∧ H1 d = some (.dK kvs) ∧ ∀ p, H1 p = none → Q (.ref p) (upd H1 p (.lst (kvs.map (·.2))))
def tListKeys (te : TE) : TE := fun σ H Q => te σ H fun x H1 => ∃ (d : Addr) (kvs : List (Key × V)), x = .ref d ∧ H1 d = some (.dK kvs) ∧ ∀ p, H1 p = none → Q (.ref p) (upd H1 p (.lst (kvs.map fun kv => kV kv.1)))
theorem vals_items {P : Nat → Value → Prop} : ∀ {xs : List V} {us : List Value} (k : Nat), us.length = xs.length → (∀ j v, us[j]? = some v → P (k + j) v) → (∀ j x v, xs[j]? = some x → P (k + j) v → RelV x v) → Vals xs us
  | [], [], _, _, _, _ => .nil
  | [], _ :: _, _, h, _, _ => by simp at h
  | _ :: _, [], _, h, _, _ => by simp at h
  | x :: xs, u :: us, k, h, h1, h2 => .cons (h2 0 x u rfl (h1 0 u rfl)) (vals_items (P := P) (k + 1) (by simpa using h) (fun j v e => by
      have := h1 (j + 1) v (by simpa using e)
      rw [show k + (j + 1) = k + 1 + j by omega] at this
      exact this) fun j y v e p => h2 (j + 1) y v (by simpa using e) (by rw [show k + (j + 1) = k + 1 + j by omega]; exact p))
section
variable {X : Cx} {e : Expr} {te : TE} {p apos cpos pos : Pos}
theorem pe_listVals (hc : X.calm = true) (he : PE X e te) (hg : Gl X "list") (hm : X.mg "list" = none) (hbase : attributeBase e "values" X.env (eval e X.env) = eval e X.env := by rfl) (hline : (apos.endLine == cpos.line) = true := by rfl)
    (hs : starEach [.Call (.Attribute e "values" apos) [] [] cpos] X.env = (false, eval (.Call (.Attribute e "values" apos) [] [] cpos) X.env) :: starEach [] X.env := by rfl) :
    PE X (.Call (.Name "list" p) [.Call (.Attribute e "values" apos) [] [] cpos] [] pos) (tListVals te) := by
  refine ⟨fun pins s σ H Q I hq => ?_⟩
  refine wpAny_Call_Name_kw (ld_blt I hg hm (by decide +kernel : bootBuiltins "list" = some (.type "list")) ?_)
  refine PyProof.Rows.callWith_type1 ?_ hs rfl
  rw [hs]
  show wpAny _ _ (spliced ((false, eval (.Call (.Attribute e "values" apos) [] [] cpos) X.env) :: backTo pos (starEach [] X.env))) _ _ s
  refine Calls.spliced_cons ?_
  refine wpAny_Call_method (T := "dict") (id := "dict.values") hbase rfl hline F.plainAttrs_dict F.slot_dict_values F.type_dict_values (thn (he.run pins s σ H _ I hq) fun u s1 ⟨x, H1, I1, rx, d, kvs, ex, hd, q⟩ => ?_)
  subst ex
  obtain rfl : u = Value.ref d := rx
  obtain ⟨hz, hs0, vs, kv, hdo⟩ := I1.hok d _ hd
  obtain ⟨ep, hat⟩ := hdo.dictAt
  have lk : kvs.length = vs.length := Paired.length kv
  refine ⟨hdo.typeIs, hdo.mapOf.noDict, ?_⟩
  show wpAny _ _ (callWith cpos (.builtin "dict.values") [.ref d] [] []) _ X.xe s1
  refine method_meetsIn F.slot_dict_values F.entry_dict_values rfl (PySem.evalArgs_none ⟨rfl, hdo.typeIs, F.args_dict_values_1 _, _, meets_dict_values (mixKind X.prog X.w) d hs0, ⟨vs, hdo⟩, ?_⟩)
  refine Calls.spliced_nil ?_
  refine PySem.W.kdl_call (PySem.W.kdl_values (knd := mixKind X.prog X.w) (kvs := vs) (ep := ep) (r := s1.heap.objs.size)) (I1.ok.hd hc) ⟨⟨_, Heap.get?_push_size _ rfl, rfl, rfl⟩, hat.push _⟩ (by omega) fun h' tk acc c hk hS hI => ?_
  have keep : ∀ b o, s1.heap.get? b = some o → h'.get? b = some o := fun b o z => hk b o (Heap.get?_push_of_some _ z)
  have hl : acc.toList.length = (kvs.map (·.2)).length := by rw [Array.length_toList, List.length_map, hI.1]; omega
  have rv : Vals (kvs.map (·.2)) acc.toList := vals_items (P := fun i v => ∃ k, vs[i]? = some (k, v)) 0 hl (fun j v z => by rw [Nat.zero_add]; exact hI.2 j v (by rw [← Array.getElem?_toList]; exact z)) fun j y v z ⟨k, w'⟩ => by
    rw [Nat.zero_add] at w'
    obtain ⟨q0, g1, g2⟩ : ∃ q0, kvs[j]? = some q0 ∧ y = q0.2 := by
      rw [List.getElem?_map] at z
      cases h : kvs[j]? with
      | none => rw [h] at z; cases z
      | some q0 => rw [h] at z; exact ⟨q0, rfl, (Option.some.inj z).symm⟩
    obtain ⟨pk, e2, e3⟩ := LiI.paired_get kv g1
    rw [w'] at e2
    cases e2
    rw [g2]
    exact e3.2
  refine ⟨.ref _, upd H1 _ (.lst (kvs.map (·.2))), I1.laid (t' := tk) keep (Nat.le_succ _ |> fun z => by rw [Heap.size_push]; exact z) ⟨by rw [List.length_map]; omega, acc.toList, c, rv, by simpa using hS⟩, rfl, q _ (I1.hok.fresh (by rw [Heap.size_push]; exact Nat.le_succ _))⟩
theorem pe_listKeys (hc : X.calm = true) (he : PE X e te) (hg : Gl X "list") (hm : X.mg "list" = none) (hbase : attributeBase e "keys" X.env (eval e X.env) = eval e X.env := by rfl) (hline : (apos.endLine == cpos.line) = true := by rfl)
    (hs : starEach [.Call (.Attribute e "keys" apos) [] [] cpos] X.env = (false, eval (.Call (.Attribute e "keys" apos) [] [] cpos) X.env) :: starEach [] X.env := by rfl) :
    PE X (.Call (.Name "list" p) [.Call (.Attribute e "keys" apos) [] [] cpos] [] pos) (tListKeys te) := by
  refine ⟨fun pins s σ H Q I hq => ?_⟩
  refine wpAny_Call_Name_kw (ld_blt I hg hm (by decide +kernel : bootBuiltins "list" = some (.type "list")) ?_)
  refine PyProof.Rows.callWith_type1 ?_ hs rfl
  rw [hs]
  show wpAny _ _ (spliced ((false, eval (.Call (.Attribute e "keys" apos) [] [] cpos) X.env) :: backTo pos (starEach [] X.env))) _ _ s
  refine Calls.spliced_cons ?_
  refine wpAny_Call_method (T := "dict") (id := "dict.keys") hbase rfl hline F.plainAttrs_dict F.slot_dict_keys F.type_dict_keys (thn (he.run pins s σ H _ I hq) fun u s1 ⟨x, H1, I1, rx, d, kvs, ex, hd, q⟩ => ?_)
  subst ex
  obtain rfl : u = Value.ref d := rx
  obtain ⟨hz, hs0, vs, kv, hdo⟩ := I1.hok d _ hd
  obtain ⟨ep, hat⟩ := hdo.dictAt
  have lk : kvs.length = vs.length := Paired.length kv
  refine ⟨hdo.typeIs, hdo.mapOf.noDict, ?_⟩
  show wpAny _ _ (callWith cpos (.builtin "dict.keys") [.ref d] [] []) _ X.xe s1
  refine method_meetsIn F.slot_dict_keys F.entry_dict_keys rfl (PySem.evalArgs_none ⟨rfl, hdo.typeIs, F.args_dict_keys_1 _, _, PySem.W.kdl_meets_keys (mixKind X.prog X.w) d hs0, ⟨vs, hdo⟩, ?_⟩)
  refine Calls.spliced_nil ?_
  refine PySem.W.kdl_call (PySem.W.kdl_keys (knd := mixKind X.prog X.w) (kvs := vs) (ep := ep) (r := s1.heap.objs.size)) (I1.ok.hd hc) ⟨⟨_, Heap.get?_push_size _ rfl, rfl, rfl⟩, hat.push _⟩ (by omega) fun h' tk acc c hk hS hI => ?_
  have keep : ∀ b o, s1.heap.get? b = some o → h'.get? b = some o := fun b o z => hk b o (Heap.get?_push_of_some _ z)
  have hl : acc.toList.length = (kvs.map fun kv => kV kv.1).length := by rw [Array.length_toList, List.length_map, hI.1]; omega
  have rv : Vals (kvs.map fun kv => kV kv.1) acc.toList := vals_items (P := fun i v => ∃ k x, vs[i]? = some (k, x) ∧ (mixKind X.prog X.w).is k v = true) 0 hl (fun j v z => by rw [Nat.zero_add]; exact hI.2 j v (by rw [← Array.getElem?_toList]; exact z)) fun j y v z ⟨k, x, w', w2⟩ => by
    rw [Nat.zero_add] at w'
    obtain ⟨q0, g1, g2⟩ : ∃ q0, kvs[j]? = some q0 ∧ y = kV q0.1 := by
      rw [List.getElem?_map] at z
      cases h : kvs[j]? with
      | none => rw [h] at z; cases z
      | some q0 => rw [h] at z; exact ⟨q0, rfl, (Option.some.inj z).symm⟩
    obtain ⟨pk, e2, e3⟩ := LiI.paired_get kv g1
    rw [w'] at e2
    cases e2
    rw [g2]
    rw [e3.1]
    exact relV_key (show keyIs k v = true from w2)
  refine ⟨.ref _, upd H1 _ (.lst (kvs.map fun kv => kV kv.1)), I1.laid (t' := tk) keep (Nat.le_succ _ |> fun z => by rw [Heap.size_push]; exact z) ⟨by rw [List.length_map]; omega, acc.toList, c, rv, by simpa using hS⟩, rfl, q _ (I1.hok.fresh (by rw [Heap.size_push]; exact Nat.le_succ _))⟩
end
end L2

namespace SrtO
open PySem PyProof.Rows PySem.W
/-- a tuple of two ints and an object -/
def IsRow (h : Heap) (v : Value) (x : Int) : Prop := ∃ a o t y u c n, v = .ref a ∧ h.get? a = some o ∧ o.cls = .type "tuple" ∧ o.data = .seq #[.int x t, .int y u, .ref c] n
theorem IsRow.keeps {h h' : Heap} {v : Value} {x : Int} (p : IsRow h v x) (k : ∀ b o, h.get? b = some o → o.cls = .type "tuple" → h'.get? b = some o) : IsRow h' v x := by
  obtain ⟨a, o, t, y, u, c, n, e, ho, hc, hd⟩ := p
  exact ⟨a, o, t, y, u, c, n, e, k _ _ ho hc, hc, hd⟩
theorem row_firsts {h : Heap} : ∀ {vs : List Value}, (∀ v ∈ vs, ∃ x, IsRow h v x) → ∃ fs : List Value, PySem.W.KatTups h vs fs ∧ fs.length = vs.length ∧ ∀ f ∈ fs, ∃ x t, f = Value.int x t
  | [], _ => ⟨[], PySem.W.KatTups.nil, rfl, fun _ hm => by simp at hm⟩
  | v :: vs, hv => by
    obtain ⟨fs, h1, h2, h3⟩ := row_firsts (h := h) (vs := vs) fun w hw => hv w (List.mem_cons_of_mem _ hw)
    obtain ⟨x, a, o, t, y, u, c, n, e, ho, hc, hd⟩ := hv v List.mem_cons_self
    subst e
    refine ⟨.int x t :: fs, .cons ho hc hd rfl h1, by simp [h2], fun f hf => ?_⟩
    rcases List.mem_cons.mp hf with e | hf
    · exact ⟨x, t, e⟩
    · exact h3 f hf
theorem swo_key (k : Value → Int) : Swo fun v u => decide (k v < k u) := by
  refine ⟨fun x y h => ?_, fun x y z h1 h2 => ?_⟩
  · have a := of_decide_eq_true h
    exact decide_eq_false (by omega)
  · have a := of_decide_eq_false h1
    have b := of_decide_eq_false h2
    exact decide_eq_false (by omega)
section
variable {prog : Program} {w : World} {A : Around} {E : Value → Shared → Prop} {s : Shared}
theorem row_cmp {vs : List Value} {k : Value → Int} (hp : ∀ v ∈ vs, IsRow s.heap v (k v)) (hi : ∀ v ∈ vs, ∀ u ∈ vs, k v = k u → v = u) : Cmp prog w A s (tuples' true) (fun p => p.1 ∈ vs) (lt2 fun v u => decide (k v < k u)) := by
  intro p q hm hm'
  have h1 := hp _ hm
  have h2 := hp _ hm'
  have h3 := hi _ hm _ hm'
  show wpAny (model prog w) A (keyLt' (tuples' true) p.1 q.1) (fun r s' => s' = s ∧ r = decide (k p.1 < k q.1)) (fun _ _ => False) s
  generalize k p.1 = x at h1 h3 ⊢
  generalize k q.1 = x' at h2 h3 ⊢
  obtain ⟨a, o, t, y, u, c, n, e, ho, hc, hd⟩ := h1
  obtain ⟨a', o', t', y', u', c', n', e', ho', hc', hd'⟩ := h2
  rw [e, e'] at h3 ⊢
  refine PySem.W.kat_lt ho hd ho' hd' ?_
  show PySem.W.KatLex prog w A true (decide (3 < 3)) _ [(.int x t, .int x' t'), (.int y u, .int y' u'), (.ref c, .ref c')] 0 s
  refine PySem.W.kat_cons (SeqAt.EqAt.int_int x t x' t' prog w _ _ ?_)
  refine PySem.W.kat_go (fun e1 => ?_) (fun e1 => ?_)
  · have ex : x = x' := by simpa using e1
    have ea : a = a' := Value.ref.inj (h3 ex)
    subst ea
    rw [ho] at ho'
    have eo := Option.some.inj ho'
    subst eo
    rw [hd] at hd'
    injection hd' with ed _
    have ey : y = y' := by
      have z := congrArg (fun a : Array Value => a[1]?) ed
      simp at z
      exact z.1
    have ec : c = c' := by
      have z := congrArg (fun a : Array Value => a[2]?) ed
      simpa using z
    subst ec
    refine PySem.W.kat_yes (PySem.W.kat_cons (SeqAt.EqAt.int_int y u y' u' prog w _ _ ?_))
    refine PySem.W.kat_go (fun e2 => ?_) (fun e2 => ?_)
    · refine PySem.W.kat_yes (PySem.W.kat_cons (SeqAt.EqAt.same (.ref c) prog w _ _ ?_))
      refine PySem.W.kat_go (fun _ => ?_) (fun z => nomatch z)
      refine PySem.W.kat_yes (PySem.W.kat_nil ⟨rfl, ?_⟩)
      rw [ex]
      exact (decide_eq_false (by omega)).symm
    · exact absurd ey (by simpa using e2)
  · have ex : ¬ x = x' := by simpa using e1
    exact PySem.W.kat_no (oneLt_int ⟨rfl, rfl⟩)
theorem rows_sortableO {a : Addr} {vs : List Value} {k : Value → Int} (h0 : 0 < vs.length) (hp : ∀ v ∈ vs, IsRow s.heap v (k v)) (hi : ∀ v ∈ vs, ∀ u ∈ vs, k v = k u → v = u) (ha : ∀ o, s.heap.get? a = some o → o.cls ≠ .type "tuple") : SortableO prog w A s a vs fun v u => decide (k v < k u) := by
  intro h' keep
  have hp' : ∀ v ∈ vs, IsRow h' v (k v) := fun v hm => (hp v hm).keeps fun b o e c => keep b o (fun z => by subst z; exact ha o e c) e
  obtain ⟨fs, h1, h2, h3⟩ := row_firsts fun v hm => ⟨_, hp' v hm⟩
  refine ⟨tuples' true, fun Q E hq => ?_, row_cmp hp' hi⟩
  refine PySem.W.kat_kind (T := .type "int") h1 (by omega) (fun f hm => ?_) (by rfl) ?_
  · obtain ⟨x, t, rfl⟩ := h3 f hm
    exact PySem.W.Looks.now
  · have e : (Value.type "int" != Value.type "tuple") = true := by first | decide +kernel | rfl | decide
    rw [e]
    exact hq
theorem sorted_rowsO {l : Addr} {vs : List Value} {k : Value → Int} {Q : Value → Shared → Prop} (hl : s.heap.IsList l vs.toArray) (hz : vs.length ≤ sizeLine) (hp : ∀ v ∈ vs, IsRow s.heap v (k v)) (hi : ∀ v ∈ vs, ∀ u ∈ vs, k v = k u → v = u)
    (h : ∀ (h' : Heap) (d : Addr) (out : List Value), Srtd (fun v u => decide (k v < k u)) out → Stb (fun v u => decide (k v < k u)) out vs → (∀ b o, s.heap.get? b = some o → h'.get? b = some o) → s.heap.objs.size ≤ d → (∃ n, h'.get? d = some (seqObj "list" out.toArray n)) → Q (.ref d) { s with heap := h' }) :
    wpAny (model prog w) A (call (.builtin "sorted") [.ref l]) Q E s := by
  refine sorted_ord (swo_key k) hl hz (fun h2 h₁ a ha kk => ?_) fun out hs hb => ?_
  · refine rows_sortableO (s := { s with heap := h₁ }) (by omega) (fun v hm => (hp v hm).keeps fun b o e _ => (kk b o e).2) hi fun o e => ?_
    have e' : some o = some (seqObj "list" vs.toArray 0) := e.symm.trans ha
    cases e'
    intro c
    exact absurd (Value.type.inj c) (by decide)
  · exact h _ _ out hs hb (fun b o e => sortedAll_old e) (Nat.le_succ _) (sortedAll_at s.heap vs out.toArray)
end
end SrtO
namespace L2
open PySem PySem.Spec PyProof.Rows
def rSortedR (K : PySem.W.Frag) : List V → Hp → VK → Prop := fun vs H Q => ∃ (a : Addr) (rs : List Addr) (k : Addr → Int), vs = [V.ref a] ∧ SqL K H a (rs.map V.ref) ∧ (∀ r ∈ rs, ∃ (y : Int) (c : Addr), H r = some (.tup [.int (k r), .int y, .ref c])) ∧
  (∀ r ∈ rs, ∀ r' ∈ rs, k r = k r' → r = r') ∧ ∀ (rs' : List Addr) (p : Addr), rs'.Perm rs → rs'.Pairwise (fun a b => k a ≤ k b) → H p = none → Q (.ref p) (upd H p (.lst (rs'.map V.ref)))
theorem vals_refs_eq : ∀ {rs : List Addr} {us : List Value}, Vals (rs.map V.ref) us → us = rs.map Value.ref
  | [], _, r => by cases r; rfl
  | a :: rs, _, r => by
    cases r with
    | cons r1 r2 =>
      rw [vals_refs_eq r2]
      cases r1
      rfl
def addrV : Value → Addr
  | .ref a => a
  | _ => 0
theorem cr_sortedR {X : Cx} : CallR X (.builtin "sorted") (rSortedR X.K) := by
  intro pins s σ H vs us Q I r h
  obtain ⟨a, rs, k, rfl, hs, hx, hi, q⟩ := h
  obtain ⟨its, rv, hl, hz⟩ := I.list hs
  obtain ⟨u, rfl, ru⟩ := vals1 r
  obtain rfl : u = Value.ref a := ru
  have ei := vals_refs_eq rv
  subst ei
  refine SrtO.sorted_rowsO (k := fun u => k (addrV u)) hl.isList (by rw [List.length_map] at *; exact hz) (fun v hv => ?_) (fun v hv u hu e => ?_) fun h' d out h1 h2 kp hd hn => ?_
  · obtain ⟨t, ht, rfl⟩ := List.mem_map.mp hv
    obtain ⟨y, c, e⟩ := hx t ht
    obtain ⟨_, its2, r2, o, ho, hc, n, hdt⟩ := (show ObjOk X.prog X.w H s.heap t (.tup [.int (k t), .int y, .ref c]) from I.hok _ _ e)
    cases r2 with
    | cons a1 r2 =>
      cases r2 with
      | cons a2 r2 =>
        cases r2 with
        | cons a3 r2 =>
          cases r2
          obtain ⟨t1, rfl⟩ := a1
          obtain ⟨t2, rfl⟩ := a2
          cases a3
          exact ⟨t, o, t1, y, t2, c, n, rfl, ho, hc, hdt⟩
  · obtain ⟨t, ht, rfl⟩ := List.mem_map.mp hv
    obtain ⟨t', ht', rfl⟩ := List.mem_map.mp hu
    rw [hi t ht t' ht' e]
  · obtain ⟨n, hn⟩ := hn
    have hp := h2.perm
    have eo : out = (out.map addrV).map Value.ref := by
      rw [List.map_map]
      have : ∀ u ∈ out, Value.ref (addrV u) = u := fun u hu => by
        obtain ⟨t, _, rfl⟩ := List.mem_map.mp (hp.mem_iff.mp hu)
        rfl
      conv => lhs; rw [← List.map_id out]
      exact List.map_congr_left fun u hu => (this u hu).symm
    have hp2 : (out.map addrV).Perm rs := by
      have z := hp.map addrV
      rw [List.map_map] at z
      have id : (rs.map (addrV ∘ Value.ref)) = rs := by
        conv => rhs; rw [← List.map_id rs]
        rfl
      rw [id] at z
      exact z
    have hs2 : (out.map addrV).Pairwise (fun a b => k a ≤ k b) := by
      rw [List.pairwise_map]
      refine List.Pairwise.imp (fun {a b} h => ?_) h1
      have := of_decide_eq_false h
      omega
    refine ⟨.ref d, upd H d (.lst ((out.map addrV).map V.ref)), I.laid (t' := s.toks) kp hd ⟨?_, out, n, ?_, hn⟩, rfl, q _ d hp2 hs2 (I.hok.fresh hd)⟩
    · rw [List.length_map, hp2.length_eq]
      rw [List.length_map] at hz
      exact hz
    · rw [eo]
      have g : ∀ l : List Addr, Vals (l.map V.ref) (l.map Value.ref) := fun l => by
        induction l with
        | nil => exact .nil
        | cons a l ih => exact .cons rfl ih
      rw [← eo]
      conv => arg 2; rw [eo]
      exact g _
/-- list.index within a comprehension -/
theorem pe_indexK {X : Cx} {K : PySem.W.Frag} (h : X.K = K) {o e : Expr} {to te : TE} {apos cpos : Pos} (p : PE X (.Call (.Attribute o "index" apos) [e] [] cpos) (tBM X.K "list" (rIndex X.K) to (tCons te tNil))) : PE X (.Call (.Attribute o "index" apos) [e] [] cpos) (tBM K "list" (rIndex K) to (tCons te tNil)) := by
  subst h
  exact p
theorem op_notInK {X : Cx} {K : PySem.W.Frag} (h : X.K = K) : OpR X (compareOp .NotIn) (rIn K true) := by
  subst h
  exact op_notIn_seq
end L2

namespace L2
open PySem PySem.Spec PyProof.Rows
section
variable {X : Cx}
/-- a name of the def's own, on the line of the comprehension: stored within its frame -/
theorem swd_true {kx vx : Expr} {gs : List Comprehension} {scope : Scope} {pos py : Pos} {y : Str} {l : Nat} {env : Env} (e1 : env.scope.kind = .function) (e2 : env.scope.names.lookup y = some .local) (e3 : (py.line == pos.line) = true)
    (e4 : (scope.names.any fun (n, k) => n == y && (k == .local || k == .cell)) = false) : swapsWith (.DictComp kx vx gs scope pos) (some (.Name y py)) l env = pure true := by
  have a1 : env.kindOf y = some .local := e2
  have a2 : env.blockKind = .function := (by unfold Env.blockKind; rw [e1]; rfl)
  unfold swapsWith
  simp only [a2, a1, e4, Expr.pos, e3]
  rfl
/-- y = {k: v for x in xs} -/
theorem ps_setDc {i : Nat} {y : Str} {py pos spos : Pos} {kx vx tg iter : Expr} {ifs : List Expr} {scope : Scope} {own : List (Str × Nat)} {wi : TI} {g : TG} {tt : TT} {tk tv : TE} (calm : X.calm = true) (nd : X.N.Nodup) (at_y : X.N[i]? = some y) (loc : X.env.scope.names.lookup y = some .local)
    (sw : swapsWith (.DictComp kx vx [⟨tg, iter, ifs, 0⟩] scope pos) (some (.Name y py)) spos.line X.env = pure true) (walk : PI X tg iter wi) (ok : BlkOk X.N X.env.scope scope own)
    (rg : ∀ (s : Shared) (H : Hp) (C : Addr) (cl : List (Str × Addr)) (fp : List Addr), PG (X.blk s H scope (compEnvC scope cl C X.env) fp) tg g)
    (rt : ∀ (s : Shared) (H : Hp) (C : Addr) (cl : List (Str × Addr)) (fp : List Addr), PTs (X.blk s H scope (compEnvC scope cl C X.env) fp) ifs tt)
    (rk : ∀ (s : Shared) (H : Hp) (C : Addr) (cl : List (Str × Addr)) (fp : List Addr), PE (X.blk s H scope (compEnvC scope cl C X.env) fp) kx tk)
    (rv : ∀ (s : Shared) (H : Hp) (C : Addr) (cl : List (Str × Addr)) (fp : List Addr), PE (X.blk s H scope (compEnvC scope cl C X.env) fp) vx tv)
    (fold : ∀ x, foldedSetIterable iter X.env x = pure x := by intro _; rfl) :
    PS X (.Assign [.Name y py] (.DictComp kx vx [⟨tg, iter, ifs, 0⟩] scope pos) spos) (tAsg (tDc wi g tt tk tv (own.map (·.2))) (gName i)) := by
  constructor
  intro pins s σ H D I q
  have q : tDc wi g tt tk tv (own.map (·.2)) σ H (fun x H1 => gName i x σ H1 D.nx) := q
  rw [exec_Assign_Name_used _ _ _ _ sw]
  apply wpAny_bind
  apply wpAny_standAt
  apply wpAny_bind
  show wpAny _ X.A (do let _ ← comprehension (.DictComp kx vx [⟨tg, iter, ifs, 0⟩] scope pos) scope X.env (firstIterPos [⟨tg, iter, ifs, 0⟩] pos) newDict false (eval iter X.env) (some (assign (.Name y py) X.env))) _ _ s
  apply wpAny_bind
  refine thn (dc_core (Qf := fun _ s' => SP X pins D .next s') calm nd I walk ok rg rt rk rv fold q ?_) fun _ _ z => wpAny_pure (wpAny_pure z)
  intro d c t n H2 J nx ns fr
  show wpAny _ _ (assign (.Name y py) X.env (.ref d)) _ _ _
  refine wpAny_assign_Name (store_ok2 (v := V.ref d) J nd at_y (.inl loc) rfl ?_ (.inr loc))
  rintro u JU ⟨b, same, which⟩
  obtain ⟨r0, r1, r2, r3, r4, r5⟩ := fr
  have far : c ≠ b := by
    cases which with
    | inl z => exact z ▸ r1
    | inr z => exact fun e => r4 y b z e.symm
  exact ⟨n, ns.sameBut same far, fun _ rest => ⟨_, H2, JU.turned (t' := u.toks) (fun a o ha e => (rest.2 a ha).trans e) r0 r1 r3 r4 r5, nx⟩⟩
end
end L2

namespace SrtO
open PySem PyProof.Rows Srt
section
variable {prog : Program} {w : World} {A : Around} {E : Value → Shared → Prop} {s : Shared}
/-- the heap with the items of a tuple in a new list -/
def gath (h : Heap) (its : List Value) : Heap := (h.push (seqObj "list" #[] 0)).update h.objs.size (Obj.mapSeq (· ++ its.toArray))
theorem gath_at (h : Heap) (its : List Value) : ∃ k, (gath h its).get? h.objs.size = some (seqObj "list" its.toArray k) := by
  have e := get?_update_seq (c := "list") (xs := #[]) (n := 0) (Heap.get?_push_size h rfl) (· ++ its.toArray)
  rw [Array.empty_append] at e
  exact ⟨_, e⟩
theorem gath_old {h : Heap} {its : List Value} {b : Addr} {o : Obj} (e : h.get? b = some o) : (gath h its).get? b = some o := by
  unfold gath
  rw [Heap.get?_update_ne _ _ _ _ (Nat.ne_of_lt (Heap.lt_size e))]
  exact Heap.get?_push_of_some _ e
theorem gath_size (h : Heap) (its : List Value) : (gath h its).objs.size = h.objs.size + 1 := by
  unfold gath
  rw [Heap.size_update, size_push']
theorem gather_tup {t : Addr} {o : Obj} {its : List Value} {k : Nat} {Q : List Value → Shared → Prop} (there : s.heap.get? t = some o) (cls : o.cls = .type "tuple") (dat : o.data = .seq its.toArray k) (few : its.length ≤ sizeLine)
    (next : Q its { s with heap := gath s.heap its }) : wpAny (model prog w) A (collect (.ref t)) Q E s := by
  have there' : (s.heap.push (seqObj "list" #[] 0)).get? t = some o := Heap.get?_push_of_some _ there
  have new0 : (s.heap.push (seqObj "list" #[] 0)).get? s.heap.objs.size = some (seqObj "list" #[] 0) := Heap.get?_push_size _ rfl
  unfold collect
  apply wpAny_bind
  refine wpAny_runValue (codeAny_builtin entry_proto_collect' ?_)
  show wpAny _ _ (newList [] >>= fun l => again (.builtin "list.__iadd__" ⟨[l, .ref t], []⟩)) _ _ s
  apply wpAny_bind
  refine wpAny_newList (wpAny_pure ⟨Code.quiet_builtin _ (by decide +kernel), codeAny_builtin entry_list_iadd' ?_⟩)
  show wpAny _ _ (Builtin.List.listExtendWith (.ref s.heap.objs.size) (.ref t) (.ref s.heap.objs.size)) _ _ { s with heap := s.heap.push (seqObj "list" #[] 0) }
  unfold Builtin.List.listExtendWith
  apply wpAny_bind
  refine wpAny_typeOf (T := "tuple") ⟨o, there', cls⟩ ?_
  have isT : (Value.type "tuple" == Value.type "tuple") = true := by rfl
  rw [if_pos (by rw [isT]; simp)]
  refine wpAny_bind (listItems_at there' dat ?_)
  refine wpAny_bind (listItems_at new0 rfl ?_)
  rw [if_neg (by simp)]
  refine wpAny_bind (listUpdate_at new0 rfl ?_ (Nat.zero_le _) (by show (#[] ++ its.toArray).size ≤ sizeLine + 1; simp only [Array.size_append, List.size_toArray, List.length_nil]; omega))
  refine wpAny_pure ?_
  obtain ⟨k2, e⟩ := gath_at s.heap its
  show wpAny (model prog w) A (do
      let o ← load s.heap.objs.size
      match o.data with
      | .seq xs _ => pure xs.toList
      | _ => unsupported "internal:collect") Q E { s with heap := gath s.heap its }
  exact wpAny_bind (wpAny_load e (wpAny_pure next))
/-- sorted(t), t a tuple of ints -/
theorem sorted_tupI {t : Addr} {o : Obj} {its : List Value} {ns : List Int} {k : Nat} {Q : Value → Shared → Prop} (I : IntsAre its ns) (there : s.heap.get? t = some o) (cls : o.cls = .type "tuple") (dat : o.data = .seq its.toArray k) (few : its.length ≤ sizeLine)
    (next : ∀ (out : List Value) (h' : Heap) (e : Nat), Srtd ltIv out → Stb ltIv out its → (∀ b u, s.heap.get? b = some u → h'.get? b = some u) → h'.get? (s.heap.objs.size + 1) = some (seqObj "list" out.toArray e) → Q (.ref (s.heap.objs.size + 1)) { s with heap := h' }) :
    wpAny (model prog w) A (call (.builtin "sorted") [.ref t]) Q E s := by
  refine Calls.call_function_entry kind_sorted plain_sorted entry_sorted (args_sorted1 _) ?_
  unfold Builtin.«sorted»
  refine wpAny_bind (m := checkCount "sorted" 1 1 _) (wpAny_pure ?_)
  refine wpAny_bind (gather_tup there cls dat few ?_)
  refine wpAny_bind (wpAny_newList ?_ few)
  show wpAny _ _ _ _ _ { s with heap := (gath s.heap its).push (seqObj "list" its.toArray 0) }
  have at_l : ((gath s.heap its).push (seqObj "list" its.toArray 0)).get? (gath s.heap its).objs.size = some (seqObj "list" its.toArray 0) := Heap.get?_push_size _ rfl
  refine wpAny_bind (wpAny_holding (wpAny_call_entry slot_list_sort ⟨_, at_l, rfl⟩ entry_list_sort (list_sort_ord swo_int at_l few (fun two => ints_sortable I two) fun out h1 h2 => ⟨_, rfl, ?_⟩) (args_list_sort _)))
  obtain ⟨e, he⟩ := sortedHeap_at (vs := its) (out := out.toArray) at_l
  rw [gath_size] at he ⊢
  refine wpAny_pure ⟨_, rfl, next out _ e h1 h2 (fun b u z => ?_) he⟩
  have lt : b < s.heap.objs.size := Heap.lt_size z
  rw [sortedHeap_old (Nat.ne_of_lt (Nat.lt_succ_of_lt lt)) (by rw [size_push', gath_size]; exact Nat.lt_succ_of_lt (Nat.lt_succ_of_lt lt))]
  exact Heap.get?_push_of_some _ (gath_old z)
end
end SrtO
namespace L2
open PySem PySem.Spec PyProof.Rows
def rSortedTI (K : PySem.W.Frag) : List V → Hp → VK → Prop := fun vs H Q => ∃ (a : Addr) (ns : List Int), vs = [V.ref a] ∧ SqT K H a (ns.map V.int) ∧ ∀ (ns' : List Int) (p : Addr), ns'.Perm ns → ns'.Pairwise (· ≤ ·) → H p = none → Q (.ref p) (upd H p (.lst (ns'.map V.int)))
theorem cr_sortedTI {X : Cx} : CallR X (.builtin "sorted") (rSortedTI X.K) := by
  intro pins s σ H vs us Q I r h
  obtain ⟨a, ns, rfl, hs, q⟩ := h
  obtain ⟨its, rv, ⟨o, ho, hc, k, hd⟩, hz⟩ := I.tuple hs
  rw [Vals.ref1 r]
  have hz' : ns.length ≤ sizeLine := by
    rw [List.length_map] at hz
    exact hz
  refine SrtO.sorted_tupI rv.ints ho hc hd (by rw [← rv.length]; exact hz) fun out h' e h1 h2 old new => ?_
  obtain ⟨k1, k2, k3⟩ := SrtO.ints_out rv.ints h1 h2
  exact ⟨.ref _, upd H (s.heap.objs.size + 1) (.lst ((out.map SrtO.iv).map V.int)), I.laid (t' := s.toks) old (Nat.le_succ _) ⟨by rw [List.length_map, k2.length_eq]; exact hz', out, e, vals_of_ints k1, new⟩, rfl, q _ _ k2 k3 (I.hok.fresh (Nat.le_succ _))⟩
end L2

namespace L2
open PySem PySem.Spec PyProof.Rows
section
variable {X : Cx} {st : Stmt} {rest : List Stmt} {t : TS}
/-- a statement behind which nothing is ever run -/
def tStop (t : TS) : TS := fun D σ H => t { D with nx := fun _ _ => False } σ H
theorem pss_stop (h1 : PS X st t) : PSs X (st :: rest) (tStop t) := by
  refine ⟨fun pins s σ H D I h => ?_⟩
  refine wpAny_execs_cons (thn (h1.run pins s σ H { D with nx := fun _ _ => False } I h) fun f s1 q => ?_)
  cases f with
  | next =>
    obtain ⟨σ', H', I', q⟩ := q
    exact False.elim q
  | ret v => exact q
  | brk => exact q
  | cont => exact q
end
end L2

namespace L2
open PySem PySem.Spec PyProof.Rows
/-- d.get(t) of a written table, whether the key is there or not -/
def tTabLook (P : Program) (w : World) (K : PySem.W.Frag) (td te : TE) : TE := fun σ H Q => td σ H fun x H1 => ∃ (a : Addr) (kvs : List (List Nat × Str)), x = .ref a ∧ TabK P w K a kvs ∧ te σ H1 fun y H2 => ∃ (p : Addr) (ks : List Nat), y = .ref p ∧ H2 p = some (.tup (ks.map fun k : Nat => V.int (k : Int))) ∧
  (∀ q, (kvs.find? fun q => decide (q.1 = ks)) = some q → Q (.str q.2) H2) ∧ ((kvs.find? fun q => decide (q.1 = ks)) = none → Q .non H2)
theorem tab_look {ks : List Nat} : ∀ {kvs : List (List Nat × Str)} {ts : List Tok}, ts.length = kvs.length →
    (∀ q, (kvs.find? fun q => decide (q.1 = ks)) = some q → ∃ t : Tok, valueAt ((kvs.zip ts).map fun x => (numK x.1.1, Value.str x.1.2 x.2)) (numK ks) = some (Value.str q.2 t)) ∧
    ((kvs.find? fun q => decide (q.1 = ks)) = none → valueAt ((kvs.zip ts).map fun x => (numK x.1.1, Value.str x.1.2 x.2)) (numK ks) = none)
  | [], ts, _ => ⟨fun q h => by simp at h, fun _ => by simp [valueAt]⟩
  | _ :: _, [], hl => by simp at hl
  | (k0, z0) :: kvs, t0 :: ts, hl => by
    have ih := tab_look (ks := ks) (kvs := kvs) (ts := ts) (by simpa using hl)
    by_cases c : k0 = ks
    · subst c
      refine ⟨fun q h => ?_, fun h => ?_⟩
      · rw [List.find?_cons_of_pos (by simp)] at h
        cases Option.some.inj h
        exact ⟨t0, by simp [valueAt]⟩
      · rw [List.find?_cons_of_pos (by simp)] at h
        cases h
    · have ne2 : ¬ numK k0 = numK ks := fun e => c (numK_inj e)
      rw [List.find?_cons_of_neg (by simpa using c)]
      unfold valueAt at ih ⊢
      rw [List.zip_cons_cons, List.map_cons, List.find?_cons_of_neg (by simpa using ne2)]
      exact ih
theorem pe_tabLook {X : Cx} {o e : Expr} {td te : TE} {apos cpos : Pos} (hu : X.A.units + 64 < cLine) (ho : PE X o td) (he : PE X e te) (m : M1 X o "get" apos e cpos) : PE X (.Call (.Attribute o "get" apos) [e] [] cpos) (tTabLook X.prog X.w X.K td te) := by
  refine ⟨fun pins s σ H Q I h => ?_⟩
  refine wpAny_Call_method m.base m.few m.line PySem.F.plainAttrs_dict PySem.F.slot_dict_get PySem.F.type_dict_get (thn (ho.run pins s σ H _ I h) fun u s1 ⟨x, H1, I1, rx, a, kvs, ex, ⟨hsm, ts, hT⟩, q1⟩ => ?_)
  subst ex
  obtain rfl : u = Value.ref a := rx
  obtain ⟨hD, _⟩ := hT _ I1.kIn
  have hD' := hD
  obtain ⟨xs, ⟨ob, es, ep, hob, hcl, hdat, _⟩, _⟩ := hD'
  refine ⟨hD.typeIs, fun b q => by cases q; exact ⟨ob, hob, hcl.2.1⟩, ?_⟩
  rw [m.trees]
  refine Calls.callWith_builtin rfl (Calls.evalArgs_plain (Calls.spliced_cons (thn (he.run pins s1 σ H1 _ I1 q1) fun iv s2 ⟨y, H2, I2, ry, p, ks, ey, hp, q2, q3⟩ => Calls.spliced_nil ?_)))
  subst ey
  obtain rfl : iv = Value.ref p := ry
  obtain ⟨_, its, rv, ot, h1, h2, n, h3⟩ := (show ObjOk X.prog X.w H2 s2.heap p (.tup (ks.map fun k : Nat => V.int (k : Int))) from I2.hok p _ hp)
  obtain ⟨hD2, hlen⟩ := hT _ I2.kIn
  obtain ⟨f1, f2⟩ := tab_look (ks := ks) hlen
  have hk : (nestedKind X.prog X.w).is s2.heap (numK ks) p := ⟨.tup h1 h2 h3 (by simpa using numAll_of (h := s2.heap) rv), numK_depth ks⟩
  refine get_keyed (knd := nestedKind X.prog X.w) (show X.A.in1.units + 8 < cLine by show X.A.units + 1 + 8 < cLine; omega) hk hsm hD2 ?_
  cases hf : kvs.find? fun q => decide (q.1 = ks) with
  | some q =>
    obtain ⟨t, ht⟩ := f1 q hf
    rw [ht]
    exact ⟨.str q.2, H2, I2.tok _, ⟨t, rfl⟩, q2 q hf⟩
  | none =>
    rw [f2 hf]
    exact ⟨.non, H2, I2.tok _, rfl, q3 hf⟩
end L2

/-! exceptions whose context is known to be None: raised by defs, caught where the suite calls defs -/
namespace L2N
open PySem PySem.Spec PyProof.Rows L2
theorem takes0N {X : Cx} : Takes X (fun _ _ _ _ => False) := fun _ _ x => by
  obtain ⟨a, B, sI, pins, σ, H, cls, d, e, I, nb, up, sky, na, os, ag, w⟩ := x
  exact False.elim w
section
variable {X : Cx} {e : Expr} {es : List Expr} {ta : TA} {p pos : Pos}
/-- raise X(e, ..), own __init__: the new exception has no context -/
theorem pmk_oexN {CX : CXT} {x : Str} {C fI : Addr} {k : Nat} {fd : FuncData} {ps : List Str} {sp : Sp} (T : OexC X.K C) (iC : PySem.W.findIn X.K (.ref C) "__init__" = some (some (.ref fI))) (tI : PySem.W.typeIn X.K (.ref fI) = some (.type "function"))
    (F1 : FnOk X.prog X.w X.K X.mg X.base CX k fI fd ps sp) (hr : Room (k + 1) X.A) (hb : Binds X.K fd ps []) (hx : Passes CX X (fun _ _ _ => False)) (hg : Gl X x) (hm : X.mg x = some (.ref C)) (ha : PA X (e :: es) ta)
    (hdb : (x == ("__debug__" : Str)) = false := by decide) (he : starEach (e :: es) X.env = (false, eval e X.env) :: starEach es X.env := by rfl) (hpl : (backTo pos (starEach es X.env)).any (·.1) = false := by rfl) :
    PMk X (.Call (.Name x p) (e :: es) [] pos) (tMkO C sp [] ta) := by
  intro pins s σ H Q I h
  obtain ⟨c1, c2, c3, c4, c5, c6, c7, c8, c9, d0, d1, d2, d3, d4, d5, hC, hbm⟩ := T.cls
  refine wpAny_Call_Name_kw (ld_glob I hg hm ?_ hdb)
  refine PySem.W.callWith_K (h₀ := X.base) I.ok.mod.kin T.kC (thn (ha.run pos pins s σ H _ I h) fun us s1 ⟨vs, H1, I1, r1, hz, q1⟩ => ⟨I1.kIn, ?_⟩) he hpl
  show wpAny _ _ (call (.ref C) us) _ _ _
  obtain ⟨h1, g1, w1, k1, o1⟩ := s1
  have up1 : h1.objs.size ≤ h1.objs.size + 1 := Nat.le_succ _
  have fr : H1 (h1.objs.size + 1) = none := I1.hok.fresh up1
  have pr := q1 (h1.objs.size + 1) fr
  rw [List.append_nil] at pr
  have kp : ∀ b o, h1.get? b = some o → ((h1.push (PySem.W.kdv_tup us)).push (PySem.HandSPX.excO C h1.objs.size)).get? b = some o := fun b o z => Heap.get?_push_of_some _ (Heap.get?_push_of_some _ z)
  have ob : ((h1.push (PySem.W.kdv_tup us)).push (PySem.HandSPX.excO C h1.objs.size)).get? (h1.objs.size + 1) = some (PySem.HandSPX.excO C h1.objs.size) := by heap_get
  have J : Inv X pins σ (upd H1 (h1.objs.size + 1) (exo (h1.objs.size + 1) C none)) ⟨(h1.push (PySem.W.kdv_tup us)).push (PySem.HandSPX.excO C h1.objs.size), g1, w1, k1, o1⟩ :=
    I1.laid (t' := k1) (a := h1.objs.size + 1) (o := exo (h1.objs.size + 1) C none) (h' := (h1.push (PySem.W.kdv_tup us)).push (PySem.HandSPX.excO C h1.objs.size)) kp up1 (exo_ok ob)
  have rl : Vals (V.ref (h1.objs.size + 1) :: vs) (Value.ref (h1.objs.size + 1) :: us) := .cons rfl r1
  have ln : (Value.ref (h1.objs.size + 1) :: us).length = ps.length := by
    have z := rl.length
    rw [F1.len _ _ _ _ pr] at z
    exact z.symm
  have few : us.length ≤ sizeLine := by
    rw [← Paired.length r1, sizeLine_eq]
    omega
  have bd := hb ⟨(h1.push (PySem.W.kdv_tup us)).push (PySem.HandSPX.excO C h1.objs.size), g1, w1, k1, o1⟩ (Value.ref (h1.objs.size + 1) :: us) J.kIn (by rw [List.append_nil]; exact ln)
  rw [List.append_nil] at bd
  refine wpAny_call (PySem.HandSPX.call_own F.excBase_ValueError (fun Y => PySem.HandSPX.refsVE_contains Y c5 hbm) (I1.kIn _ _ hC) (PySem.W.looks_findIn I1.kIn iC) (fun self => PySem.W.bind_fn I1.kIn self tI) few
    (codeAny_mono (F1.run _ X.stack _ _ ⟨Value.ref (h1.objs.size + 1) :: us, []⟩ (Value.ref (h1.objs.size + 1) :: us) _ _ (fun _ _ _ => False) (hr.make C us []) (J.env0.make C us []) bd rl pr) fun r s' hq => ?_))
  cases r with
  | error er => exact hx pins σ _ _ er s' J hq
  | ok fl =>
    cases fl with
    | ret u =>
      obtain ⟨v, H2, os2, bare2, un2, hok2, rv, ev, d, fs, ea, ed, hd1, q2⟩ := hq
      subst ev
      obtain ⟨h2, g2, w2, k2, o2⟩ := s'
      obtain ⟨t0, G, JG, kG, ge, hoe, na⟩ := mk_end0 (d2 := w2) (t2 := k2) I1 up1 kp un2 hok2 os2 bare2 ea ed hd1
      exact ⟨rv, h1.objs.size + 1, _, _, ⟨G, g2, w2, k2, o2⟩, _, .ref C, some d, rfl, JG, kG, ge, hoe, ⟨rfl, rfl, fun vs hv => by cases hv; rfl⟩, rfl, rfl, na, rfl, bare2, raises_own T.exC T.tyC, q2⟩
    | next => exact False.elim hq
    | brk => exact False.elim hq
    | cont => exact False.elim hq
variable {C : Addr} {bmB : List Value} {B newId initId : String} {x : Str}
/-- raise X(), no own __init__ -/
theorem pmk_own0N (F : ExcBaseFacts B newId initId bmB) (q : PySem.W.excIn X.K C bmB newId = true) (gC : X.mg x = some (.ref C)) (kC : PySem.W.keepIn X.K (.ref C) = true) (r : Raises X (.ref C)) (hg : Gl X x)
    (hdb : (x == ("__debug__" : Str)) = false := by decide) : PMk X (.Call (.Name x p) [] [] pos) (fun _ H Q => Q (.ref C) none H) := by
  intro pins s σ H Q I h
  refine wpAny_Call_Name_kw (ld_glob I hg gC ?_ hdb)
  refine PySem.W.callWith_K0 I.kIn kC ?_
  obtain ⟨bm, N, nm, qn, bs, hdct, sn, sub, ab, col, dd, k0, k1, k2, k3, k5, mN, hC, hN, hni, T⟩ := exc_obj I.kIn q
  refine wpAny_call_exc_subT F T hC hN hni (fun h' e hm => ?_) (Nat.zero_le _)
  exact mk_of I hm r h (I.hok.gone hm.new)
end
end L2N
namespace L2
open PySem PySem.Spec PyProof.Rows
section
variable {P : Program} {w : World} {K : PySem.W.Frag} {mg : Str → Option Value} {base : Heap}
/-- a def that may raise, what it raises has no context -/
theorem Fun.okN {x qual : Str} {st : Stmt} {f : Addr} {fd : FuncData} {N ps : List Str} {k : Nat} {sp : Sp} (F : Fun K x qual st f fd) (S : FnScope N ps (defScope st)) (len : ∀ vs H Q E, sp vs H Q E → vs.length = ps.length)
    (hbody : ∀ (cdv : Value) (A : Around) (outer : List Env) (s : Shared) (H : Hp) (vs : List V) (Q : VK) (E : XK), Room k (A.deeper (envOfC qual (defScope st) s.heap.objs.size f cdv)) → sp vs H Q E →
      ∃ t, PSs (cxOf (L2N.CX P w) P w K mg base N qual (defScope st) f cdv A outer s H E) (defBody st) t ∧ t { nx := fun _ H' => Q .non H', rt := Q } (start N vs) H) : FnOk P w K mg base (L2N.CX P w) (k + 1) f fd ps sp := by
  obtain ⟨oc, od, kV, doc, pm, an, cdv, ct, osl, rfl, lk, hcd⟩ := F.ex
  exact fn_of lk hcd S len fun A outer s H vs Q E hr hsp => hbody cdv A outer s H vs Q E hr hsp
/-- a def called where an exception is handled, lets none out -/
theorem Fun.okH {x qual : Str} {st : Stmt} {f : Addr} {fd : FuncData} {N ps : List Str} {k : Nat} {sp : Sp} (F : Fun K x qual st f fd) (S : FnScope N ps (defScope st)) (len : ∀ vs H Q E, sp vs H Q E → vs.length = ps.length)
    (hbody : ∀ (cdv : Value) (A : Around) (outer : List Env) (s : Shared) (H : Hp) (vs : List V) (Q : VK) (E : XK) (p : Addr × Obj), L2H.Hot1 A p → L2H.RoomH k (A.deeper (envOfC qual (defScope st) s.heap.objs.size f cdv)) → sp vs H Q E →
      ∃ t, PSs (L2H.cxH CX0 P w K mg base N qual (defScope st) f cdv A outer s H E p).nox (defBody st) t ∧ t { nx := fun _ H' => Q .non H', rt := Q } (start N vs) H) : L2H.FnH P w K mg base CX0 (k + 1) f fd ps sp := by
  obtain ⟨oc, od, kV, doc, pm, an, cdv, ct, osl, rfl, lk, hcd⟩ := F.ex
  refine L2H.fn_ofH lk hcd S len fun A outer s H vs Q E p hot hr hsp => ?_
  obtain ⟨t, h, q⟩ := hbody cdv A outer s H vs Q E p hot hr hsp
  exact ⟨t, h.nox, q⟩
end
/-- within a suite: the exception that is handled has no context -/
theorem hot_suite {X : Cx} {a : Addr} {oe : Obj} {cls : Value} {d : Option Addr} {pn : List (Addr × Obj)} (hz : L2N.Zn cls d oe) (hf : ∃ vs, oe.data = .fields vs) : L2H.HotC (X.suite a ((a, oe) :: pn)) := by
  obtain ⟨vs, hv⟩ := hf
  exact ⟨(a, oe), ⟨rfl, vs, hv, hz.2.2 vs hv⟩, List.mem_cons_self⟩
end L2
namespace L2
open PySem PySem.Spec PyProof.Rows
/-- nothing is let out -/
theorem passH0 {X : Cx} (E : St → XK) : ∀ σ, PassesAt CX0 X σ (E σ) := fun _ _ _ _ _ _ _ z => False.elim z
theorem call_isiQ {X : Cx} {K : PySem.W.Frag} (h : X.K = K) : CallR X (.builtin "isinstance") (rIsi K) := by
  subst h
  exact call_isi
theorem call_lenK {X : Cx} {K : PySem.W.Frag} (h : X.K = K) : CallR X (.builtin "len") (fun xs H Q => ∃ p ys, xs = [.ref p] ∧ (SqL K H p ys ∨ SqT K H p ys) ∧ Q (.int ys.length) H) := by
  subst h
  exact call_len_seq
end L2

/-! min, max, len(set(..)) of a tuple of ints -/
namespace MmT
open PySem PyProof.Rows
theorem keep_old {s : Shared} {o : Obj} {h' : Heap} (hk : ∀ b u, b ∉ [s.heap.objs.size] → (s.heap.push o).get? b = some u → h'.get? b = some u) : ∀ b u, s.heap.get? b = some u → h'.get? b = some u := fun b u e => by
  refine hk b u (fun hm => ?_) (Heap.get?_push_of_some _ e)
  have := Heap.lt_size e
  rw [List.mem_singleton.mp hm] at this
  exact Nat.lt_irrefl _ this
theorem ints_arr {its : List Value} {ns : List Int} (hi : IntsAre its ns) : ∃ xs : Array (Int × Tok), its.toArray = intItems xs ∧ (xs.toList.map (·.1)) = ns := by
  obtain ⟨xs, e⟩ := hi.allInts.items
  have hn : numsOf (intItems xs).toList = ns := by
    rw [← e]
    exact hi.numsOf
  rw [nums_intItems] at hn
  exact ⟨xs, e, hn⟩
section
variable {prog : Program} {w : World} {A : Around} {E : Value → Shared → Prop} {s : Shared}
theorem min_tup {t : Addr} {its : List Value} {ns : List Int} {Q : Value → Shared → Prop} (calm : A.handled = none) (there : s.heap.IsTuple t its.toArray) (hi : IntsAre its ns) (some_ : 0 < ns.length)
    (next : ∀ (h' : Heap) (tk : Nat) (m : Int) (u : Tok), (∀ b o, s.heap.get? b = some o → h'.get? b = some o) → m ∈ ns → (∀ y ∈ ns, m ≤ y) → Q (.int m u) { s with heap := h', toks := tk }) :
    wpAny (model prog w) A (call (.builtin "min") [.ref t]) Q E s := by
  obtain ⟨xs, e1, e2⟩ := ints_arr hi
  subst e2
  rw [e1] at there
  have pos : 0 < xs.size := by simpa using some_
  have tb : t < s.heap.objs.size := by
    obtain ⟨o, ho, _⟩ := there
    exact Heap.lt_size ho
  refine call_min_walk (wpAny_pyIter_tuple there ?_)
  refine ⟨_, [_, t], [_], _, _, _, _, rfl, Walks.tuple (A := A.in1) calm _ t (Nat.ne_of_lt tb) (intItems xs), ⟨⟨_, Heap.get?_push_size _ rfl, rfl, rfl⟩, there.push _⟩, fun c hc => ?_, by simpa [intItems] using pos, CmpOf.ints_lt (numAt xs) (fun _ _ => intItems_at), fun v h' tk hP hk => ?_⟩
  · show c < (s.heap.push _).objs.size
    rw [Heap.size_push]
    rcases List.mem_cons.mp hc with rfl | hc
    · exact Nat.lt_succ_self _
    · rw [List.mem_singleton.mp hc]
      exact Nat.lt_succ_of_lt tb
  · have hP' : (intItems xs)[argBest (fun i j => decide (numAt xs i < numAt xs j)) (xs.size - 1)]? = some v := by simpa [intItems] using hP
    obtain ⟨u, rfl⟩ := intItems_at hP'
    obtain ⟨b1, b2⟩ := argBest_lt (numAt xs) (xs.size - 1)
    refine next h' tk _ u (keep_old hk) ?_ fun y hy => ?_
    · rw [numAt_eq]
      exact PySem.getD_mem (by rw [List.length_map, Array.length_toList]; omega)
    · obtain ⟨j, hj, rfl⟩ := mem_getD hy
      rw [List.length_map, Array.length_toList] at hj
      rw [← numAt_eq]
      exact b2 j (by omega)
theorem max_tup {t : Addr} {its : List Value} {ns : List Int} {Q : Value → Shared → Prop} (calm : A.handled = none) (there : s.heap.IsTuple t its.toArray) (hi : IntsAre its ns) (some_ : 0 < ns.length)
    (next : ∀ (h' : Heap) (tk : Nat) (m : Int) (u : Tok), (∀ b o, s.heap.get? b = some o → h'.get? b = some o) → m ∈ ns → (∀ y ∈ ns, y ≤ m) → Q (.int m u) { s with heap := h', toks := tk }) :
    wpAny (model prog w) A (call (.builtin "max") [.ref t]) Q E s := by
  obtain ⟨xs, e1, e2⟩ := ints_arr hi
  subst e2
  rw [e1] at there
  have pos : 0 < xs.size := by simpa using some_
  have tb : t < s.heap.objs.size := by
    obtain ⟨o, ho, _⟩ := there
    exact Heap.lt_size ho
  refine call_max_walk (wpAny_pyIter_tuple there ?_)
  refine ⟨_, [_, t], [_], _, _, _, _, rfl, Walks.tuple (A := A.in1) calm _ t (Nat.ne_of_lt tb) (intItems xs), ⟨⟨_, Heap.get?_push_size _ rfl, rfl, rfl⟩, there.push _⟩, fun c hc => ?_, by simpa [intItems] using pos, CmpOf.ints_gt (numAt xs) (fun _ _ => intItems_at), fun v h' tk hP hk => ?_⟩
  · show c < (s.heap.push _).objs.size
    rw [Heap.size_push]
    rcases List.mem_cons.mp hc with rfl | hc
    · exact Nat.lt_succ_self _
    · rw [List.mem_singleton.mp hc]
      exact Nat.lt_succ_of_lt tb
  · have hP' : (intItems xs)[argBest (fun i j => decide (numAt xs i > numAt xs j)) (xs.size - 1)]? = some v := by simpa [intItems] using hP
    obtain ⟨u, rfl⟩ := intItems_at hP'
    obtain ⟨b1, b2⟩ := argBest_gt (numAt xs) (xs.size - 1)
    refine next h' tk _ u (keep_old hk) ?_ fun y hy => ?_
    · rw [numAt_eq]
      exact PySem.getD_mem (by rw [List.length_map, Array.length_toList]; omega)
    · obtain ⟨j, hj, rfl⟩ := mem_getD hy
      rw [List.length_map, Array.length_toList] at hj
      rw [← numAt_eq]
      exact b2 j (by omega)
end
/-- a list without doubles has as many members as another of the same members exactly if that one has no doubles -/
theorem sub_perm : ∀ {L ns : List Int}, L.Nodup → (∀ x ∈ L, x ∈ ns) → L.length = ns.length → L.Perm ns
  | [], ns, _, _, h => by
    rw [List.length_eq_zero_iff.mp h.symm]
  | x :: L, ns, nd, sub, h => by
    have hx := sub x (List.mem_cons_self ..)
    have nd' := List.nodup_cons.mp nd
    have ih := sub_perm (L := L) (ns := ns.erase x) nd'.2 (fun y hy => (List.mem_erase_of_ne (fun z => nd'.1 (by rw [← z]; exact hy))).mpr (sub y (List.mem_cons_of_mem _ hy))) (by
      rw [List.length_erase_of_mem hx]
      simp at h
      omega)
    exact (List.Perm.cons x ih).trans (List.perm_cons_erase hx).symm
theorem sub_len : ∀ {L ns : List Int}, L.Nodup → (∀ x ∈ L, x ∈ ns) → L.length ≤ ns.length
  | [], _, _, _ => Nat.zero_le _
  | x :: L, ns, nd, sub => by
    have hx := sub x (List.mem_cons_self ..)
    have nd' := List.nodup_cons.mp nd
    have ih := sub_len (L := L) (ns := ns.erase x) nd'.2 fun y hy => (List.mem_erase_of_ne (fun z => nd'.1 (by rw [← z]; exact hy))).mpr (sub y (List.mem_cons_of_mem _ hy))
    have := List.length_erase_of_mem hx
    have hp : 0 < ns.length := List.length_pos_of_mem hx
    show L.length + 1 ≤ ns.length
    omega
theorem count_nd {L ns : List Int} (nd : L.Nodup) (m : ∀ x, x ∈ L ↔ x ∈ ns) : L.length = ns.length ↔ ns.Nodup :=
  ⟨fun h => (sub_perm nd (fun x hx => (m x).mp hx) h).nodup_iff.mp nd, fun h => Nat.le_antisymm (sub_len nd fun x hx => (m x).mp hx) (sub_len h fun x hx => (m x).mpr hx)⟩
end MmT
namespace L2
open PySem PySem.Spec PyProof.Rows
section
variable {X : Cx}
def rMinT (K : PySem.W.Frag) : List V → Hp → VK → Prop := fun vs H Q => ∃ (a : Addr) (ns : List Int), vs = [V.ref a] ∧ SqT K H a (ns.map V.int) ∧ 0 < ns.length ∧ ∀ m, m ∈ ns → (∀ y ∈ ns, m ≤ y) → Q (.int m) H
def rMaxT (K : PySem.W.Frag) : List V → Hp → VK → Prop := fun vs H Q => ∃ (a : Addr) (ns : List Int), vs = [V.ref a] ∧ SqT K H a (ns.map V.int) ∧ 0 < ns.length ∧ ∀ m, m ∈ ns → (∀ y ∈ ns, y ≤ m) → Q (.int m) H
theorem tup_is {h : Heap} {t : Addr} {its : List Value} (p : ∃ o : Obj, h.get? t = some o ∧ o.cls = .type "tuple" ∧ ∃ k, o.data = .seq its.toArray k) : h.IsTuple t its.toArray := by
  obtain ⟨o, h1, h2, k, h3⟩ := p
  exact ⟨o, h1, h2, k, h3⟩
theorem cr_minT (calm : X.calm = true) : CallR X (.builtin "min") (rMinT X.K) := by
  intro pins s σ H vs us Q I r h
  obtain ⟨a, ns, rfl, hs, pos, q⟩ := h
  obtain ⟨its, rv, ⟨o, ho, hc, k, hd⟩, hz⟩ := I.tuple hs
  rw [Vals.ref1 r]
  exact MmT.min_tup (I.ok.hd calm) ⟨o, ho, hc, k, hd⟩ rv.ints pos fun h' tk m u keep hm hl => ⟨.int m, H, I.kept keep, ⟨u, rfl⟩, q m hm hl⟩
theorem cr_maxT (calm : X.calm = true) : CallR X (.builtin "max") (rMaxT X.K) := by
  intro pins s σ H vs us Q I r h
  obtain ⟨a, ns, rfl, hs, pos, q⟩ := h
  obtain ⟨its, rv, ⟨o, ho, hc, k, hd⟩, hz⟩ := I.tuple hs
  rw [Vals.ref1 r]
  exact MmT.max_tup (I.ok.hd calm) ⟨o, ho, hc, k, hd⟩ rv.ints pos fun h' tk m u keep hm hl => ⟨.int m, H, I.kept keep, ⟨u, rfl⟩, q m hm hl⟩
/-- len(set(t)), t a tuple of ints: how many there are tells whether there are doubles -/
def tLenSetT (K : PySem.W.Frag) (ta : TE) : TE := fun σ H Q => ta σ H fun x H1 => ∃ (l : Addr) (ns : List Int), x = .ref l ∧ SqT K H1 l (ns.map V.int) ∧ ns.length ≤ 1000 ∧ ∀ c : Nat, c ≤ ns.length → (c = ns.length ↔ ns.Nodup) → Q (.int (c : Int)) H1
theorem pe_lenSetT {a : Expr} {ta : TE} {p p2 q pos : Pos} (calm : X.calm = true) (g1 : Gl X "len") (m1 : X.mg "len" = none) (g2 : Gl X "set") (m2 : X.mg "set" = none) (ha : PE X a ta)
    (na : starEach [a] X.env = (false, eval a X.env) :: starEach [] X.env := by rfl) : PE X (.Call (.Name "len" p) [.Call (.Name "set" p2) [a] [] q] [] pos) (tLenSetT X.K ta) := by
  refine ⟨fun pins s σ H Q I hw => ?_⟩
  refine Call_ (ld_blt I g1 m1 PySem.boot_len ?_)
  refine PyProof.Rows.callWith_builtin1 (PyProof.Rows.args_cons ?_ rfl) rfl rfl
  refine Call_ (ld_blt I g2 m2 PyProof.Rows.boot_set ?_)
  refine PyProof.Rows.callWith_type1 (PyProof.Rows.args_cons (thn (ha.run pins s σ H _ I hw) fun v s1 ⟨x, H1, I1, r1, z1⟩ => PyProof.Rows.args_nil ?_) na) na rfl
  obtain ⟨l, ns, rfl, hq, few, z1⟩ := z1
  cases r1
  obtain ⟨its, rv, ⟨o, ho, hc, k, hd⟩, hz⟩ := I1.tuple hq
  refine call_set_tupI ns (I1.ok.hd calm) ⟨o, ho, hc, k, hd⟩ (by simpa using rv.ints) (by unfold scanBound; omega) fun h' tk c hS hc' keep => ?_
  refine PyProof.Rows.args_nil ?_
  obtain ⟨o2, es, ep, t2, h1, h2, h3, _, h5, h6, _, h8, h9, _⟩ := hS
  have I2 : Inv X pins σ H1 { s1 with heap := h', toks := tk } := I1.kept keep
  have m : ∀ x, x ∈ es.toList.map keyOf ↔ x ∈ ns := fun x => by
    rw [← h6 x]
    exact decide_eq_true_iff
  have cnt := MmT.count_nd h5 m
  rw [List.length_map, Array.length_toList, h9] at cnt
  exact call_len_set h1 h2 h3 h8 (by omega) ⟨.int (c : Int), H1, I2.tok _, ⟨_, by rw [h9]⟩, z1 c hc' cnt⟩
end
end L2

/-! enumerate of a tuple; calls in a try's body; isinstance of an exception without a dict -/
namespace EnT
open PySem
/-- the iterator of the tuple t, and the enumerate object over the iterator at i, both as they are made -/
def itO (t : Addr) : Obj := { cls := .type "tuple_iterator", data := .fields #[.ref t, .int 0 0] }
def enO (i : Addr) : Obj := { cls := .type "enumerate", data := .fields #[.none, .bool false, .ref i, rawInt 0, .none, .none] }
def made (g : Heap) (t : Addr) : Heap := (g.push (itO t)).push (enO g.objs.size)
theorem made_top (g : Heap) (t : Addr) : (g.push (itO t)).objs.size = g.objs.size + 1 := Heap.size_push ..
theorem made_en (g : Heap) (t : Addr) : (made g t).get? (g.objs.size + 1) = some (enO g.objs.size) :=
  made_top g t ▸ Heap.get?_push_size (g.push (itO t)) (o := enO g.objs.size) rfl
theorem made_it (g : Heap) (t : Addr) : (made g t).get? g.objs.size = some (itO t) := Heap.get?_push_of_some _ (Heap.get?_push_size _ rfl)
theorem made_old (g : Heap) (t b : Addr) (o : Obj) (h : g.get? b = some o) : (made g t).get? b = some o :=
  Heap.get?_push_of_some _ (Heap.get?_push_of_some _ h)
/-- what enumerate's __new__ does with a tuple -/
theorem new_does (t : Addr) (vs : Array Value) : Meets (Builtin.«enumerate.__new__» ⟨[.type "enumerate", .ref t], []⟩)
    (fun _ R s => s.heap.IsTuple t vs ∧ R (.ok (.ret (.ref (s.heap.objs.size + 1)))) { s with heap := made s.heap t }) :=
  Meets.of_wp fun P w A R s there => by
    cases s with
    | mk g gl dw tc ow =>
      obtain ⟨isT, goal⟩ := there
      rw [← made_top g t] at goal
      have sub1 := sub_enumerate
      have mk_it : ∀ {A1 : Around} {E1 Q1 : Value → Shared → Prop}, Q1 (.ref g.objs.size) ⟨g.push (itO t), gl, dw, tc, ow⟩ → wpAny (model P w) A1 (pyIter (.ref t)) Q1 E1 ⟨g, gl, dw, tc, ow⟩ :=
        fun q => wpAny_pyIter_tuple isT q
      wp_walk using mk_it
      refine wpAny_stack_any fun _ => wpAny_pure ?_
      split
      · next cls _ _ _ _ _ =>
        by_cases same : (cls == Value.type "enumerate") = true
        · rw [same]
          wp_walk using mk_it
          exact ⟨_, rfl, goal⟩
        · rw [Bool.eq_false_iff.mpr same]
          wp_walk using mk_it
          exact ⟨_, rfl, goal⟩
      · wp_walk using mk_it
        exact ⟨_, rfl, goal⟩
end EnT
namespace EnT
open PySem PySem.Spec PyProof.Rows L2
theorem call_does {P : Program} {w : World} {A : Around} {E Q : Value → Shared → Prop} {s : Shared} {t : Addr} {vs : Array Value} (isT : s.heap.IsTuple t vs) (goal : Q (.ref (s.heap.objs.size + 1)) { s with heap := made s.heap t }) :
    wpAny (model P w) A (call (.type "enumerate") [.ref t]) Q E s := by
  have top : Shared.TypeIs { s with heap := made s.heap t } (.ref (s.heap.objs.size + 1)) "enumerate" := ⟨_, made_en s.heap t, rfl⟩
  have done : (fun (_ : Around) (R : Result → Shared → Prop) (z : Shared) => z.heap.IsTuple t vs ∧ R (.ok (.ret (.ref (z.heap.objs.size + 1)))) { z with heap := made z.heap t }) A.in1
      (wants (fun obj z => z.TypeIs obj "enumerate" ∧ Q obj z) E) s := ⟨isT, top, goal⟩
  exact callType_new F.called_enumerate (by decide) (F.typeCall_enumerate_1 _) (F.newCall_enumerate_1 _) (fun o => F.args_object_init_2 o _)
    F.entry_enumerate_new (new_does t vs) done
theorem tup_ne {h : Heap} {i t : Addr} {n : Nat} {vs : Array Value} (a : h.IsTupleIter i t n) (b : h.IsTuple t vs) : t ≠ i := by
  intro same
  subst same
  obtain ⟨u, hu, cu, _⟩ := a
  obtain ⟨v, hv, cv, _⟩ := b
  cases hu.symm.trans hv
  exact absurd (Value.type.inj (cu.symm.trans cv)) (by decide)
theorem en_ne {h : Heap} {e i t : Addr} {c : Int} {old : Value} {vs : Array Value} (a : IsEnum h e i c old) (b : h.IsTuple t vs) : e ≠ t := by
  intro same
  subst same
  obtain ⟨v, hv, cv, _⟩ := b
  cases (show h.get? e = _ from a).symm.trans hv
  exact absurd (Value.type.inj cv) (by decide)
/-- what the enumerate object at e walks with: its tuple at t, the iterator at i -/
def Stands (e i t : Addr) (n : Nat) (h : Heap) : Prop := (∃ old, IsEnum h e i ((n : Nat) : Int) old) ∧ h.IsTupleIter i t n ∧ e ≠ i
/-- the tuple at t, each item behind its number in a new pair -/
def ItN (K : PySem.W.Frag) (t : Addr) : It where
  go := fun n H => ∃ xs x, SqT K H t xs ∧ xs[n]? = some x
  yld := fun n H v H2 => ∃ p x, v = .ref p ∧ H p = none ∧ H2 = upd H p (.tup [.int (n : Nat), x]) ∧ ∀ xs, SqT K H t xs → xs[n]? = some x
  stop := fun n H => ∃ xs : List V, SqT K H t xs ∧ xs.length = n
theorem turns {P : Program} {w : World} {K : PySem.W.Frag} {es : List Expr} {kk : Nat} {ps : Pos} (e i t : Addr) : Turn P w K (.Tuple es kk ps) (ItN K t) [e, i] e (Stands e i t) := by
  constructor
  · exact List.mem_cons_self
  · rintro n h ⟨⟨old, a⟩, ⟨u, hu, cu, du⟩, ne⟩ b hb
    rcases List.mem_cons.mp hb with rfl | hb
    · exact ⟨_, a, fun v q => by cases q⟩
    · rw [List.mem_singleton.mp hb]
      exact ⟨u, hu, fun v q => by rw [du] at q; cases q⟩
  · rintro n h h2 ⟨⟨old, a⟩, b, ne⟩ kp
    exact ⟨⟨old, kp e List.mem_cons_self _ a⟩, b.at fun o q => kp i (List.mem_cons_of_mem _ List.mem_cons_self) o q, ne⟩
  · rintro X rfl rfl rfl calm n pins s σ H E I apart ⟨⟨old, a⟩, b, ne⟩ ⟨xs, x, tx, hx⟩
    obtain ⟨vs, rel, isT, _⟩ := I.tuple tx
    have isT := tup_is isT
    obtain ⟨v, hv, rv⟩ := rel.get hx
    have hv2 : vs.toArray[n]? = some v := by rw [List.getElem?_toArray]; exact hv
    have lt := (Array.getElem?_eq_some_iff.mp hv2).1
    have away : e ∉ [i, t] := fun z => by
      rcases List.mem_cons.mp z with z | z
      · exact ne z
      · exact en_ne a isT (List.mem_singleton.mp z)
    have drawn := Draws.tuple (prog := X.prog) (w := X.w) (A := X.A.in1) (I.ok.hd calm) i t (tup_ne b isT) vs.toArray
    have W := WalksT.enumerateD drawn e ne away List.mem_cons_self
    refine W.item n s _ E lt ⟨⟨old, a⟩, b, isT⟩ ?_
    rintro p ws h1 tk ⟨tok, v2, g, rfl⟩ up there mid kp1
    cases hv2.symm.trans g
    refine ⟨_, rfl, W.go es kk ps n p { s with heap := h1, toks := tk } _ E mid ?_⟩
    rintro h2 ⟨⟨old2, a2⟩, b2, _⟩ kp2
    obtain ⟨op, hop, cp, c1, dp⟩ := there
    have free : H p = none := I.hok.fresh up
    have made : ObjOk X.prog X.w (upd H p (.tup [.int (n : Nat), x])) h2 p (.tup [.int (n : Nat), x]) := by
      refine ⟨?_, [.int n tok, v], .cons ⟨tok, rfl⟩ (.cons rv .nil), op, kp2 p op (W.apart n p h1 mid) hop, cp, c1, dp⟩
      show 2 ≤ sizeLine
      decide
    have I2 := I.turnedNew (t' := tk) (fun c o nc q => kp2 c o nc (kp1 c o nc q)) apart up made
    refine ⟨.ref p, _, I2, rfl, ⟨p, x, rfl, free, rfl, fun ys ty => by rw [I.tuple_inj ty tx]; exact hx⟩, ⟨⟨old2, a2⟩, b2, ne⟩, fun c hc => ?_⟩
    rw [upd_ne fun z => by
      obtain ⟨o, ho, _⟩ : ∃ o, s.heap.get? c = some o ∧ True := by
        rcases List.mem_cons.mp hc with rfl | hc
        · exact ⟨_, a, trivial⟩
        · rw [List.mem_singleton.mp hc]
          obtain ⟨o, ho, _⟩ := b
          exact ⟨o, ho, trivial⟩
      have := Heap.lt_size ho
      rw [z] at this
      exact absurd up (Nat.not_le.mpr this)]
    exact (apart c hc).1
  · rintro X rfl rfl rfl calm n pins s σ H E I apart ⟨⟨old, a⟩, b, ne⟩ ⟨xs, tx, len⟩
    obtain ⟨vs, rel, isT, _⟩ := I.tuple tx
    have isT := tup_is isT
    have away : e ∉ [i, t] := fun z => by
      rcases List.mem_cons.mp z with z | z
      · exact ne z
      · exact en_ne a isT (List.mem_singleton.mp z)
    have drawn := Draws.tuple (prog := X.prog) (w := X.w) (A := X.A.in1) (I.ok.hd calm) i t (tup_ne b isT) vs.toArray
    have W := WalksT.enumerateD drawn e ne away List.mem_cons_self
    have eq : n = vs.toArray.size := by rw [← len, rel.length, List.size_toArray]
    subst eq
    exact W.done s _ E ⟨⟨old, a⟩, b, isT⟩ fun h2 tk kp => ⟨rfl, I.turnedL kp apart⟩
  · rintro A n s Q E ⟨⟨old, a⟩, _⟩ goal
    exact wpAny_pyIter_enum a goal
def iNum (K : PySem.W.Frag) (ta : TA) : TI := fun σ H R => ta σ H fun vs H1 => ∃ t xs, vs = [.ref t] ∧ SqT K H1 t xs ∧ R (ItN K t) H1
theorem pi_enumT {X : Cx} {e : Expr} {ta : TA} {p pos tpos : Pos} {es : List Expr} {kk : Nat} (g : Gl X "enumerate") (free : X.mg "enumerate" = none) (arg : PA X [e] ta) (one : starEach [e] X.env = [(false, eval e X.env)] := by rfl) :
    PI X (.Tuple es kk tpos) (.Call (.Name "enumerate" p) [e] [] pos) (iNum X.K ta) := by
  constructor
  intro pins s σ H R I had
  refine Call_ (ld_blt I g free boot_enumerate ?_)
  refine PyProof.Rows.callWith_type1 ?_ one rfl
  refine thn (arg.run pos pins s σ H _ I had) ?_
  rintro us s1 ⟨vs, H1, I1, rel, t, xs, rfl, tx, goal⟩
  obtain ⟨u, rfl, ru⟩ := vals1 rel
  cases (show u = Value.ref t from ru)
  obtain ⟨ws, _, isT, _⟩ := I1.tuple tx
  refine call_does (tup_is isT) (wpAny_pyIter_enum (made_en s1.heap t) ?_)
  have I2 : Inv X pins σ H1 { s1 with heap := made s1.heap t } := I1.kept (t' := s1.toks) fun b o q => made_old s1.heap t b o q
  refine ⟨_, _, _, _, H1, rfl, I2, turns (s1.heap.objs.size + 1) s1.heap.objs.size t, ⟨⟨.none, made_en s1.heap t⟩, ⟨_, made_it s1.heap t, rfl, rfl⟩, Nat.succ_ne_self _⟩, fun b hb => ?_, goal⟩
  have up : s1.heap.objs.size ≤ b := by
    rcases List.mem_cons.mp hb with rfl | hb
    · exact Nat.le_succ _
    · rw [List.mem_singleton.mp hb]
      exact Nat.le_refl _
  exact I1.fpOk up (I1.hok.fresh up)
theorem walk_enumT {K : PySem.W.Frag} {t : Addr} {xs : List V} : Walk (ItN K t) xs.length (fun H => SqT K H t xs) (YPair (fun n => some (.int (n : Nat))) (fun n => xs[n]?)) where
  goes := fun n _ lt q => ⟨xs, xs[n], q, List.getElem?_eq_getElem lt⟩
  stops := fun _ q => ⟨xs, q, rfl⟩
  yields := fun n _ _ _ _ q y => by
    obtain ⟨p, x, a, b, c, d⟩ := y
    exact ⟨p, .int (n : Nat), x, a, b, c, rfl, d xs q⟩
end EnT
namespace L2
open PySem PySem.Spec PyProof.Rows
/-- isinstance(e, c), e the exception that the suite holds, with a dict or without -/
def rIsS2 (K : PySem.W.Frag) (a : Addr) (cls : Value) (d : Option Addr) : List V → Hp → VK → Prop := fun xs H Q => ∃ (C : Addr) (c : V) (u : Value) (b : Bool), xs = [.ref a, c] ∧ cls = .ref C ∧ (d = none ∨ ∃ dd fs, d = some dd ∧ H dd = some (.xd fs)) ∧
  ExcC K C ∧ ClsV c u ∧ PySem.W.kitOne K (.ref C) u = some b ∧ Q (.bl b) H
theorem call_isS2 {X : Cx} {K : PySem.W.Frag} {a : Addr} {cls : Value} {d : Option Addr} {oe : Obj} {pn : List (Addr × Obj)} (hK : X.K = K) (hz : Zc cls d oe) (hf : ∃ vs, oe.data = .fields vs) : CallR (X.suite a ((a, oe) :: pn)) (.builtin "isinstance") (rIsS2 K a cls d) := by
  rintro pins s σ H _ us Q I rel ⟨C, c, u, b, rfl, rfl, kind, D, isC, ans, goal⟩
  rcases kind with rfl | ⟨dd, fs, rfl, there⟩
  · have E : CallR (X.suite a ((a, oe) :: pn)) (.builtin "isinstance") (rIsE X.K C a) := call_isE (hK ▸ D) hz hf
    exact E pins s σ H _ us Q I rel ⟨c, u, b, rfl, fun v q => isC.eq q, hK ▸ ans, goal⟩
  · exact call_isS hK hz hf pins s σ H _ us Q I rel ⟨C, dd, fs, c, u, b, rfl, rfl, rfl, there, D, isC, ans, goal⟩
theorem call_tuple_ofK {X : Cx} {K : PySem.W.Frag} (h : X.K = K) : CallR X (.type "tuple") (fun xs H Q => ∃ p ys, xs = [.ref p] ∧ ((SqL K H p ys ∧ ∀ l, H l = none → Q (.ref l) (upd H l (.tup ys))) ∨ (SqT K H p ys ∧ Q (.ref p) H))) := by
  subst h
  exact call_tuple_of
theorem call_list_ofK {X : Cx} {K : PySem.W.Frag} (h : X.K = K) : CallR X (.type "list") (fun xs H Q => ∃ p ys, xs = [.ref p] ∧ (SqL K H p ys ∨ SqT K H p ys) ∧ ∀ l, H l = none → Q (.ref l) (upd H l (.lst ys))) := by
  subst h
  exact call_list_of
end L2
namespace RZ
open PySem PySem.Spec PyProof.Rows L2
theorem walk_zipT {K : PySem.W.Frag} {a b : Addr} {xs ys : List V} {n : Nat} (hn : n = min xs.length ys.length) : Walk (ItzT K a b) n (fun H => SqT K H a xs ∧ SqT K H b ys) (YPair (fun i => xs[i]?) (fun i => ys[i]?)) where
  goes := fun i _ lt q => ⟨xs, ys, xs[i]'(by omega), ys[i]'(by omega), q.1, q.2, List.getElem?_eq_getElem _, List.getElem?_eq_getElem _⟩
  stops := fun _ q => ⟨xs, ys, q.1, q.2, by omega⟩
  yields := fun i _ _ _ _ q y => by
    obtain ⟨p, x, z, a1, a2, a3, a4, a5⟩ := y
    exact ⟨p, x, z, a1, a2, a3, a4 xs q.1, a5 ys q.2⟩
end RZ

/-! an own object made within an except suite; a class that a local name holds, called with keywords -/
namespace MkH
open PySem PySem.Spec PyProof.Rows L2 L2H
section
variable {X : Cx} {CX : CXT} {k : Nat} {f C : Addr} {fd : FuncData} {ps : List Str} {sp : Sp} {x : Str} {p pos : Pos} {dvs : List V} {ds : List Value}
/-- C(): all that __init__ takes has defaults -/
theorem pe_make0H (M : Mk X.K C f) (F : FnH X.prog X.w X.K X.mg X.base CX k f fd ps sp) (room : RoomH (k + 1) X.A) (hot : HotC X) (b : Binds X.K fd ps ds) (d : Vals dvs ds) (pass : Passes CX X (fun _ _ _ => False)) (g : Gl X x) (m : X.mg x = some (.ref C))
    (nodebug : (x == ("__debug__" : Str)) = false := by decide) : PE X (.Call (.Name x p) [] [] pos) (tMake C sp dvs (fun _ _ _ => False) tNil) := by
  constructor
  intro pins s σ H Q I had
  obtain ⟨pn, h1, mem⟩ := hot
  refine wpAny_Call_Name_kw (ld_glob I g m ?_ nodebug)
  refine PySem.W.callWith_K0 I.kIn M.kp ?_
  have free : ∀ c, s.heap.objs.size ≤ c → H c = none := fun c le => I.hok.fresh le
  have had1 := had (s.heap.objs.size + 1) s.heap.objs.size (free _ (Nat.le_succ _)) (free _ (Nat.le_refl _)) (Nat.ne_of_lt (Nat.lt_succ_self _))
  have I2 := Inv.made I (C := C)
  have rel : Vals (V.ref (s.heap.objs.size + 1) :: ([] ++ dvs)) (Value.ref (s.heap.objs.size + 1) :: ([] ++ ds)) := .cons rfl d
  have len : ([Value.ref (s.heap.objs.size + 1)] ++ ds).length = ps.length := by
    rw [← F.len _ _ _ _ had1]
    exact rel.length.symm
  have at2 := I2.pin pn (List.mem_append_left _ mem)
  refine wpAny_call (make_map (f := f) I.kIn M.makes M.init (beq_iff_eq.mp M.fn) (codeAny_mono (F.run _ X.stack _ _ ⟨[Value.ref (s.heap.objs.size + 1)], []⟩ ([Value.ref (s.heap.objs.size + 1)] ++ ds) _ _ (fun _ _ _ => False) pn
    (RoomH.make room C [] []) ⟨h1.1, h1.2⟩ ⟨at2.1, at2.2.1, fun z => ?_, at2.2.2.2.2⟩ (I2.env0.make C [] []) (b _ [Value.ref (s.heap.objs.size + 1)] I2.kIn len) rel had1) fun r s2 told => ?_))
  · rcases List.mem_cons.mp (I2.stkSub pn.1 z) with z | z
    · exact at2.2.2.1 z
    · exact at2.2.2.2.1 z
  · match r, told with
    | .error e, told => exact pass pins σ _ _ e s2 I2 told
    | .ok (.ret u), told =>
      obtain ⟨v, H2, I3, ru, rfl, q⟩ := I2.after told
      exact ⟨ru, V.ref (s.heap.objs.size + 1), H2, I3, rfl, q⟩
    | .ok .next, told => exact told.elim
    | .ok .brk, told => exact told.elim
    | .ok .cont, told => exact told.elim
end
section
variable {X : Cx} {CX : CXT} {k i : Nat} {f C : Addr} {fd : FuncData} {ps ks : List Str} {sp : Sp} {E : XK} {x : Str} {p pos : Pos} {kws : List Keyword} {tk : TA} {gb : List Value → List Value → List Value} {gV : List V → List V → List V}
/-- the i-th slot holds the class C: name(k = v, ..) -/
def tMakeL (i : Nat) (C : Addr) (m : Nat) (sp : Sp) (gV : List V → List V → List V) (E : XK) (tk : TA) : TE := fun σ H Q => σ[i]? = some (some (.ref C)) ∧ tMakeK C 0 m sp gV E tNil tk σ H Q
theorem pe_makeL (M : Mk X.K C f) (F : FnOk X.prog X.w X.K X.mg X.base CX k f fd ps sp) (room : Room (k + 1) X.A) (at_ : X.N[i]? = some x) (vis : Vis X.env.scope x) (b : KBn X.K fd ps 1 ks gb gV) (pass : Passes CX X E) (kw : PK X kws tk)
    (hall : (backToKw pos (keywordEach kws X.env)).all (·.1.isSome) = true := by rfl) (hks : (backToKw pos (keywordEach kws X.env)).filterMap (·.1) = ks := by rfl) (d1 : (x == ("__debug__" : Str)) = false := by decide) (d2 : (x == ("__classdict__" : Str)) = false := by decide)
    (star : ((backTo pos (starEach [] X.env)).any (·.1) ||
      (backToKw pos (keywordEach kws X.env)).any (·.1.isNone)) = false := by rfl) :
    PE X (.Call (.Name x p) [] kws pos) (tMakeL i C ks.length sp gV E tk) := by
  constructor
  rintro pins s σ H Q I ⟨slot, had⟩
  refine wpAny_Call_Name_kw (thn ((pe_var (pos := p) at_ vis d1 d2).run pins s σ H (fun v G => v = .ref C ∧ G = H) I ⟨.ref C, slot, rfl, rfl⟩) ?_)
  rintro u s1 ⟨v, G, I1, rv, rfl, rfl⟩
  cases (show u = Value.ref C from rv)
  refine PySem.W.callWith_KW0 (h₀ := X.base)
    I.ok.mod.kin M.kp hall ?_ star
  refine thn (kw.run pos pins s1 σ G _ I1 had) ?_
  rintro ws s2 ⟨zs, G2, I2, rz, l1, l2, q⟩
  rw [hks]
  exact ⟨I2.kIn, run_makeK (us := []) (vs := []) M F room b pass I2 .nil rz rfl l2 q⟩
end
end MkH

/-! calls of methods that may raise: what they raise goes on -/
namespace MkS
open PySem PySem.Spec PyProof.Rows L2
section
variable {X : Cx} {CX : CXT} {k : Nat} {f C : Addr} {fd : FuncData} {ps : List Str} {sp : Sp} {E : L2.St → XK} {m : Str} {pos apos : Pos} {e o : Expr} {es : List Expr} {ta : TE} {t : TA} {pl : Sem Bool}
/-- o.m(e, ..) -/
theorem pe_methS (he : PE X o ta) (c : Cls X.K C) (hm : Meth X.K C m f) (F : FnOk X.prog X.w X.K X.mg X.base CX k f fd ps sp) (room : Room k X.A) (b : Binds X.K fd ps []) (pass : ∀ σ, PassesAt CX X σ (E σ)) (ha : PA X (e :: es) t)
    (one : starEach (e :: es) X.env = (false, eval e X.env) :: starEach es X.env := by rfl) (more : (backTo pos (starEach es X.env)).any (·.1) = false := by rfl)
    (road : eval (.Call (.Attribute o m apos) (e :: es) [] pos) X.env = (do
      let it ← eval o X.env
      standAt apos.atName
      let (fn, self) ← holding [it] (getMethod it m pl)
      callWith pos fn self (backTo pos (starEach (e :: es) X.env)) (backToKw pos (keywordEach [] X.env))) := by rfl) :
    PE X (.Call (.Attribute o m apos) (e :: es) [] pos) (L2H.tMethH C m sp E ta t) := by
  constructor
  intro pins s σ H Q I had
  refine PySem.W.methodCall_KW (pl := pl) (thn (he.run pins s σ H _ I had) ?_) road
  rintro u s1 ⟨x, H1, I1, ru, a, dx, fs, rfl, at_, no, q⟩
  cases (show u = Value.ref a from ru); skip
  refine getmeth_ok I1 at_ c hm no (PySem.W.callWith_K (first := [.ref a]) (h₀ := X.base) I.ok.mod.kin hm.kp (thn (ha.run pos pins s1 σ H1 _ I1 q) ?_) one more)
  rintro us s2 ⟨vs, H2, I2, r, q2⟩
  exact ⟨I2.kIn, run_fnS (us := .ref a :: us) (vs := .ref a :: vs) F room b (pass σ) I2 (.cons rfl r) q2⟩
end
section
variable {X : Cx} {CX : CXT} {k n : Nat} {f C : Addr} {fd : FuncData} {ps ks : List Str} {sp : Sp} {E : L2.St → XK} {x : Str} {p pos : Pos} {kws : List Keyword} {tk : TA} {gb : List Value → List Value → List Value} {gV : List V → List V → List V}
/-- a new object by keywords, its __init__ may raise -/
theorem run_makeS {pins : List (Addr × Obj)} {σ : L2.St} {H : Hp} {s : Shared} {Q : VK} {ws : List Value} {zs : List V} (M : Mk X.K C f) (F : FnOk X.prog X.w X.K X.mg X.base CX k f fd ps sp) (room : Room (k + 1) X.A) (b : KBn X.K fd ps 1 ks gb gV) (pass : PassesAt CX X σ (E σ))
    (I : Inv X pins σ H s) (rz : Vals zs ws) (lz : zs.length = ks.length)
    (had : ∀ c dx, H c = none → H dx = none → dx ≠ c → sp (gV [.ref c] zs) (upd (upd H dx (.own c)) c (.ins C dx [])) (fun v G => v = .non ∧ Q (.ref c) G) (E σ)) :
    wpAny (model X.prog X.w) X.A (call (.ref C) [] (ks.zip ws)) (EP X pins σ Q) X.xe s := by
  have free : ∀ c, s.heap.objs.size ≤ c → H c = none := fun c le => I.hok.fresh le
  have had1 := had (s.heap.objs.size + 1) s.heap.objs.size (free _ (Nat.le_succ _)) (free _ (Nat.le_refl _)) (Nat.ne_of_lt (Nat.lt_succ_self _))
  have I2 := Inv.made I (C := C)
  have self : Vals [V.ref (s.heap.objs.size + 1)] [Value.ref (s.heap.objs.size + 1)] := .cons rfl .nil
  refine wpAny_call (make_map (f := f) I.kIn M.makes M.init (beq_iff_eq.mp M.fn) (codeAny_mono (F.run _ X.stack _ _ ⟨[Value.ref (s.heap.objs.size + 1)], ks.zip ws⟩ (gb [Value.ref (s.heap.objs.size + 1)] ws) _ _ (E σ) (room.make C [] (ks.zip ws))
    (I2.env0.make C [] (ks.zip ws)) (b.to _ _ ws I2.kIn rfl (rz.length.symm.trans lz)) (b.rel self rz) had1) fun r s2 told => ?_))
  match r, told with
  | .error e, told => exact pass pins _ _ e s2 I2 told
  | .ok (.ret u), told =>
    obtain ⟨v, G, I3, ru, rfl, q⟩ := I2.after told
    exact ⟨ru, V.ref (s.heap.objs.size + 1), G, I3, rfl, q⟩
  | .ok .next, told => exact told.elim
  | .ok .brk, told => exact told.elim
  | .ok .cont, told => exact told.elim
/-- C(k = v, ..) -/
def tMakeS (C : Addr) (m : Nat) (sp : Sp) (gV : List V → List V → List V) (E : L2.St → XK) (tk : TA) : TE := fun σ H Q => tk σ H fun zs G => zs.length = m ∧ ∀ c dx, G c = none → G dx = none → dx ≠ c →
  sp (gV [.ref c] zs) (upd (upd G dx (.own c)) c (.ins C dx [])) (fun v G2 => v = .non ∧ Q (.ref c) G2) (E σ)
theorem pe_makeS (M : Mk X.K C f) (F : FnOk X.prog X.w X.K X.mg X.base CX k f fd ps sp) (room : Room (k + 1) X.A) (g : Gl X x) (m : X.mg x = some (.ref C)) (b : KBn X.K fd ps 1 ks gb gV) (pass : ∀ σ, PassesAt CX X σ (E σ)) (kw : PK X kws tk)
    (hall : (backToKw pos (keywordEach kws X.env)).all (·.1.isSome) = true := by rfl) (hks : (backToKw pos (keywordEach kws X.env)).filterMap (·.1) = ks := by rfl) (nodebug : (x == ("__debug__" : Str)) = false := by decide)
    (star : ((backTo pos (starEach [] X.env)).any (·.1) ||
      (backToKw pos (keywordEach kws X.env)).any (·.1.isNone)) = false := by rfl) :
    PE X (.Call (.Name x p) [] kws pos) (tMakeS C ks.length sp gV E tk) := by
  constructor
  intro pins s σ H Q I had
  refine wpAny_Call_Name_kw (ld_glob I g m ?_ nodebug)
  refine PySem.W.callWith_KW0 (h₀ := X.base) I.ok.mod.kin M.kp hall (thn (kw.run pos pins s σ H _ I had) ?_) star
  rintro ws s2 ⟨zs, G2, I2, rz, lz, q⟩
  rw [hks]
  exact ⟨I2.kIn, run_makeS M F room b (pass σ) I2 rz lz q⟩
end
end MkS

/-! a call of a class method that may raise -/
namespace MkS
open PySem PySem.Spec PyProof.Rows L2 ClX
section
variable {X : Cx} {CX : CXT} {k : Nat} {C p g : Addr} {mc : Value} {fd : FuncData} {ps : List Str} {sp : Sp} {E : L2.St → XK} {m : Str} {pos apos : Pos} {o e : Expr} {es : List Expr} {to : TE} {t : TA} {pl : Sem Bool}
def tCMethS (C : Addr) (sp : Sp) (E : L2.St → XK) (to : TE) (t : TA) : TE := fun σ H Q => to σ H fun x G => x = .ref C ∧ t σ G fun zs G2 => sp (.ref C :: zs) G2 Q (E σ)
/-- K.m(e, ..) -/
theorem pe_cmethS (he : PE X o to) (r : CRead X.K C mc) (c : CMet X.K C mc m p g) (F : FnOk X.prog X.w X.K X.mg X.base CX k g fd ps sp) (room : Room k X.A) (b : Binds X.K fd ps []) (pass : ∀ σ, PassesAt CX X σ (E σ)) (ha : PA X (e :: es) t)
    (one : starEach (e :: es) X.env = (false, eval e X.env) :: starEach es X.env := by rfl) (more : (backTo pos (starEach es X.env)).any (·.1) = false := by rfl)
    (road : eval (.Call (.Attribute o m apos) (e :: es) [] pos) X.env = (do
      let it ← eval o X.env
      standAt apos.atName
      let (fn, self) ← holding [it] (getMethod it m pl)
      callWith pos fn self (backTo pos (starEach (e :: es) X.env)) (backToKw pos (keywordEach [] X.env))) := by rfl) :
    PE X (.Call (.Attribute o m apos) (e :: es) [] pos) (tCMethS C sp E to t) := by
  constructor
  intro pins s σ H Q I had
  refine PySem.W.methodCall_KW (pl := pl) (thn (he.run pins s σ H _ I had) ?_) road
  rintro u s1 ⟨x, G, I1, ru, rfl, q⟩
  cases (show u = Value.ref C from ru)
  refine getmethcm_ok I1 r c ?_
  intro s2 I2
  refine callwith_cm I2 (base_none I1 (Nat.le_refl _)) c.fi (thn (ha.run pos _ s2 σ G _ I2 q) ?_) one more
  rintro us s3 ⟨zs, G2, I3, rz, q2⟩
  refine ⟨⟨pin_at I3, I3.kIn⟩, ?_⟩
  have both : Vals (V.ref C :: zs) (Value.ref C :: us) := .cons rfl rz
  have len : (Value.ref C :: us).length = ps.length := both.length.symm.trans (F.len _ _ _ _ q2)
  have args := b s3 (.ref C :: us) I3.kIn (by rw [List.append_nil]; exact len)
  rw [List.append_nil] at args
  have z : wpAny (model X.prog X.w) X.A (call (.ref s1.heap.objs.size) us) (EP X ((s1.heap.objs.size, PySem.W.methodObj (.ref g) (.ref C)) :: pins) σ Q) X.xe s3 := by
    refine wpAny_call (PySem.W.method_call (pin_at I3) (codeAny_mono (F.run X.A X.stack s3 G2 ⟨.ref C :: us, []⟩ (.ref C :: us) (.ref C :: zs) Q (E σ) room I3.env0 args both q2) ?_))
    intro r s4 told
    match r, told with
    | .error e, told => exact pass σ _ _ _ e s4 I3 told
    | .ok (.ret u), told => exact I3.after told
    | .ok .next, told => exact told.elim
    | .ok .brk, told => exact told.elim
    | .ok .cont, told => exact told.elim
  exact thn z fun _ _ told => unpinE told
end
end MkS

/-! more calls that may raise: a method without arguments, a class in a local name; a def with defaults where an exception is handled -/
namespace MkS
open PySem PySem.Spec PyProof.Rows L2
section
variable {X : Cx} {CX : CXT} {k : Nat} {f C : Addr} {fd : FuncData} {ps : List Str} {sp : Sp} {E : L2.St → XK} {m : Str} {pos apos : Pos} {o : Expr} {ta : TE} {pl : Sem Bool}
/-- o.m() -/
def tMethS0 (C : Addr) (m : Str) (sp : Sp) (E : L2.St → XK) (ta : TE) : TE := fun σ H Q => ta σ H fun x H1 => ∃ a dx fs, x = .ref a ∧ H1 a = some (.ins C dx fs) ∧ fs.lookup m = none ∧ sp [.ref a] H1 Q (E σ)
theorem pe_methS0 (he : PE X o ta) (c : Cls X.K C) (hm : Meth X.K C m f) (F : FnOk X.prog X.w X.K X.mg X.base CX k f fd ps sp) (room : Room k X.A) (b : Binds X.K fd ps []) (pass : ∀ σ, PassesAt CX X σ (E σ))
    (road : eval (.Call (.Attribute o m apos) [] [] pos) X.env = (do
      let it ← eval o X.env
      standAt apos.atName
      let (fn, self) ← holding [it] (getMethod it m pl)
      callWith pos fn self (backTo pos (starEach [] X.env)) (backToKw pos (keywordEach [] X.env))) := by rfl) :
    PE X (.Call (.Attribute o m apos) [] [] pos) (tMethS0 C m sp E ta) := by
  constructor
  intro pins s σ H Q I had
  refine PySem.W.methodCall_KW (pl := pl) (thn (he.run pins s σ H _ I had) ?_) road
  rintro u s1 ⟨x, H1, I1, ru, a, dx, fs, rfl, at_, no, q⟩
  cases (show u = Value.ref a from ru); skip
  refine getmeth_ok I1 at_ c hm no (PySem.W.callWith_K0 (first := [.ref a]) I1.kIn hm.kp ?_)
  exact run_fnS (us := [.ref a]) (vs := [.ref a]) F room b (pass σ) I1 (.cons rfl .nil) q
end
section
variable {X : Cx} {CX : CXT} {k i : Nat} {f C : Addr} {fd : FuncData} {ps ks : List Str} {sp : Sp} {E : L2.St → XK} {x : Str} {p pos : Pos} {kws : List Keyword} {tk : TA} {gb : List Value → List Value → List Value} {gV : List V → List V → List V}
/-- the i-th slot holds the class C: name(k = v, ..), its __init__ may raise -/
def tMakeLS (i : Nat) (C : Addr) (m : Nat) (sp : Sp) (gV : List V → List V → List V) (E : L2.St → XK) (tk : TA) : TE := fun σ H Q => σ[i]? = some (some (.ref C)) ∧ tMakeS C m sp gV E tk σ H Q
theorem pe_makeLS (M : Mk X.K C f) (F : FnOk X.prog X.w X.K X.mg X.base CX k f fd ps sp) (room : Room (k + 1) X.A) (at_ : X.N[i]? = some x) (vis : Vis X.env.scope x) (b : KBn X.K fd ps 1 ks gb gV) (pass : ∀ σ, PassesAt CX X σ (E σ)) (kw : PK X kws tk)
    (hall : (backToKw pos (keywordEach kws X.env)).all (·.1.isSome) = true := by rfl) (hks : (backToKw pos (keywordEach kws X.env)).filterMap (·.1) = ks := by rfl) (d1 : (x == ("__debug__" : Str)) = false := by decide) (d2 : (x == ("__classdict__" : Str)) = false := by decide)
    (star : ((backTo pos (starEach [] X.env)).any (·.1) ||
      (backToKw pos (keywordEach kws X.env)).any (·.1.isNone)) = false := by rfl) :
    PE X (.Call (.Name x p) [] kws pos) (tMakeLS i C ks.length sp gV E tk) := by
  constructor
  rintro pins s σ H Q I ⟨slot, had⟩
  refine wpAny_Call_Name_kw (thn ((pe_var (pos := p) at_ vis d1 d2).run pins s σ H (fun v G => v = .ref C ∧ G = H) I ⟨.ref C, slot, rfl, rfl⟩) ?_)
  rintro u s1 ⟨v, G, I1, rv, rfl, rfl⟩
  cases (show u = Value.ref C from rv)
  refine PySem.W.callWith_KW0 (h₀ := X.base)
    I.ok.mod.kin M.kp hall ?_ star
  refine thn (kw.run pos pins s1 σ G _ I1 had) ?_
  rintro ws s2 ⟨zs, G2, I2, rz, lz, q⟩
  rw [hks]
  exact ⟨I2.kIn, run_makeS M F room b (pass σ) I2 rz lz q⟩
end
end MkS
namespace L2
open PySem PySem.Spec PyProof.Rows
section
variable {P : Program} {w : World} {K : PySem.W.Frag} {mg : Str → Option Value} {base : Heap}
/-- a def with defaults called where an exception is handled, lets none out -/
theorem FunD.okH {x qual : Str} {params : Arguments} {body : List Stmt} {scope : Scope} {dvs : List V} {kws : List (Str × V)} {f : Addr} {fd : FuncData} {N ps : List Str} {k : Nat} {sp : Sp} (F : FunD K x qual params body scope dvs kws f fd) (S : FnScope N ps scope) (len : ∀ vs H Q E, sp vs H Q E → vs.length = ps.length)
    (walk : ∀ (cdv : Value) (A : Around) (outer : List Env) (s : Shared) (H : Hp) (vs : List V) (Q : VK) (E : XK) (p : Addr × Obj), L2H.Hot1 A p → L2H.RoomH k (A.deeper (envOfC qual scope s.heap.objs.size f cdv)) → sp vs H Q E →
      ∃ t, PSs (L2H.cxH CX0 P w K mg base N qual scope f cdv A outer s H E p).nox body t ∧ t { nx := fun _ H' => Q .non H', rt := Q } (start N vs) H) : L2H.FnH P w K mg base CX0 (k + 1) f fd ps sp := by
  obtain ⟨oc, od, dV, kV, doc, pm, an, cdv, ct, osl, rfl, lk, hcd, _, _⟩ := F.ex
  refine L2H.fn_ofH lk hcd S len fun A outer s H vs Q E p hot hr hsp => ?_
  obtain ⟨t, h, q⟩ := walk cdv A outer s H vs Q E p hot hr hsp
  exact ⟨t, h.nox, q⟩
/-- no keyword written: as if called by position with the defaults -/
theorem KBn.binds {fd : FuncData} {ps : List Str} {gb : List Value → List Value → List Value} {gV : List V → List V → List V} {ds : List Value} (b : KBn K fd ps 1 [] gb gV) (h : ∀ u, gb [u] [] = u :: ds) (hl : ps.length = ds.length + 1) : Binds K fd ps ds := by
  intro s us X l
  have e : us.length = 1 := by
    rw [List.length_append] at l
    omega
  match us, e with
  | [u], _ =>
    have z := b.to s [u] [] X rfl rfl
    rw [h u] at z
    exact z
end
end L2
namespace L2
open PySem PySem.Spec PyProof.Rows
theorem ix_kdictK {X : Cx} {K : PySem.W.Frag} {w : World} (h : X.K = K) (hw : X.w = w) : IxR X (rIxD K w) := by
  subst h
  subst hw
  exact ix_kdict
end L2
namespace L2
open PySem PySem.Spec PyProof.Rows
theorem pe_fldK {X : Cx} {K : PySem.W.Frag} {e : Expr} {f : Str} {pos : Pos} {ta : TE} (h : X.K = K) (it : PE X e ta) (hb : attributeBase e f X.env (eval e X.env) = eval e X.env) : PE X (.Attribute e f pos) (tFld K ta f) := by
  subst h
  exact pe_fld it hb
end L2

/-! == and repr of an instance with its own __eq__, __repr__ -/
namespace OwI
open PySem PySem.Spec PyProof.Rows L2
theorem stands {X : Cx} {pins : List (Addr × Obj)} {σ : L2.St} {H : Hp} {s : Shared} {a C dx : Addr} {fs : List (Str × V)} (I : Inv X pins σ H s) (e : H a = some (.ins C dx fs)) : ∃ o od, PySem.W.InstAt s.heap a o C (some od) := by
  obtain ⟨mA, O, _⟩ := ins_get I.hok e
  obtain ⟨od, J, _⟩ := O.look
  exact ⟨_, od, J⟩
/-- x op y, x an instance of the class at C whose def for op is at g, y an instance of the same class -/
def rOwnI (K : PySem.W.Frag) (C : Addr) (sp : Sp) (E : XK) : R2 := fun x y H Q => ∃ a dx fs b dy gs, x = .ref a ∧ y = .ref b ∧ H a = some (.ins C dx fs) ∧ H b = some (.ins C dy gs) ∧ PySem.W.notFirst K C (.ref C) = true ∧ sp [x, y] H Q E
section
variable {X : Cx} {CX : CXT} {C g : Addr} {n : Nat} {sp : Sp} {E : XK}
theorem op_ownI {op : CmpOp} (road : ∀ a b, compareOp op a b = richCompare op a b) (own : PySem.W.findIn X.K (.ref C) (cmpInfo op).2.1 = some (some (.ref g))) (isf : PySem.W.isFn X.K (.ref g) = true) (F : FnR X.prog X.w X.K X.mg X.base CX n g sp)
    (room : Room n X.A) (pass : Passes CX X E) : OpR X (compareOp op) (rOwnI X.K C sp E) := by
  rintro pins s σ H _ _ v u Q I rv ru ⟨a, dx, fs, b, dy, gs, rfl, rfl, ha, hb, nf, had⟩
  cases (show v = Value.ref a from rv)
  cases (show u = Value.ref b from ru)
  obtain ⟨o, od, J⟩ := stands I ha
  obtain ⟨o2, od2, J2⟩ := stands I hb
  obtain ⟨m, fr⟩ := I.fr
  rw [road]
  refine PySem.W.cmp_K (op := op) (tb := .ref C) room.units0 fr I.ok.mod.kin J J2.type nf own isf ?_
  refine wpAny_mono (wpAny_call (run_fnR (us := [.ref a, .ref b]) (vs := [.ref a, .ref b]) F room pass I (.cons rfl (.cons rfl .nil)) had)) ?_ fun _ _ z => z
  rintro w z ⟨y, G, I2, ry, q⟩
  exact SlX.cmpback ry ⟨y, G, I2, ry, q⟩
/-- repr(x), x an instance of the class at C with its own __repr__ at g -/
def rReprI (C : Addr) (sp : Sp) (E : XK) : List V → Hp → VK → Prop := fun xs H Q => ∃ a dx fs, xs = [.ref a] ∧ H a = some (.ins C dx fs) ∧ sp [.ref a] H (fun y G => ∃ t : Str, y = .str t ∧ Q y G) E
theorem call_reprI (own : PySem.W.findIn X.K (.ref C) "__repr__" = some (some (.ref g))) (isf : PySem.W.isFn X.K (.ref g) = true) (F : FnR X.prog X.w X.K X.mg X.base CX n g sp) (room : Room (n + 1) X.A) (pass : Passes CX X E) : CallR X (.builtin "repr") (rReprI C sp E) := by
  rintro pins s σ H _ us Q I rel ⟨a, dx, fs, rfl, ha, had⟩
  obtain ⟨u, rfl, ru⟩ := vals1 rel
  cases (show u = Value.ref a from ru); skip
  obtain ⟨o, od, J⟩ := stands I ha
  obtain ⟨m, fr⟩ := I.fr
  have room1 : Room n X.A.in1 := Room.in1 room
  refine PySem.W.repr_K room1.units0 fr I.ok.mod.kin J own isf ?_
  refine wpAny_mono (wpAny_call (SlX.run_at (us := [.ref a]) (ws := [.ref a]) F room1 I.env0.in1 pass I (.cons rfl .nil) had)) ?_ fun _ _ z => z
  rintro w z ⟨y, G, I2, ry, t, rfl, q⟩
  obtain ⟨tk, rfl⟩ := (show ∃ tk, w = Value.str t tk from ry)
  exact ⟨.str t, G, I2, ⟨tk, rfl⟩, q⟩
end
end OwI

/-! defs with a star parameter and keyword-only ones behind it, called with keywords -/
namespace StK
open PySem PySem.Spec PyProof.Rows L2 StX
/-- a def called with values and with keywords named ks, told of the values alone -/
def FnK (P : Program) (w : World) (K : PySem.W.Frag) (mg : Str → Option Value) (base : Heap) (CX : CXT) (k : Nat) (f : Addr) (ks : List Str) (sp : List V → List V → Hp → VK → XK → Prop) : Prop :=
  ∀ (A : Around) (outer : List Env) (s : Shared) (H : Hp) (us ws : List Value) (vs zs : List V) (Q : VK) (E : XK),
    Room k A → Env0 P w K mg base A outer s H → Vals vs us → Vals zs ws → zs.length = ks.length → sp vs zs H Q E →
      codeAny (model P w) A (.call (.ref f) ⟨us, ks.zip ws⟩) (CR CX outer P w H s Q E) s
section
variable {CX : CXT} {P : Program} {w : World} {K : PySem.W.Frag} {mg : Str → Option Value} {base : Heap} {k n : Nat} {f : Addr} {name qual : Str} {params : Arguments} {body : List Stmt} {scope : Scope} {dV kV doc pm cdv ct oc : Value} {an od : Option Addr}
  {osl : Array (Option Value)} {N ps ks : List Str} {sp : Sp}
theorem FnK.mono {j : Nat} {q : List V → List V → Hp → VK → XK → Prop} (F : FnK P w K mg base CX j f ks q) (h : j ≤ k) : FnK P w K mg base CX k f ks q :=
  fun A outer s H us ws vs zs Q E room => F A outer s H us ws vs zs Q E (room.mono h)
/-- def f(a, .., *v, k): n values ahead, the rest in a new tuple, each keyword written -/
theorem fn_starK {pv : Str} (at_ : K.lookup f = some ⟨oc, od, .func (PySem.W.fnOf name qual params body scope dV kV doc pm an cdv ct), osl⟩) (code : PySem.W.codeIn K cdv qual = true) (S : FnScope N (ps ++ [pv]) scope) (up : CXUp CX) (hps : ps.length = n + ks.length)
    (bind : ∀ us rest ws : List Value, us.length = n → ws.length = ks.length → bindArgs (PySem.W.fnOf name qual params body scope dV kV doc pm an cdv ct) ⟨us ++ rest, ks.zip ws⟩ = (newTuple rest >>= fun t => pure (ps.zip (us ++ ws) ++ [(pv, t)])))
    (run : ∀ (A : Around) (outer : List Env) (s : Shared) (H : Hp) (vs : List V) (Q : VK) (E : XK), Room k (A.deeper (envOfC qual scope s.heap.objs.size f cdv)) → sp vs H Q E →
      ∃ t, PSs (cxOf CX P w K mg base N qual scope f cdv A outer s H E) body t ∧ t { nx := fun _ H' => Q .non H', rt := Q } (start N vs) H) :
    FnK P w K mg base CX (k + 1) f ks (fun vs zs H Q E => ∃ hd rest, vs = hd ++ rest ∧ hd.length = n ∧ rest.length ≤ sizeLine ∧ ∀ p, H p = none → sp ((hd ++ zs) ++ [V.ref p]) (upd H p (.tup rest)) Q E) := by
  rintro A outer s H us ws vs zs Q E room env rv rz lz ⟨hd, rest, rfl, lh, small, goes⟩
  obtain ⟨u1, u2, rfl, r1, r2⟩ := vals_split rv
  have free : H s.heap.objs.size = none := env.hok.fresh (Nat.le_refl _)
  have l1 : u1.length = n := r1.length.symm.trans lh
  have lw : ws.length = ks.length := rz.length.symm.trans lz
  have few : u2.length ≤ sizeLine := by
    rw [← r2.length]
    exact small
  let here : Obj := { cls := .type "tuple", data := .seq u2.toArray }
  refine run_bnd at_ code S room env (G := fun xs G => ∃ p, H p = none ∧ xs = (hd ++ zs) ++ [V.ref p] ∧ G = upd H p (.tup rest)) (fun A' Ex Q' told => ?_) ?_
  · rw [bind u1 u2 ws l1 lw]
    refine wpAny_bind (wpAny_newTuple (wpAny_pure ?_) few)
    have laid : ObjOk P w (upd H s.heap.objs.size (.tup rest)) (s.heap.push here) s.heap.objs.size (.tup rest) := ⟨small, u2, r2, _, Heap.get?_push_size _ rfl, rfl, _, rfl⟩
    have un : Un (frs outer) [] H (upd H s.heap.objs.size (.tup rest)) s.heap (s.heap.push here) := un_laid free
    have len : ((hd ++ zs) ++ [V.ref s.heap.objs.size]).length = (ps ++ [pv]).length := by
      rw [List.length_append, List.length_append, List.length_append, lh, lz, hps]
      rfl
    have got := told _ _ ((hd ++ zs) ++ [V.ref s.heap.objs.size]) ((u1 ++ ws) ++ [Value.ref s.heap.objs.size]) (env0_laid env laid) un rfl
      (fun e s' => up outer s H _ _ E e s' un (fun b o q => Heap.get?_push_of_some _ q) rfl) ((r1.append rz).append (.cons rfl .nil)) len ⟨_, free, rfl, rfl⟩
    have cut : ps.length = (u1 ++ ws).length := by rw [List.length_append, l1, lw, hps]
    rw [List.zip_append cut] at got
    exact got
  · rintro s2 _ _ ⟨p, hp, rfl, rfl⟩ room'
    exact run A outer s2 _ _ Q E room' (goes p hp)
end
section
variable {X : Cx} {CX : CXT} {k : Nat} {f : Addr} {ks : List Str} {q : List V → List V → Hp → VK → XK → Prop} {E : XK} {x : Str} {p pos : Pos} {e : Expr} {es : List Expr} {kws : List Keyword} {t tk : TA}
def tCallFK (q : List V → List V → Hp → VK → XK → Prop) (n : Nat) (E : XK) (t tk : TA) : TE := fun σ H Q => t σ H fun vs H1 => tk σ H1 fun zs H2 => zs.length = n ∧ q vs zs H2 Q E
/-- f(e, .., k = v) of such a def -/
theorem pe_callFK (F : FnK X.prog X.w X.K X.mg X.base CX k f ks q) (room : Room k X.A) (gl : Gl X x) (there : X.mg x = some (.ref f)) (kp : PySem.W.keepIn X.K (.ref f) = true) (pass : Passes CX X E)
    (ha : PA X (e :: es) t) (hk : PK X kws tk) (each : (backToKw pos (keywordEach kws X.env)).all (·.1.isSome) = true := by rfl) (names : (backToKw pos (keywordEach kws X.env)).filterMap (·.1) = ks := by rfl)
    (nd : (x == ("__debug__" : Str)) = false := by decide) (st : starEach (e :: es) X.env = (false, eval e X.env) :: starEach es X.env := by rfl)
    (pl : ((backTo pos (starEach (e :: es) X.env)).any (·.1) || (backToKw pos (keywordEach kws X.env)).any (·.1.isNone)) = false := by rfl) :
    PE X (.Call (.Name x p) (e :: es) kws pos) (tCallFK q ks.length E t tk) := by
  refine ⟨fun pins s σ H Q I h => wpAny_Call_Name_kw (ld_glob I gl there ?_ nd)⟩
  refine PySem.W.callWith_KW (h₀ := X.base) I.ok.mod.kin kp each (thn (ha.run pos pins s σ H _ I h) ?_) pl st
  rintro us s1 ⟨vs, H1, I1, r, g1⟩
  refine thn (hk.run pos pins s1 σ H1 _ I1 g1) ?_
  rintro ws s2 ⟨zs, H2, I2, rz, lz, g2⟩
  refine ⟨I2.kIn, ?_⟩
  rw [names]
  refine wpAny_call (codeAny_mono (F X.A X.stack s2 H2 us ws vs zs Q E room I2.env0 r rz lz g2) fun out s' h' => ?_)
  match out, h' with
  | .error e, h' => exact pass pins σ H2 s2 e s' I2 h'
  | .ok (.ret u), h' => exact I2.after h'
  | .ok .next, h' => exact h'.elim
  | .ok .brk, h' => exact h'.elim
  | .ok .cont, h' => exact h'.elim
end
end StK

/-! xs[::-1] of a list; x in d as a test -/
namespace StK
open PySem PySem.Spec PyProof.Rows L2
section
variable {X : Cx} {e st : Expr} {te tk : TE} {pos p2 : Pos}
def tBack (K : PySem.W.Frag) (te tk : TE) : TE := fun σ H Q => te σ H fun x H1 => tk σ H1 fun z H2 => z = .int (-1) ∧ ∃ a xs, x = .ref a ∧ SqL K H2 a xs ∧ ∀ p, H2 p = none → Q (.ref p) (upd H2 p (.lst xs.reverse))
theorem pe_back (he : PE X e te) (hk : PE X st tk) : PE X (.Subscript e (.Slice none none (some st) p2) pos) (tBack X.K te tk) := by
  refine ⟨fun pins s σ H Q I h => Subscript_ (thn (he.run pins s σ H _ I h) ?_)⟩
  rintro v s1 ⟨x, H1, I1, r1, q1⟩
  refine wpAny_Slice ?_
  rw [evalPart_none]
  refine wpAny_pure (wpAny_pure ?_)
  rw [evalPart_some]
  refine thn (hk.run pins s1 σ H1 _ I1 q1) ?_
  rintro vk s3 ⟨z, H3, I3, rz, rfl, a, xs, rfl, hx, q⟩
  cases r1
  obtain ⟨tk3, rfl⟩ : ∃ t, vk = .int (-1) t := by
    obtain ⟨t, e⟩ := rz
    exact ⟨t, e⟩
  have I4 : Inv X pins σ H3 { s3 with heap := s3.heap.push { cls := .type "slice", data := .fields #[.none, .none, .int (-1) tk3] } } := I3.kept (t' := s3.toks) fun b ob g => Heap.get?_push_of_some _ g
  obtain ⟨its, r, ht, hz⟩ := I4.list hx
  have rl := r.length
  have sl : ({ s3 with heap := s3.heap.push { cls := .type "slice", data := .fields #[.none, .none, .int (-1) tk3] } } : Shared).heap.IsSliceOf s3.heap.objs.size .none .none (.int (-1) tk3) := Heap.IsSliceOf.new ..
  refine tail_any (T := "list") (ops := [.ref a, .ref s3.heap.objs.size]) ht.isList.typeIs slot_list_getitem.lookup ?_ rfl
  refine wpAny_getItem_list_slice ht.isList sl .none .none (.int _ _) (by decide) ?_ (by rw [List.size_toArray]; omega)
  rw [PySem.W.krv_pick]
  refine ⟨.ref _, _, I4.laid (t' := s3.toks) (o := .lst xs.reverse) (fun b ob g => Heap.get?_push_of_some _ g) (Nat.le_refl _) ?_, rfl, q _ (I4.hok.fresh (Nat.le_refl _))⟩
  exact ⟨by rw [List.length_reverse]; omega, _, 0, r.reverse, Heap.get?_push_size _ rfl⟩
end
end StK

namespace Pv
open Pm
theorem sort_ex (cs : List Bk) : ∃ bs : List Bk, bs.Perm cs ∧ bs.Pairwise fun a b => mn a.2 ≤ mn b.2 := by
  refine ⟨cs.mergeSort (fun a b => decide (mn a.2 ≤ mn b.2)), List.mergeSort_perm _ _, ?_⟩
  have := List.pairwise_mergeSort (le := fun a b : Bk => decide (mn a.2 ≤ mn b.2)) (fun a b c h1 h2 => by
    have h1 := of_decide_eq_true h1
    have h2 := of_decide_eq_true h2
    exact decide_eq_true (Nat.le_trans h1 h2)) (fun a b => by
    by_cases h : mn a.2 ≤ mn b.2
    · simp [h]
    · simp [h]
      omega) cs
  exact this.imp fun h => of_decide_eq_true h

end Pv

namespace Pv
open PySem L2
/-! ### error classes -/
def veM (M : Addr) : List Value := [.ref M, .type "ValueError", .type "Exception", .type "BaseException", .type "object"]
structure ErrK (K : PySem.W.Frag) (mg : Str → Option Value) (M C : Addr) (x : Str) : Prop where
  g : mg x = some (.ref C)
  k : PySem.W.keepIn K (.ref C) = true
  l : ∃ nm q N bs sn sub ab col dd k0 k1 k2 k3 k5, K.lookup C = some (excClassObj nm q C N bs (veM M) true sn sub ab col dd k0 k1 k2 k3 k5 "ValueError.__new__")
  sa : PySem.W.findIn K (.ref C) "__setattr__" = some (some (.builtin "object.__setattr__"))
  ga : PySem.W.findIn K (.ref C) "__getattribute__" = some (some (.builtin "BaseException.__getattribute__"))
  gg : PySem.W.findIn K (.ref C) "__getattr__" = some none
  ca : PySem.W.findIn K (.ref C) "__class__" = some (some (.builtin "object.__class__"))
structure ErrM (K : PySem.W.Frag) (mg : Str → Option Value) (M : Addr) : Prop where
  g : mg "MendError" = some (.ref M)
  l : ∃ nm q N bs bm sn sub ab col dd k0 k1 k2 k3 k5, K.lookup M = some (excClassObj nm q M N bs bm true sn sub ab col dd k0 k1 k2 k3 k5 "ValueError.__new__")
structure ErrF (K : PySem.W.Frag) (C I : Addr) (qual f : Str) (st : Stmt) : Prop where
  i : PySem.W.findIn K (.ref C) "__init__" = some (some (.ref I))
  t : PySem.W.typeIn K (.ref I) = some (.type "function")
  nf : PySem.W.findIn K (.ref C) f = some none
  fn : ∃ fd, Fun K "__init__" qual st I fd
section
variable {K : PySem.W.Frag} {mg : Str → Option Value} {M C D : Addr} {x : Str}
theorem ErrK.ty (E : ErrK K mg M C x) : PySem.W.typeIn K (.ref C) = some (.type "type") := by
  obtain ⟨nm, q, N, bs, sn, sub, ab, col, dd, k0, k1, k2, k3, k5, h⟩ := E.l
  show (K.lookup C).map (·.cls) = _
  rw [h]
  rfl
theorem ErrM.ty (E : ErrM K mg M) : PySem.W.typeIn K (.ref M) = some (.type "type") := by
  obtain ⟨nm, q, N, bs, bm, sn, sub, ab, col, dd, k0, k1, k2, k3, k5, h⟩ := E.l
  show (K.lookup M).map (·.cls) = _
  rw [h]
  rfl
theorem ErrM.cls (E : ErrM K mg M) : (PySem.W.clsIn K M).isSome = true := by
  obtain ⟨nm, q, N, bs, bm, sn, sub, ab, col, dd, k0, k1, k2, k3, k5, h⟩ := E.l
  unfold PySem.W.clsIn
  rw [h]
  rfl
theorem ErrK.mro (E : ErrK K mg M C x) (v : Value) : PySem.W.mroIn K C v = some ((Value.ref C :: veM M).contains v) := by
  obtain ⟨nm, q, N, bs, sn, sub, ab, col, dd, k0, k1, k2, k3, k5, h⟩ := E.l
  unfold PySem.W.mroIn PySem.W.clsIn
  rw [h]
  rfl
theorem ErrK.cls (E : ErrK K mg M C x) : (PySem.W.clsIn K C).isSome = true := by
  obtain ⟨nm, q, N, bs, sn, sub, ab, col, dd, k0, k1, k2, k3, k5, h⟩ := E.l
  unfold PySem.W.clsIn
  rw [h]
  rfl
theorem ErrK.hd (E : ErrK K mg M C x) : PySem.W.hasDictIn K C = true := by
  obtain ⟨nm, q, N, bs, sn, sub, ab, col, dd, k0, k1, k2, k3, k5, h⟩ := E.l
  unfold PySem.W.hasDictIn PySem.W.clsIn
  rw [h]
  rfl
theorem ErrK.sub (E : ErrK K mg M C x) : PySem.W.subIn K (.ref C) (.type "BaseException") = some true := by
  show PySem.W.mroIn K C _ = _
  rw [E.mro]
  simp [veM]
theorem ErrK.xfc (E : ErrK K mg M C x) : XfC K C := ⟨E.ga, E.gg, E.sub, E.hd⟩
theorem ErrK.oex (E : ErrK K mg M C x) : OexC K C := by
  obtain ⟨nm, q, N, bs, sn, sub, ab, col, dd, k0, k1, k2, k3, k5, h⟩ := E.l
  exact ⟨⟨nm, q, N, bs, veM M, sn, sub, ab, col, dd, k0, k1, k2, k3, k5, h, rfl⟩, E.sa, E.sub, E.ty, E.k⟩
theorem ErrK.exc (E : ErrK K mg M C x) (cn : PySem.W.specialIn K (.builtin "object.__class__") "__get__" = some (some (.builtin "getset_descriptor.__get__"))) (ct : PySem.W.takesIn K (.builtin "object.__class__") = some true) : ExcC K C :=
  ⟨E.ga, E.gg, E.sub, E.hd, E.ca, cn, ct, by rw [E.mro]; simp [veM]⟩
theorem kitCls_ref {t : Value} (h1 : (PySem.W.clsIn K D).isSome = true) (h2 : PySem.W.typeIn K (.ref D) = some (.type "type")) : PySem.W.kitCls K t (.ref D) = PySem.W.subIn K t (.ref D) := by
  show (if ((PySem.W.clsIn K D).isSome && PySem.W.typeIn K (.ref D) == some (.type "type")) = true then PySem.W.subIn K t (.ref D) else none) = _
  rw [h1, h2, if_pos (by simp)]
/-- isinstance against the class itself, its base, ValueError, another class -/
theorem kit_self : PySem.W.kitOne K (.ref C) (.ref C) = some true := by
  unfold PySem.W.kitOne
  rw [if_pos (by simp)]
theorem ErrK.kit_ne {y : Str} (E : ErrK K mg M C x) (F : ErrK K mg M D y) (h : C ≠ D) (hM : M ≠ D) : PySem.W.kitOne K (.ref C) (.ref D) = some false := by
  unfold PySem.W.kitOne
  rw [if_neg (by simp [h])]
  rw [kitCls_ref F.cls F.ty]
  show PySem.W.mroIn K C _ = _
  rw [E.mro]
  have h1 : D ≠ C := fun z => h z.symm
  have h2 : D ≠ M := fun z => hM z.symm
  simp [veM, h1, h2]
theorem ErrK.kit_base (E : ErrK K mg M C x) (F : ErrM K mg M) (h : C ≠ M) : PySem.W.kitOne K (.ref C) (.ref M) = some true := by
  unfold PySem.W.kitOne
  rw [if_neg (by simp [h])]
  rw [kitCls_ref F.cls F.ty]
  show PySem.W.mroIn K C _ = _
  rw [E.mro]
  simp [veM]
theorem ErrK.kit_ve (E : ErrK K mg M C x) : PySem.W.kitOne K (.ref C) (.type "ValueError") = some true := by
  unfold PySem.W.kitOne
  rw [if_neg (by simp)]
  unfold PySem.W.kitCls
  show (if PySem.W.kitMeta "ValueError" = true then PySem.W.mroIn K C (.type "ValueError") else none) = _
  rw [if_pos (by decide +kernel), E.mro]
  simp [veM]
theorem ErrK.exm (E : ErrK K mg M C x) : PySem.W.exmOne K (.ref C) (.ref C) = some true := by
  unfold PySem.W.exmOne
  rw [E.sub, if_pos (by simp)]
  rw [kitCls_ref E.cls E.ty]
  show PySem.W.mroIn K C _ = _
  rw [E.mro]
  simp
theorem ErrK.exm_ne {y : Str} (E : ErrK K mg M C x) (F : ErrK K mg M D y) (h : C ≠ D) (hM : M ≠ D) : PySem.W.exmOne K (.ref C) (.ref D) = some false := by
  unfold PySem.W.exmOne
  rw [F.sub, if_pos (by simp)]
  rw [kitCls_ref F.cls F.ty]
  show PySem.W.mroIn K C _ = _
  rw [E.mro]
  have h1 : D ≠ C := fun z => h z.symm
  have h2 : D ≠ M := fun z => hM z.symm
  simp [veM, h1, h2]
end
def word : Nat → Str
  | 0 => "free" | 1 => "pair" | 2 => "claim" | 3 => "hook" | 4 => "relay" | 5 => "clamp" | 6 => "trail" | _ => "wheel"
def wordsV : List V := [.str "free", .str "pair", .str "claim", .str "hook", .str "relay", .str "clamp", .str "trail", .str "wheel"]
def formsT : List (List Nat × Str) := [([0], "free"), ([1, 0], "pair"), ([1, 1], "claim"), ([1, 2, 1], "hook"), ([1, 2, 2], "relay"), ([1, 2, 1, 2], "clamp"), ([1, 2, 3, 2], "trail"), ([1, 2, 3, 0], "wheel")]
/-- a def with its promise: how it binds, too -/
def Okd (P : Program) (w : World) (K : PySem.W.Frag) (mg : Str → Option Value) (base : Heap) (CX : CXT) (k : Nat) (f : Addr) (ps : List Str) (sp : Sp) : Prop := ∃ fd, FnOk P w K mg base CX k f fd ps sp ∧ Binds K fd ps []
/-- a def called where an exception is handled, with its promise -/
def Okh (P : Program) (w : World) (K : PySem.W.Frag) (mg : Str → Option Value) (base : Heap) (CX : CXT) (k : Nat) (f : Addr) (ps : List Str) (sp : Sp) : Prop := ∃ fd, L2H.FnH P w K mg base CX k f fd ps sp ∧ Binds K fd ps []
/-! ### the text -/
def top (i : Nat) : Stmt := PySem.Challenge.pw_peermend_k15_whole_stopped_repairs.main.body.getD i (.Pass ⟨0, 0, 0, 0⟩)
abbrev s_own : Stmt := top 7
abbrev s_check_image : Stmt := top 9
abbrev s_groups : Stmt := top 10
abbrev s_least_records : Stmt := top 11
abbrev s_pieces : Stmt := top 15
abbrev s_is_repairable : Stmt := top 16
abbrev s_torn_pieces : Stmt := top 17
abbrev s_piece_of : Stmt := top 18
abbrev s_row_of : Stmt := top 19
abbrev s_m_init : Stmt := inClass (top 22) 2
abbrev s_m_number : Stmt := inClass (top 22) 13
abbrev s_m_change : Stmt := inClass (top 22) 14
abbrev s_m_copy : Stmt := inClass (top 22) 16
abbrev s_m_numbered : Stmt := inClass (top 22) 17
abbrev s_or_standard : Stmt := top 23
abbrev s_repair : Stmt := top 26
abbrev s_writes : Stmt := top 27
abbrev s_torn_repair : Stmt := top 28
abbrev s_choices : Stmt := top 29
abbrev s_chosen : Stmt := top 30
abbrev s_law_integer : Stmt := top 32
abbrev s_law_same : Stmt := top 33
abbrev s_law_cell : Stmt := top 34
abbrev s_law_stream : Stmt := top 35
abbrev s_law_draw : Stmt := top 36
abbrev s_law_size : Stmt := top 37
abbrev s_law_order : Stmt := top 38
abbrev s_law_length : Stmt := top 39
abbrev s_law_part : Stmt := top 40
abbrev s_law_shown : Stmt := top 41
abbrev s_law_mended : Stmt := top 42
abbrev s_law_goal : Stmt := top 43
abbrev s_law_words : Stmt := top 44
abbrev s_law_build : Stmt := top 45
abbrev s_law_steady : Stmt := top 46
abbrev s_law_some : Stmt := top 47
abbrev s_law_torn : Stmt := top 48
abbrev s_law_morning : Stmt := top 49
abbrev s_law_rests : Stmt := top 50
abbrev s_law : Stmt := top 51
abbrev s_InvalidNumber : Stmt := inClass (top 5) 0
abbrev s_InvalidRules : Stmt := inClass (top 6) 0
structure Ad where
  own : Addr
  check_image : Addr
  groups : Addr
  least_records : Addr
  pieces : Addr
  is_repairable : Addr
  torn_pieces : Addr
  piece_of : Addr
  row_of : Addr
  m_init : Addr
  m_number : Addr
  m_change : Addr
  m_copy : Addr
  m_numbered : Addr
  or_standard : Addr
  repair : Addr
  writes : Addr
  torn_repair : Addr
  choices : Addr
  chosen : Addr
  law_integer : Addr
  law_same : Addr
  law_cell : Addr
  law_stream : Addr
  law_draw : Addr
  law_size : Addr
  law_order : Addr
  law_length : Addr
  law_part : Addr
  law_shown : Addr
  law_mended : Addr
  law_goal : Addr
  law_words : Addr
  law_build : Addr
  law_steady : Addr
  law_some : Addr
  law_torn : Addr
  law_morning : Addr
  law_rests : Addr
  law : Addr
  WORDS : Addr
  WHOLE : Addr
  FORMS : Addr
  CHOICES : Addr
  MendError : Addr
  InvalidNumber : Addr
  InvalidRules : Addr
  i_InvalidNumber : Addr
  i_InvalidRules : Addr
  Rules : Addr
  NAMES : Addr
  p_number : Addr
  p_numbered : Addr
abbrev N_own : List Str := ["given"]
abbrev P_own : List Str := ["given"]
theorem sc_own : FnScope N_own P_own (defScope s_own) := ⟨rfl, rfl, rfl, by decide +kernel, rfl, by decide +kernel, by decide +kernel⟩
abbrev N_check_image : List Str := ["image", "size", "record", "name"]
abbrev P_check_image : List Str := ["image"]
theorem sc_check_image : FnScope N_check_image P_check_image (defScope s_check_image) := ⟨rfl, rfl, rfl, by decide +kernel, rfl, by decide +kernel, by decide +kernel⟩
abbrev N_groups : List Str := ["image", "found", "record", "least"]
abbrev P_groups : List Str := ["image"]
theorem sc_groups : FnScope N_groups P_groups (defScope s_groups) := ⟨rfl, rfl, rfl, by decide +kernel, rfl, by decide +kernel, by decide +kernel⟩
abbrev N_least_records : List Str := ["image", "least", "record", "name", "low", "high", "old"]
abbrev P_least_records : List Str := ["image"]
theorem sc_least_records : FnScope N_least_records P_least_records (defScope s_least_records) := ⟨rfl, rfl, rfl, by decide +kernel, rfl, by decide +kernel, by decide +kernel⟩
abbrev N_pieces : List Str := ["image", "found", "group", "piece"]
abbrev P_pieces : List Str := ["image"]
theorem sc_pieces : FnScope N_pieces P_pieces (defScope s_pieces) := ⟨rfl, rfl, rfl, by decide +kernel, rfl, by decide +kernel, by decide +kernel⟩
abbrev N_is_repairable : List Str := ["image", "group"]
abbrev P_is_repairable : List Str := ["image"]
theorem sc_is_repairable : FnScope N_is_repairable P_is_repairable (defScope s_is_repairable) := ⟨rfl, rfl, rfl, by decide +kernel, rfl, by decide +kernel, by decide +kernel⟩
abbrev N_torn_pieces : List Str := ["image", "piece"]
abbrev P_torn_pieces : List Str := ["image"]
theorem sc_torn_pieces : FnScope N_torn_pieces P_torn_pieces (defScope s_torn_pieces) := ⟨rfl, rfl, rfl, by decide +kernel, rfl, by decide +kernel, by decide +kernel⟩
abbrev N_piece_of : List Str := ["image", "group", "records", "shape", "word", "record"]
abbrev P_piece_of : List Str := ["image", "group"]
theorem sc_piece_of : FnScope N_piece_of P_piece_of (defScope s_piece_of) := ⟨rfl, rfl, rfl, by decide +kernel, rfl, by decide +kernel, by decide +kernel⟩
abbrev N_row_of : List Str := ["image", "group", "shown", "tails", "here", "row", "record"]
abbrev P_row_of : List Str := ["image", "group"]
theorem sc_row_of : FnScope N_row_of P_row_of (defScope s_row_of) := ⟨rfl, rfl, rfl, by decide +kernel, rfl, by decide +kernel, by decide +kernel⟩
abbrev N_m_init : List Str := ["self", "hook", "relay", "clamp", "trail", "wheel"]
abbrev P_m_init : List Str := ["self", "hook", "relay", "clamp", "trail", "wheel"]
theorem sc_m_init : FnScope N_m_init P_m_init (defScope s_m_init) := ⟨rfl, rfl, rfl, by decide +kernel, rfl, by decide +kernel, by decide +kernel⟩
abbrev N_m_number : List Str := ["self", "seconds", "name", "at", "second"]
abbrev P_m_number : List Str := ["self"]
theorem sc_m_number : FnScope N_m_number P_m_number (defScope s_m_number) := ⟨rfl, rfl, rfl, by decide +kernel, rfl, by decide +kernel, by decide +kernel⟩
abbrev N_m_change : List Str := ["self", "name", "choice"]
abbrev P_m_change : List Str := ["self", "name", "choice"]
theorem sc_m_change : FnScope N_m_change P_m_change (defScope s_m_change) := ⟨rfl, rfl, rfl, by decide +kernel, rfl, by decide +kernel, by decide +kernel⟩
abbrev N_m_copy : List Str := ["self"]
abbrev P_m_copy : List Str := ["self"]
theorem sc_m_copy : FnScope N_m_copy P_m_copy (defScope s_m_copy) := ⟨rfl, rfl, rfl, by decide +kernel, rfl, by decide +kernel, by decide +kernel⟩
abbrev N_m_numbered : List Str := ["cls", "number", "words", "at", "name"]
abbrev P_m_numbered : List Str := ["cls", "number"]
theorem sc_m_numbered : FnScope N_m_numbered P_m_numbered (defScope s_m_numbered) := ⟨rfl, rfl, rfl, by decide +kernel, rfl, by decide +kernel, by decide +kernel⟩
abbrev N_or_standard : List Str := ["rules"]
abbrev P_or_standard : List Str := ["rules"]
theorem sc_or_standard : FnScope N_or_standard P_or_standard (defScope s_or_standard) := ⟨rfl, rfl, rfl, by decide +kernel, rfl, by decide +kernel, by decide +kernel⟩
abbrev N_repair : List Str := ["image", "rules", "state", "word", "records", "record", "name"]
abbrev P_repair : List Str := ["image", "rules"]
theorem sc_repair : FnScope N_repair P_repair (defScope s_repair) := ⟨rfl, rfl, rfl, by decide +kernel, rfl, by decide +kernel, by decide +kernel⟩
abbrev N_writes : List Str := ["image", "rules", "state", "name", "record"]
abbrev P_writes : List Str := ["image", "rules"]
theorem sc_writes : FnScope N_writes P_writes (defScope s_writes) := ⟨rfl, rfl, rfl, by decide +kernel, rfl, by decide +kernel, by decide +kernel⟩
abbrev N_torn_repair : List Str := ["image", "rules", "done", "allowed", "record", "state", "name"]
abbrev P_torn_repair : List Str := ["image", "rules", "done"]
theorem sc_torn_repair : FnScope N_torn_repair P_torn_repair (defScope s_torn_repair) := ⟨rfl, rfl, rfl, by decide +kernel, rfl, by decide +kernel, by decide +kernel⟩
abbrev N_choices : List Str := ["word", "records", "found", "places", "place", "record"]
abbrev P_choices : List Str := ["word", "records"]
theorem sc_choices : FnScope N_choices P_choices (defScope s_choices) := ⟨rfl, rfl, rfl, by decide +kernel, rfl, by decide +kernel, by decide +kernel⟩
abbrev N_chosen : List Str := ["rules", "word"]
abbrev P_chosen : List Str := ["rules", "word"]
theorem sc_chosen : FnScope N_chosen P_chosen (defScope s_chosen) := ⟨rfl, rfl, rfl, by decide +kernel, rfl, by decide +kernel, by decide +kernel⟩
abbrev N_law_integer : List Str := ["value"]
abbrev P_law_integer : List Str := ["value"]
theorem sc_law_integer : FnScope N_law_integer P_law_integer (defScope s_law_integer) := ⟨rfl, rfl, rfl, by decide +kernel, rfl, by decide +kernel, by decide +kernel⟩
abbrev N_law_same : List Str := ["told", "due", "k"]
abbrev P_law_same : List Str := ["told", "due"]
theorem sc_law_same : FnScope N_law_same P_law_same (defScope s_law_same) := ⟨rfl, rfl, rfl, by decide +kernel, rfl, by decide +kernel, by decide +kernel⟩
abbrev N_law_cell : List Str := ["script", "k", "spare", "cell"]
abbrev P_law_cell : List Str := ["script", "k"]
theorem sc_law_cell : FnScope N_law_cell P_law_cell (defScope s_law_cell) := ⟨rfl, rfl, rfl, by decide +kernel, rfl, by decide +kernel, by decide +kernel⟩
abbrev N_law_stream : List Str := ["script", "k", "cell", "rest"]
abbrev P_law_stream : List Str := ["script", "k"]
theorem sc_law_stream : FnScope N_law_stream P_law_stream (defScope s_law_stream) := ⟨rfl, rfl, rfl, by decide +kernel, rfl, by decide +kernel, by decide +kernel⟩
abbrev N_law_draw : List Str := ["stream", "size", "digit", "first", "second"]
abbrev P_law_draw : List Str := ["stream", "size"]
theorem sc_law_draw : FnScope N_law_draw P_law_draw (defScope s_law_draw) := ⟨rfl, rfl, rfl, by decide +kernel, rfl, by decide +kernel, by decide +kernel⟩
abbrev N_law_size : List Str := ["stream", "way"]
abbrev P_law_size : List Str := ["stream"]
theorem sc_law_size : FnScope N_law_size P_law_size (defScope s_law_size) := ⟨rfl, rfl, rfl, by decide +kernel, rfl, by decide +kernel, by decide +kernel⟩
abbrev N_law_order : List Str := ["stream", "size", "order", "k", "at", "record"]
abbrev P_law_order : List Str := ["stream", "size"]
theorem sc_law_order : FnScope N_law_order P_law_order (defScope s_law_order) := ⟨rfl, rfl, rfl, by decide +kernel, rfl, by decide +kernel, by decide +kernel⟩
abbrev N_law_length : List Str := ["word"]
abbrev P_law_length : List Str := ["word"]
theorem sc_law_length : FnScope N_law_length P_law_length (defScope s_law_length) := ⟨rfl, rfl, rfl, by decide +kernel, rfl, by decide +kernel, by decide +kernel⟩
abbrev N_law_part : List Str := ["word", "part", "at"]
abbrev P_law_part : List Str := ["word", "part"]
theorem sc_law_part : FnScope N_law_part P_law_part (defScope s_law_part) := ⟨rfl, rfl, rfl, by decide +kernel, rfl, by decide +kernel, by decide +kernel⟩
abbrev N_law_shown : List Str := ["word", "p"]
abbrev P_law_shown : List Str := ["word", "p"]
theorem sc_law_shown : FnScope N_law_shown P_law_shown (defScope s_law_shown) := ⟨rfl, rfl, rfl, by decide +kernel, rfl, by decide +kernel, by decide +kernel⟩
abbrev N_law_mended : List Str := ["word", "p", "bits", "second"]
abbrev P_law_mended : List Str := ["word", "p", "bits"]
theorem sc_law_mended : FnScope N_law_mended P_law_mended (defScope s_law_mended) := ⟨rfl, rfl, rfl, by decide +kernel, rfl, by decide +kernel, by decide +kernel⟩
abbrev N_law_goal : List Str := ["image", "built", "bits", "goal", "word", "part", "names", "k"]
abbrev P_law_goal : List Str := ["image", "built", "bits"]
theorem sc_law_goal : FnScope N_law_goal P_law_goal (defScope s_law_goal) := ⟨rfl, rfl, rfl, by decide +kernel, rfl, by decide +kernel, by decide +kernel⟩
abbrev N_law_words : List Str := ["room", "bare", "full", "words", "word"]
abbrev P_law_words : List Str := ["room", "bare", "full"]
theorem sc_law_words : FnScope N_law_words P_law_words (defScope s_law_words) := ⟨rfl, rfl, rfl, by decide +kernel, rfl, by decide +kernel, by decide +kernel⟩
abbrev N_law_build : List Str := ["stream", "size", "broken", "bare", "most", "order", "image", "place", "loose", "at", "shows", "k", "torn", "turn", "words", "word", "part", "shown", "built", "x"]
abbrev P_law_build : List Str := ["stream", "size", "broken", "bare", "most"]
theorem sc_law_build : FnScope N_law_build P_law_build (defScope s_law_build) := ⟨rfl, rfl, rfl, by decide +kernel, rfl, by decide +kernel, by decide +kernel⟩
abbrev N_law_steady : List Str := ["stream", "way", "bits", "number", "held"]
abbrev P_law_steady : List Str := ["stream"]
theorem sc_law_steady : FnScope N_law_steady P_law_steady (defScope s_law_steady) := ⟨rfl, rfl, rfl, by decide +kernel, rfl, by decide +kernel, by decide +kernel⟩
abbrev N_law_some : List Str := ["image", "done", "held"]
abbrev P_law_some : List Str := ["image", "done", "held"]
theorem sc_law_some : FnScope N_law_some P_law_some (defScope s_law_some) := ⟨rfl, rfl, rfl, by decide +kernel, rfl, by decide +kernel, by decide +kernel⟩
abbrev N_law_torn : List Str := ["image", "done", "held", "one", "two"]
abbrev P_law_torn : List Str := ["image", "done", "held"]
theorem sc_law_torn : FnScope N_law_torn P_law_torn (defScope s_law_torn) := ⟨rfl, rfl, rfl, by decide +kernel, rfl, by decide +kernel, by decide +kernel⟩
abbrev N_law_morning : List Str := ["stream", "image", "goal", "held", "most", "many", "due", "mine", "done", "k", "row", "x"]
abbrev P_law_morning : List Str := ["stream", "image", "goal", "held", "most"]
theorem sc_law_morning : FnScope N_law_morning P_law_morning (defScope s_law_morning) := ⟨rfl, rfl, rfl, by decide +kernel, rfl, by decide +kernel, by decide +kernel⟩
abbrev N_law_rests : List Str := ["goal", "held"]
abbrev P_law_rests : List Str := ["goal", "held"]
theorem sc_law_rests : FnScope N_law_rests P_law_rests (defScope s_law_rests) := ⟨rfl, rfl, rfl, by decide +kernel, rfl, by decide +kernel, by decide +kernel⟩
abbrev N_law : List Str := ["script", "start", "bare", "size", "mornings", "most", "image", "built", "loose", "held", "bits", "goal", "turn", "stream", "told"]
abbrev P_law : List Str := ["script"]
theorem sc_law : FnScope N_law P_law (defScope s_law) := ⟨rfl, rfl, rfl, by decide +kernel, rfl, by decide +kernel, by decide +kernel⟩
abbrev N_InvalidNumber : List Str := ["self", "value"]
abbrev P_InvalidNumber : List Str := ["self", "value"]
theorem sc_InvalidNumber : FnScope N_InvalidNumber P_InvalidNumber (defScope s_InvalidNumber) := ⟨rfl, rfl, rfl, by decide +kernel, rfl, by decide +kernel, by decide +kernel⟩
abbrev N_InvalidRules : List Str := ["self", "name"]
abbrev P_InvalidRules : List Str := ["self", "name"]
theorem sc_InvalidRules : FnScope N_InvalidRules P_InvalidRules (defScope s_InvalidRules) := ⟨rfl, rfl, rfl, by decide +kernel, rfl, by decide +kernel, by decide +kernel⟩
def kwsR : List (Str × V) := [("hook", .str "back"), ("relay", .str "near"), ("clamp", .str "inner"), ("trail", .str "near"), ("wheel", .str "even")]
structure Txt (K : PySem.W.Frag) (mg : Str → Option Value) (A : Ad) : Prop where
  g_own : mg "_own" = some (.ref A.own)
  k_own : PySem.W.keepIn K (.ref A.own) = true
  d_own : ∃ fd, Fun K "_own" "_own" s_own A.own fd
  g_check_image : mg "check_image" = some (.ref A.check_image)
  k_check_image : PySem.W.keepIn K (.ref A.check_image) = true
  d_check_image : ∃ fd, Fun K "check_image" "check_image" s_check_image A.check_image fd
  g_groups : mg "groups" = some (.ref A.groups)
  k_groups : PySem.W.keepIn K (.ref A.groups) = true
  d_groups : ∃ fd, Fun K "groups" "groups" s_groups A.groups fd
  g_least_records : mg "_least_records" = some (.ref A.least_records)
  k_least_records : PySem.W.keepIn K (.ref A.least_records) = true
  d_least_records : ∃ fd, Fun K "_least_records" "_least_records" s_least_records A.least_records fd
  g_pieces : mg "pieces" = some (.ref A.pieces)
  k_pieces : PySem.W.keepIn K (.ref A.pieces) = true
  d_pieces : ∃ fd, Fun K "pieces" "pieces" s_pieces A.pieces fd
  g_is_repairable : mg "is_repairable" = some (.ref A.is_repairable)
  k_is_repairable : PySem.W.keepIn K (.ref A.is_repairable) = true
  d_is_repairable : ∃ fd, Fun K "is_repairable" "is_repairable" s_is_repairable A.is_repairable fd
  g_torn_pieces : mg "torn_pieces" = some (.ref A.torn_pieces)
  k_torn_pieces : PySem.W.keepIn K (.ref A.torn_pieces) = true
  d_torn_pieces : ∃ fd, Fun K "torn_pieces" "torn_pieces" s_torn_pieces A.torn_pieces fd
  g_piece_of : mg "_piece_of" = some (.ref A.piece_of)
  k_piece_of : PySem.W.keepIn K (.ref A.piece_of) = true
  d_piece_of : ∃ fd, Fun K "_piece_of" "_piece_of" s_piece_of A.piece_of fd
  g_row_of : mg "_row_of" = some (.ref A.row_of)
  k_row_of : PySem.W.keepIn K (.ref A.row_of) = true
  d_row_of : ∃ fd, Fun K "_row_of" "_row_of" s_row_of A.row_of fd
  d_m_init : ∃ fd, FunD K "__init__" "Rules.__init__" (defArgs s_m_init) (defBody s_m_init) (defScope s_m_init) [] kwsR A.m_init fd
  d_m_number : ∃ fd, Fun K "number" "Rules.number" s_m_number A.m_number fd
  d_m_change : ∃ fd, Fun K "change" "Rules.change" s_m_change A.m_change fd
  d_m_copy : ∃ fd, Fun K "copy" "Rules.copy" s_m_copy A.m_copy fd
  d_m_numbered : ∃ fd, Fun K "numbered" "Rules.numbered" s_m_numbered A.m_numbered fd
  g_or_standard : mg "or_standard" = some (.ref A.or_standard)
  k_or_standard : PySem.W.keepIn K (.ref A.or_standard) = true
  d_or_standard : ∃ fd, Fun K "or_standard" "or_standard" s_or_standard A.or_standard fd
  g_repair : mg "repair" = some (.ref A.repair)
  k_repair : PySem.W.keepIn K (.ref A.repair) = true
  d_repair : ∃ fd, FunD K "repair" "repair" (defArgs s_repair) (defBody s_repair) (defScope s_repair) [V.non] [] A.repair fd
  g_writes : mg "writes" = some (.ref A.writes)
  k_writes : PySem.W.keepIn K (.ref A.writes) = true
  d_writes : ∃ fd, FunD K "writes" "writes" (defArgs s_writes) (defBody s_writes) (defScope s_writes) [V.non] [] A.writes fd
  g_torn_repair : mg "torn_repair" = some (.ref A.torn_repair)
  k_torn_repair : PySem.W.keepIn K (.ref A.torn_repair) = true
  d_torn_repair : ∃ fd, FunD K "torn_repair" "torn_repair" (defArgs s_torn_repair) (defBody s_torn_repair) (defScope s_torn_repair) [] [("rules", V.non)] A.torn_repair fd
  g_choices : mg "choices" = some (.ref A.choices)
  k_choices : PySem.W.keepIn K (.ref A.choices) = true
  d_choices : ∃ fd, Fun K "choices" "choices" s_choices A.choices fd
  g_chosen : mg "_chosen" = some (.ref A.chosen)
  k_chosen : PySem.W.keepIn K (.ref A.chosen) = true
  d_chosen : ∃ fd, Fun K "_chosen" "_chosen" s_chosen A.chosen fd
  g_law_integer : mg "_law_integer" = some (.ref A.law_integer)
  k_law_integer : PySem.W.keepIn K (.ref A.law_integer) = true
  d_law_integer : ∃ fd, Fun K "_law_integer" "_law_integer" s_law_integer A.law_integer fd
  g_law_same : mg "_law_same" = some (.ref A.law_same)
  k_law_same : PySem.W.keepIn K (.ref A.law_same) = true
  d_law_same : ∃ fd, Fun K "_law_same" "_law_same" s_law_same A.law_same fd
  g_law_cell : mg "_law_cell" = some (.ref A.law_cell)
  k_law_cell : PySem.W.keepIn K (.ref A.law_cell) = true
  d_law_cell : ∃ fd, Fun K "_law_cell" "_law_cell" s_law_cell A.law_cell fd
  g_law_stream : mg "_law_stream" = some (.ref A.law_stream)
  k_law_stream : PySem.W.keepIn K (.ref A.law_stream) = true
  d_law_stream : ∃ fd, Fun K "_law_stream" "_law_stream" s_law_stream A.law_stream fd
  g_law_draw : mg "_law_draw" = some (.ref A.law_draw)
  k_law_draw : PySem.W.keepIn K (.ref A.law_draw) = true
  d_law_draw : ∃ fd, Fun K "_law_draw" "_law_draw" s_law_draw A.law_draw fd
  g_law_size : mg "_law_size" = some (.ref A.law_size)
  k_law_size : PySem.W.keepIn K (.ref A.law_size) = true
  d_law_size : ∃ fd, Fun K "_law_size" "_law_size" s_law_size A.law_size fd
  g_law_order : mg "_law_order" = some (.ref A.law_order)
  k_law_order : PySem.W.keepIn K (.ref A.law_order) = true
  d_law_order : ∃ fd, Fun K "_law_order" "_law_order" s_law_order A.law_order fd
  g_law_length : mg "_law_length" = some (.ref A.law_length)
  k_law_length : PySem.W.keepIn K (.ref A.law_length) = true
  d_law_length : ∃ fd, Fun K "_law_length" "_law_length" s_law_length A.law_length fd
  g_law_part : mg "_law_part" = some (.ref A.law_part)
  k_law_part : PySem.W.keepIn K (.ref A.law_part) = true
  d_law_part : ∃ fd, Fun K "_law_part" "_law_part" s_law_part A.law_part fd
  g_law_shown : mg "_law_shown" = some (.ref A.law_shown)
  k_law_shown : PySem.W.keepIn K (.ref A.law_shown) = true
  d_law_shown : ∃ fd, Fun K "_law_shown" "_law_shown" s_law_shown A.law_shown fd
  g_law_mended : mg "_law_mended" = some (.ref A.law_mended)
  k_law_mended : PySem.W.keepIn K (.ref A.law_mended) = true
  d_law_mended : ∃ fd, Fun K "_law_mended" "_law_mended" s_law_mended A.law_mended fd
  g_law_goal : mg "_law_goal" = some (.ref A.law_goal)
  k_law_goal : PySem.W.keepIn K (.ref A.law_goal) = true
  d_law_goal : ∃ fd, Fun K "_law_goal" "_law_goal" s_law_goal A.law_goal fd
  g_law_words : mg "_law_words" = some (.ref A.law_words)
  k_law_words : PySem.W.keepIn K (.ref A.law_words) = true
  d_law_words : ∃ fd, Fun K "_law_words" "_law_words" s_law_words A.law_words fd
  g_law_build : mg "_law_build" = some (.ref A.law_build)
  k_law_build : PySem.W.keepIn K (.ref A.law_build) = true
  d_law_build : ∃ fd, Fun K "_law_build" "_law_build" s_law_build A.law_build fd
  g_law_steady : mg "_law_steady" = some (.ref A.law_steady)
  k_law_steady : PySem.W.keepIn K (.ref A.law_steady) = true
  d_law_steady : ∃ fd, Fun K "_law_steady" "_law_steady" s_law_steady A.law_steady fd
  g_law_some : mg "_law_some" = some (.ref A.law_some)
  k_law_some : PySem.W.keepIn K (.ref A.law_some) = true
  d_law_some : ∃ fd, Fun K "_law_some" "_law_some" s_law_some A.law_some fd
  g_law_torn : mg "_law_torn" = some (.ref A.law_torn)
  k_law_torn : PySem.W.keepIn K (.ref A.law_torn) = true
  d_law_torn : ∃ fd, Fun K "_law_torn" "_law_torn" s_law_torn A.law_torn fd
  g_law_morning : mg "_law_morning" = some (.ref A.law_morning)
  k_law_morning : PySem.W.keepIn K (.ref A.law_morning) = true
  d_law_morning : ∃ fd, Fun K "_law_morning" "_law_morning" s_law_morning A.law_morning fd
  g_law_rests : mg "_law_rests" = some (.ref A.law_rests)
  k_law_rests : PySem.W.keepIn K (.ref A.law_rests) = true
  d_law_rests : ∃ fd, Fun K "_law_rests" "_law_rests" s_law_rests A.law_rests fd
  g_law : mg "law" = some (.ref A.law)
  k_law : PySem.W.keepIn K (.ref A.law) = true
  d_law : ∃ fd, Fun K "law" "law" s_law A.law fd
  e_MendError : ErrM K mg A.MendError
  e_InvalidNumber : ErrK K mg A.MendError A.InvalidNumber "InvalidNumber"
  e_InvalidRules : ErrK K mg A.MendError A.InvalidRules "InvalidRules"
  f_InvalidNumber : ErrF K A.InvalidNumber A.i_InvalidNumber "InvalidNumber.__init__" "value" s_InvalidNumber
  f_InvalidRules : ErrF K A.InvalidRules A.i_InvalidRules "InvalidRules.__init__" "name" s_InvalidRules
  g_WORDS : mg "_WORDS" = some (.ref A.WORDS)
  g_WHOLE : mg "_WHOLE" = some (.ref A.WHOLE)
  g_FORMS : mg "_FORMS" = some (.ref A.FORMS)
  g_CHOICES : mg "_CHOICES" = some (.ref A.CHOICES)
  g_Rules : mg "Rules" = some (.ref A.Rules)
  cR : Cls K A.Rules
  mkR : Mk K A.Rules A.m_init
  mt_change : Meth K A.Rules "change" A.m_change
  mt_copy : Meth K A.Rules "copy" A.m_copy
  pp_number : PropOf K A.Rules "number" A.p_number A.m_number
  nc : NoAttr K A.Rules "_choices"
  rd : ClX.CRead K A.Rules (.type "type")
  cv_NAMES : ClX.CVal K A.Rules (.type "type") "NAMES" (.ref A.NAMES) (.ref A.NAMES)
  tN : ∀ H, SqT K H A.NAMES [.str "hook", .str "relay", .str "clamp", .str "trail", .str "wheel"]
  cv_COUNT : ∃ u, ClX.CVal K A.Rules (.type "type") "COUNT" (.int 32) u
  cm : ClX.CMet K A.Rules (.type "type") "numbered" A.p_numbered A.m_numbered
  n_int : mg "int" = none
  n_bool : mg "bool" = none
  n_str : mg "str" = none
  n_list : mg "list" = none
  n_tuple : mg "tuple" = none
  n_dict : mg "dict" = none
  n_len : mg "len" = none
  n_range : mg "range" = none
  n_enumerate : mg "enumerate" = none
  n_isinstance : mg "isinstance" = none
  n_sum : mg "sum" = none
  n_min : mg "min" = none
  n_max : mg "max" = none
  n_zip : mg "zip" = none
  n_all : mg "all" = none
  n_sorted : mg "sorted" = none
  lN : ∃ o, K.lookup A.NAMES = some o ∧ o.cls = .type "tuple" ∧ o.dict = none
  w_WHOLE : ∀ H, SqT K H A.WHOLE [.str "free", .str "pair"]
  nd : [A.MendError, A.InvalidNumber, A.InvalidRules].Nodup
end Pv

namespace Pv
open PySem L2
/-- all but what stands at b is as it was -/
def Mut (b : Addr) (H H' : Hp) : Prop := ∀ a o, a ≠ b → H a = some o → H' a = some o
theorem Mut.refl (b : Addr) (H : Hp) : Mut b H H := fun _ _ _ e => e
theorem Mut.trans {b : Addr} {H H1 H2 : Hp} (x : Mut b H H1) (y : Mut b H1 H2) : Mut b H H2 := fun a o n e => y a o n (x a o n e)
theorem Mut.upd {b : Addr} {H H1 : Hp} {o : HO} (x : Mut b H H1) : Mut b H (L2.upd H1 b o) := fun a u n e => by
  rw [upd_ne n]
  exact x a u n e
theorem Mut.new {b p : Addr} {H H1 : Hp} {o : HO} (x : Mut b H H1) (hp : H1 p = none) : Mut b H (L2.upd H1 p o) := fun a u n e => by
  have e1 := x a u n e
  rw [upd_ne (ne_of_none e1 hp)]
  exact e1
theorem Mut.free {b p : Addr} {H H1 : Hp} (x : Mut b H H1) (h : p ≠ b) (hp : H1 p = none) : H p = none := by
  cases e : H p with
  | none => rfl
  | some o =>
    rw [x p o h e] at hp
    cases hp
/-- the bag of the draws -/
def bagL (g f s : Int) : List V := [.int g, .int f, .int s]
structure BagOk (g f s : Int) : Prop where
  g0 : 0 ≤ g
  f0 : 0 ≤ f
  f1 : f < 2147483647
  s0 : 0 ≤ s
  s1 : s < 2147483647
def Bag (H : Hp) (b : Addr) : Prop := ∃ g f s : Int, H b = some (.lst (bagL g f s)) ∧ BagOk g f s
def spBag (K : PySem.W.Frag) : Sp := fun vs H Q _ => ∃ (a : Addr) (ns : List Int), vs = [.ref a] ∧ SqL K H a (ns.map V.int) ∧ ∀ b g f s, H b = none → BagOk g f s → Q (.ref b) (upd H b (.lst (bagL g f s)))
def spTake : Sp := fun vs H Q _ => ∃ (b : Addr) (n : Int), vs = [.ref b, .int n] ∧ 0 < n ∧ n < 1152921504606846976 ∧ Bag H b ∧ ∀ d H', 0 ≤ d → d < n → Bag H' b → Mut b H H' → Q (.int d) H'
/-- ints from 0 to below n -/
def Below (n : Int) (xs : List Int) : Prop := ∀ x ∈ xs, 0 ≤ x ∧ x < n
def ListI (H : Hp) (p : Addr) (xs : List Int) : Prop := H p = some (.lst (xs.map V.int))
def spOrder : Sp := fun vs H Q _ => ∃ (b : Addr) (n : Nat), vs = [.ref b, .int (n : Int)] ∧ n ≤ 64 ∧ Bag H b ∧ ∀ p xs H', H p = none → p ≠ b → xs.length = n → Below n xs → ListI H' p xs → Bag H' b → Mut b H H' → Q (.ref p) H'
def spSize : Sp := fun vs H Q _ => ∃ b : Addr, vs = [.ref b] ∧ Bag H b ∧ ∀ (d : Int) H', 0 ≤ d → d ≤ 64 → Bag H' b → Mut b H H' → Q (.int d) H'
def spEntry : Sp := fun vs H Q _ => ∃ (b : Addr) (n : Nat), vs = [.ref b, .int (n : Int)] ∧ 0 < n ∧ n ≤ 64 ∧ Bag H b ∧ ∀ (d : Int) H', Bag H' b → Mut b H H' → Q (.int d) H'
def spDrawn : Sp := fun vs H Q _ => ∃ (b : Addr) (n : Nat), vs = [.ref b, .int (n : Int)] ∧ n ≤ 64 ∧ Bag H b ∧ ∀ p xs H', H p = none → p ≠ b → xs.length = n → ListI H' p xs → Bag H' b → Mut b H H' → Q (.ref p) H'
theorem Bag.ne {H : Hp} {b p : Addr} (B : Bag H b) (h : H p = none) : p ≠ b := fun e => by
  obtain ⟨g, f, s, hb, _⟩ := B
  rw [e, hb] at h
  cases h
theorem Bag.keep {H H' : Hp} {b : Addr} (B : Bag H b) (h : ∀ o, H b = some o → H' b = some o) : Bag H' b := by
  obtain ⟨g, f, s, hb, ok⟩ := B
  exact ⟨g, f, s, h _ hb, ok⟩
theorem map_erase {α β : Type} (f : α → β) : ∀ (l : List α) (i : Nat), (l.map f).eraseIdx i = (l.eraseIdx i).map f
  | [], _ => rfl
  | _ :: _, 0 => rfl
  | a :: l, i + 1 => by
    show f a :: (l.map f).eraseIdx i = f a :: (l.eraseIdx i).map f
    rw [map_erase f l i]
theorem rgV_map (n : Nat) : rgV 0 (n : Int) = ((List.range n).map fun i : Nat => (i : Int)).map V.int := by
  unfold rgV
  have e : ((n : Int) - 0).toNat = n := by omega
  rw [e, List.map_map]
  refine List.map_congr_left fun i _ => ?_
  show V.int (0 + (i : Int)) = V.int (i : Int)
  rw [Int.zero_add]
theorem below_rg (n : Nat) : Below (n : Int) ((List.range n).map fun i : Nat => (i : Int)) := fun x hx => by
  obtain ⟨i, hi, rfl⟩ := List.mem_map.mp hx
  have := List.mem_range.mp hi
  omega
theorem ListI.sz {K : PySem.W.Frag} {H : Hp} {p : Addr} {xs : List Int} (h : ListI H p xs) : SqL K H p (xs.map V.int) := SqL.of h
theorem ix_map {xs : List Int} {j : Nat} (h : j < xs.length) : (xs.map V.int)[j]? = some (V.int xs[j]) := by
  rw [List.getElem?_map, List.getElem?_eq_getElem h]
  rfl
theorem at_map {xs : List Int} {j : Nat} (h : j < xs.length) : atI (xs.map V.int) (j : Int) = some (V.int xs[j]) := atI_nat (ix_map h)
theorem set_map {xs : List Int} {j : Nat} {v : Int} : (xs.map V.int).set j (V.int v) = (xs.set j v).map V.int := List.map_set.symm
theorem ite_b {b : Bool} {X Y : Prop} (h1 : b = true → X) (h2 : b = false → Y) : if b = true then X else Y := by
  cases b with
  | true => exact h1 rfl
  | false => exact h2 rfl
theorem int_at {ns : List Int} {i : Nat} {y : V} (h : (ns.map V.int)[i]? = some y) : ∃ z, ns[i]? = some z ∧ y = V.int z := by
  rw [List.getElem?_map] at h
  cases e : ns[i]? with
  | none =>
    rw [e] at h
    cases h
  | some z =>
    rw [e] at h
    exact ⟨z, rfl, (Option.some.inj h).symm⟩
end Pv

namespace Pv
open PySem L2 Evl
def nI (xs : List Nat) : List V := xs.map fun x : Nat => V.int (x : Int)
def ListN (H : Hp) (p : Addr) (xs : List Nat) : Prop := H p = some (.lst (nI xs))
theorem nI_len (xs : List Nat) : (nI xs).length = xs.length := List.length_map ..
theorem ListN.sz {K : PySem.W.Frag} {H : Hp} {p : Addr} {xs : List Nat} (h : ListN H p xs) : SqL K H p (nI xs) := SqL.of h
theorem ListN.ex {H H1 : Hp} {a : Addr} {xs : List Nat} (e : Ex H H1) (h : ListN H a xs) : ListN H1 a xs := e a _ h
theorem nat_at {ns : List Nat} {i : Nat} {y : V} (h : (nI ns)[i]? = some y) : i < ns.length ∧ y = V.int ((ns.getD i 0 : Nat) : Int) := by
  unfold nI at h
  rw [List.getElem?_map] at h
  cases e : ns[i]? with
  | none =>
    rw [e] at h
    cases h
  | some z =>
    rw [e] at h
    refine ⟨(List.getElem?_eq_some_iff.mp e).1, ?_⟩
    rw [List.getD_eq_getElem?_getD, e]
    exact (Option.some.inj h).symm
theorem ixN_ {xs : List Nat} {j : Nat} (h : j < xs.length) : (nI xs)[j]? = some (V.int ((xs.getD j 0 : Nat) : Int)) := by
  unfold nI
  rw [List.getElem?_map, List.getD_eq_getElem?_getD, List.getElem?_eq_getElem h]
  rfl
theorem atN {xs : List Nat} {j : Nat} (h : j < xs.length) : atI (nI xs) (j : Int) = some (V.int ((xs.getD j 0 : Nat) : Int)) := atI_nat (ixN_ h)
theorem ex_new {H H1 : Hp} {p : Addr} {o : HO} (e : Ex H H1) (h : H1 p = none) : Ex H (upd H1 p o) := e.trans (Ex.new h)
theorem nI_app {xs : List Nat} {v : Nat} : nI (xs ++ [v]) = nI xs ++ [V.int (v : Int)] := by
  unfold nI
  rw [List.map_append]
  rfl
theorem acc_step {G H' : Hp} {D : Addr} {ls : List Nat} {v : Nat} (hD : G D = none) (e : Ex G H') : Ex G (upd H' D (.lst (nI ls ++ [V.int (v : Int)]))) ∧ ListN (upd H' D (.lst (nI ls ++ [V.int (v : Int)]))) D (ls ++ [v]) := by
  refine ⟨fun b o hb => ?_, ?_⟩
  · rw [upd_ne (ne_of_none hb hD)]
    exact e b o hb
  · show upd H' D _ D = _
    rw [upd_same, nI_app]
theorem take_map_succ {xs : List Nat} {j : Nat} (h : j < xs.length) (f : Nat → Nat) : (xs.take (j + 1)).map f = (xs.take j).map f ++ [f (xs.getD j 0)] := by
  rw [List.take_add_one, List.getElem?_eq_getElem h, List.map_append, List.getD_eq_getElem?_getD, List.getElem?_eq_getElem h]
  rfl
theorem take_succ {xs : List Nat} {j : Nat} (h : j < xs.length) : xs.take (j + 1) = xs.take j ++ [xs.getD j 0] := by
  rw [List.take_add_one, List.getElem?_eq_getElem h, List.getD_eq_getElem?_getD, List.getElem?_eq_getElem h]
  rfl
theorem take_filter_pos {xs : List Nat} {j : Nat} (h : j < xs.length) {q : Nat → Bool} (c : q (xs.getD j 0) = true) : (xs.take (j + 1)).filter q = (xs.take j).filter q ++ [xs.getD j 0] := by
  rw [take_succ h, List.filter_append, List.filter_cons, if_pos c]
  rfl
theorem take_filter_neg {xs : List Nat} {j : Nat} (h : j < xs.length) {q : Nat → Bool} (c : q (xs.getD j 0) = false) : (xs.take (j + 1)).filter q = (xs.take j).filter q := by
  rw [take_succ h, List.filter_append, List.filter_cons, if_neg (by rw [c]; decide)]
  exact List.append_nil _
theorem flat_nI : ∀ xs : List Nat, (nI xs).all flatV = true
  | [] => rfl
  | _ :: xs => flat_nI xs
theorem inV_nI {x : Nat} : ∀ xs : List Nat, inV (V.int (x : Int)) (nI xs) = xs.contains x
  | [] => rfl
  | y :: xs => by
    show (eqV (V.int (y : Int)) (V.int (x : Int)) || inV (V.int (x : Int)) (nI xs)) = _
    rw [inV_nI xs, List.contains_cons]
    congr 1
    show ((y : Int) == (x : Int)) = (x == y)
    rw [Bool.eq_iff_iff, beq_iff_eq, beq_iff_eq]
    omega
theorem eqV_nat {x y : Nat} : eqV (V.int (x : Int)) (V.int (y : Int)) = true ↔ x = y := by
  show ((x : Int) == (y : Int)) = true ↔ _
  rw [beq_iff_eq]
  omega
/-! ### images of any integers -/
def ListI' (H : Hp) (p : Addr) (xs : List Int) : Prop := H p = some (.lst (xs.map V.int))
def badN (xs : List Int) (k : Nat) : Bool := decide (xs.getD k 0 < 0) || decide ((xs.length : Int) ≤ xs.getD k 0)
def firstOf (p : Nat → Bool) (n : Nat) : Option Nat := (List.range n).find? p
theorem firstOf_some {p : Nat → Bool} {n i : Nat} (hi : i < n) (hp : p i = true) (h : ∀ j, j < i → p j = false) : firstOf p n = some i := by
  unfold firstOf
  rw [List.find?_range_eq_some]
  exact ⟨hp, List.mem_range.mpr hi, fun j hj => by rw [h j hj]; rfl⟩
theorem firstOf_none {p : Nat → Bool} {n : Nat} (h : ∀ j, j < n → p j = false) : firstOf p n = none := by
  unfold firstOf
  rw [List.find?_range_eq_none]
  exact fun j hj => by rw [h j hj]; rfl
theorem firstOf_no {p : Nat → Bool} {n : Nat} (h : firstOf p n = none) : ∀ j, j < n → p j = false := by
  unfold firstOf at h
  rw [List.find?_range_eq_none] at h
  intro j hj
  have := h j hj
  simpa using this
theorem firstOf_is {p : Nat → Bool} {n i : Nat} (h : firstOf p n = some i) : i < n ∧ p i = true ∧ ∀ j, j < i → p j = false := by
  unfold firstOf at h
  rw [List.find?_range_eq_some] at h
  exact ⟨List.mem_range.mp h.2.1, h.1, fun j hj => by have := h.2.2 j hj; simpa using this⟩
/-- the first entry that is no record -/
def strayI (xs : List Int) : Option Nat := firstOf (badN xs) xs.length
def spInit (C : Addr) (f : Str) : Sp := fun vs H Q _ => ∃ (a : Addr) (v : V), vs = [.ref a, v] ∧ H a = some (exo a C none) ∧ ∀ dx, H dx = none → dx ≠ a → Q .non (upd (upd H dx (exd dx [(f, v)])) a (exo a C (some dx)))
theorem mkO_go {C : Addr} {f : Str} {v : V} {H1 : Hp} {Q : XK} (k : ∀ d H', Ex H1 H' → H' d = some (.xd [(f, v)]) → Q (.ref C) (some d) H') (e : Addr) (he : H1 e = none) :
    spInit C f (.ref e :: ([v] ++ [])) (upd H1 e (exo e C none)) (fun v H2 => v = .non ∧ ∃ (d : Addr) (fs : List (Str × V)), H2 e = some (exo e C (some d)) ∧ H2 d = some (exd d fs) ∧ H1 d = none ∧ Q (.ref C) (some d) (upd (L2.del H2 e) d (.xd fs))) (fun _ _ _ => False) := by
  refine ⟨e, v, rfl, upd_same, fun dx hdx ne => ⟨rfl, dx, _, upd_same, (by rw [upd_ne ne, upd_same]), ?_, k dx _ ?_ upd_same⟩⟩
  · rw [upd_ne ne] at hdx
    exact hdx
  · rw [upd_ne ne] at hdx
    intro b o hb
    have n1 : b ≠ dx := ne_of_none hb hdx
    have n2 : b ≠ e := ne_of_none hb he
    rw [upd_ne n1, del_ne n2, upd_ne n2, upd_ne n1, upd_ne n2]
    exact hb
theorem units65R {k : Nat} {A : Around} (r : Room k A) : A.units + 65 < cLine := by have := r.un; omega
theorem huH {k : Nat} {A : Around} (r : L2H.RoomH k A) : A.units + 1 < cLine := by have := r.un; omega
theorem units65H {k : Nat} {A : Around} (r : L2H.RoomH k A) : A.units + 65 < cLine := by have := r.un; omega
theorem rd_ex {H H' : Hp} {a : Addr} {u : HO} (e : Ex H H') (h : Rd H a u) : Rd H' a u := h.elim (fun z => .inl (e _ _ z)) fun ⟨o, z⟩ => .inr ⟨o, e _ _ z⟩
theorem sqL_ex {K : PySem.W.Frag} {H H' : Hp} {a : Addr} {xs : List V} (e : Ex H H') (h : SqL K H a xs) : SqL K H' a xs := h.elim (fun z => .inl (rd_ex e z)) .inr
theorem back_none {H H1 : Hp} {p : Addr} (e : Ex H H1) (h : H1 p = none) : H p = none := by
  cases q : H p with
  | none => rfl
  | some o =>
    rw [e p o q] at h
    cases h
/-! ### names and words -/
def nm5 : List Str := ["hook", "relay", "clamp", "trail", "wheel"]
def nms : List Str := ["hook", "relay", "clamp", "trail", "wheel", "", "Hook", "relays", "clamp ", " trail", "whee", "pair", "claim", "free", "number", "choice", "change", "copy", "NAMES", "COUNT", "near", "hook relay"]
def wds : List Str := ["back", "forward", "near", "far", "inner", "outer", "even", "odd", "", "Back", "nearer", "inne", "far ", "hook", "0", "None"]
def two : Str → List Str := fun n => if n = "hook" then ["back", "forward"] else if n = "clamp" then ["inner", "outer"] else if n = "wheel" then ["even", "odd"] else ["near", "far"]
def goodF (n w : Str) : Bool := nm5.contains n && (two n).contains w
def pl (n : Str) : Nat := nm5.idxOf n
def bitF (n w : Str) : Nat := (two n).idxOf w
def wordF (n : Str) (b : Nat) : Str := (two n).getD b ""
theorem inV_str {x : Str} : ∀ xs : List Str, inV (V.str x) (xs.map V.str) = xs.contains x
  | [] => rfl
  | y :: xs => by
    show (eqV (V.str y) (V.str x) || inV (V.str x) (xs.map V.str)) = _
    rw [inV_str xs, List.contains_cons]
    congr 1
    show (y == x) = (x == y)
    rw [Bool.eq_iff_iff, beq_iff_eq, beq_iff_eq]
    exact ⟨Eq.symm, Eq.symm⟩
theorem flat_str : ∀ xs : List Str, (xs.map V.str).all flatV = true
  | [] => rfl
  | _ :: xs => flat_str xs
/-- the written table of the words -/
structure WdK (w : World) (K : PySem.W.Frag) (c : Addr) where
  es : Array DictEntry
  n : Nat
  kd : KDict K w c es n
  no : ∀ z ∈ nms, z ∉ nm5 → PySem.W.nsIn K c z = some none
  yes : ∀ z ∈ nm5, ∃ p : Addr, PySem.W.nsIn K c z = some (some (.ref p)) ∧ ∀ H, SqT K H p ((two z).map V.str)
/-! ### rules -/
/-- a bit for each name -/
structure Bits (bs : List Nat) : Prop where
  len : bs.length = 5
  two : ∀ b ∈ bs, b < 2
/-- rules at a, their choices in the dict at c -/
def Ru (A : Ad) (H : Hp) (a c : Addr) (bs : List Nat) : Prop := ∃ (dx : Addr) (kvs : List (Key × V)), H a = some (.ins A.Rules dx [("_choices", .ref c)]) ∧ H c = some (.dK kvs) ∧ kvs.length ≤ 5 ∧ Bits bs ∧
  ∀ i, i < 5 → valV kvs (Sum.inr (nm5.getD i "")) = some (.str (wordF (nm5.getD i "") (bs.getD i 0)))
theorem Ru.keep {A : Ad} {H H' : Hp} {a c : Addr} {bs : List Nat} (R : Ru A H a c bs) (h1 : ∀ o, H a = some o → H' a = some o) (h2 : ∀ o, H c = some o → H' c = some o) : Ru A H' a c bs := by
  obtain ⟨dx, kvs, ha, hc, r⟩ := R
  exact ⟨dx, kvs, h1 _ ha, h2 _ hc, r⟩
theorem Ru.ex {A : Ad} {H H' : Hp} {a c : Addr} {bs : List Nat} (e : Ex H H') (R : Ru A H a c bs) : Ru A H' a c bs := R.keep (e a) (e c)
theorem Ru.ne {A : Ad} {H : Hp} {a c : Addr} {bs : List Nat} (R : Ru A H a c bs) : a ≠ c := fun e => by
  obtain ⟨dx, kvs, ha, hc, r⟩ := R
  rw [e, hc] at ha
  cases ha
/-- the number of rules -/
def numF (bs : List Nat) : Nat := bs.getD 0 0 * 1 + bs.getD 1 0 * 2 + bs.getD 2 0 * 4 + bs.getD 3 0 * 8 + bs.getD 4 0 * 16
def bitsOf (v : Nat) : List Nat := [v % 2, v / 2 % 2, v / 4 % 2, v / 8 % 2, v / 16 % 2]
theorem Bits.ex5 {bs : List Nat} (h : Bits bs) : ∃ b0 b1 b2 b3 b4 : Nat, bs = [b0, b1, b2, b3, b4] ∧ b0 < 2 ∧ b1 < 2 ∧ b2 < 2 ∧ b3 < 2 ∧ b4 < 2 := by
  obtain ⟨hl, h2⟩ := h
  match bs, hl with
  | [b0, b1, b2, b3, b4], _ => exact ⟨b0, b1, b2, b3, b4, rfl, h2 _ (by simp), h2 _ (by simp), h2 _ (by simp), h2 _ (by simp), h2 _ (by simp)⟩
theorem bits_of (v : Nat) : Bits (bitsOf v) := ⟨rfl, fun b hb => by
  unfold bitsOf at hb
  simp only [List.mem_cons, List.not_mem_nil, or_false] at hb
  omega⟩
theorem bitsOf_num {bs : List Nat} (h : Bits bs) : bitsOf (numF bs) = bs := by
  obtain ⟨b0, b1, b2, b3, b4, rfl, h0, h1, h2, h3, h4⟩ := h.ex5
  show [(b0 * 1 + b1 * 2 + b2 * 4 + b3 * 8 + b4 * 16) % 2, (b0 * 1 + b1 * 2 + b2 * 4 + b3 * 8 + b4 * 16) / 2 % 2, (b0 * 1 + b1 * 2 + b2 * 4 + b3 * 8 + b4 * 16) / 4 % 2, (b0 * 1 + b1 * 2 + b2 * 4 + b3 * 8 + b4 * 16) / 8 % 2, (b0 * 1 + b1 * 2 + b2 * 4 + b3 * 8 + b4 * 16) / 16 % 2] = _
  congr 1
  · omega
  congr 1
  · omega
  congr 1
  · omega
  congr 1
  · omega
  congr 1
  omega
theorem num_lt {bs : List Nat} (h : Bits bs) : numF bs < 32 := by
  obtain ⟨b0, b1, b2, b3, b4, rfl, h0, h1, h2, h3, h4⟩ := h.ex5
  show b0 * 1 + b1 * 2 + b2 * 4 + b3 * 8 + b4 * 16 < 32
  omega
/-! ### what raises -/
def RzR (A : Ad) (n : Str) (H : Hp) (E : XK) : Prop := ∀ d H', Ex H H' → H' d = some (.xd [("name", .str n)]) → E (.ref A.InvalidRules) (some d) H'
def RzN (A : Ad) (v : Int) (H : Hp) (E : XK) : Prop := ∀ d H', Ex H H' → H' d = some (.xd [("value", .int v)]) → E (.ref A.InvalidNumber) (some d) H'
theorem RzR.mono {A : Ad} {n : Str} {H H1 : Hp} {E : XK} (e : Ex H H1) (h : RzR A n H E) : RzR A n H1 E := fun d H' e' hd => h d H' (e.trans e') hd
theorem RzN.mono {A : Ad} {v : Int} {H H1 : Hp} {E : XK} (e : Ex H H1) (h : RzN A v H E) : RzN A v H1 E := fun d H' e' hd => h d H' (e.trans e') hd
theorem raw0 {P : Program} {w : World} {K : PySem.W.Frag} {mg : Str → Option Value} {base : Heap} {CX : CXT} {k : Nat} {f : Addr} {fd : FuncData} {ps : List Str} {sp : Sp} (F : FnOk P w K mg base CX k f fd ps sp) (b : Binds K fd ps []) : FnR P w K mg base CX k f sp := (F.raw b .nil).imp fun vs H Q E h => by
  rw [List.append_nil]
  exact h
/-! ### promises -/
def spCh (A : Ad) : Sp := fun vs H Q E => ∃ (a c dx : Addr) (kvs : List (Key × V)) (n w : Str), vs = [.ref a, .str n, .str w] ∧ n ∈ nms ∧ w ∈ wds ∧ H a = some (.ins A.Rules dx [("_choices", .ref c)]) ∧ H c = some (.dK kvs) ∧ kvs.length < 1000 ∧
  (goodF n w = true → Q .non (upd H c (.dK (putK kvs (Sum.inr n) (.str w))))) ∧ (goodF n w = false → RzR A n H E)
def spChG (A : Ad) : Sp := fun vs H Q _ => ∃ (a c dx : Addr) (kvs : List (Key × V)) (n w : Str), vs = [.ref a, .str n, .str w] ∧ n ∈ nms ∧ w ∈ wds ∧ H a = some (.ins A.Rules dx [("_choices", .ref c)]) ∧ H c = some (.dK kvs) ∧ kvs.length < 1000 ∧
  goodF n w = true ∧ Q .non (upd H c (.dK (putK kvs (Sum.inr n) (.str w))))
/-- the first name with a word that is none of its two, among the names from the k-th on -/
def badF (ws : List Str) : Option Nat := (List.range 5).find? fun i => !goodF (nm5.getD i "") (ws.getD i "")
def bitsF (ws : List Str) : List Nat := (List.range 5).map fun i => bitF (nm5.getD i "") (ws.getD i "")
def spIn (A : Ad) : Sp := fun vs H Q E => ∃ (a dx : Addr) (w0 w1 w2 w3 w4 : Str), vs = [.ref a, .str w0, .str w1, .str w2, .str w3, .str w4] ∧ (∀ w ∈ [w0, w1, w2, w3, w4], w ∈ wds) ∧ H a = some (.ins A.Rules dx []) ∧
  (badF [w0, w1, w2, w3, w4] = none → ∀ c H', H c = none → c ≠ a → (∀ b o, b ≠ a → H b = some o → H' b = some o) → Ru A H' a c (bitsF [w0, w1, w2, w3, w4]) → Q .non H') ∧
  (∀ i, badF [w0, w1, w2, w3, w4] = some i → ∀ d H', (∀ b o, b ≠ a → H b = some o → H' b = some o) → H' d = some (.xd [("name", .str (nm5.getD i ""))]) → E (.ref A.InvalidRules) (some d) H')
def spInG (A : Ad) : Sp := fun vs H Q _ => ∃ (a dx : Addr) (w0 w1 w2 w3 w4 : Str), vs = [.ref a, .str w0, .str w1, .str w2, .str w3, .str w4] ∧ (∀ w ∈ [w0, w1, w2, w3, w4], w ∈ wds) ∧ H a = some (.ins A.Rules dx []) ∧ badF [w0, w1, w2, w3, w4] = none ∧
  ∀ c H', H c = none → c ≠ a → (∀ b o, b ≠ a → H b = some o → H' b = some o) → Ru A H' a c (bitsF [w0, w1, w2, w3, w4]) → Q .non H'
def spGet (A : Ad) (i : Nat) : Sp := fun vs H Q _ => ∃ (a c : Addr) (bs : List Nat), vs = [.ref a] ∧ Ru A H a c bs ∧ Q (.str (wordF (nm5.getD i "") (bs.getD i 0))) H
def spNum (A : Ad) : Sp := fun vs H Q _ => ∃ (a c : Addr) (bs : List Nat), vs = [.ref a] ∧ Ru A H a c bs ∧ ∀ H', Ex H H' → Q (.int (numF bs : Nat)) H'
def spCo (A : Ad) : Sp := fun vs H Q E => ∃ (a c : Addr) (bs : List Nat) (n : Str), vs = [.ref a, .str n] ∧ n ∈ nms ∧ Ru A H a c bs ∧ (n ∈ nm5 → Q (.str (wordF n (bs.getD (pl n) 0))) H) ∧ (n ∉ nm5 → RzR A n H E)
/-- rules made anew -/
def New (A : Ad) (H : Hp) (bs : List Nat) (Q : VK) : Prop := ∀ a c H', H a = none → H c = none → Ex H H' → Ru A H' a c bs → Q (.ref a) H'
theorem New.mono {A : Ad} {H H1 : Hp} {bs : List Nat} {Q : VK} (e : Ex H H1) (h : New A H bs Q) : New A H1 bs Q := fun a c H' ha hc e1 r => h a c H' (back_none e ha) (back_none e hc) (e.trans e1) r
def spNd (A : Ad) : Sp := fun vs H Q E => ∃ v : Int, vs = [.ref A.Rules, .int v] ∧ (0 ≤ v → v < 32 → New A H (bitsOf v.toNat) Q) ∧ (¬ (0 ≤ v ∧ v < 32) → RzN A v H E)
def spCp (A : Ad) : Sp := fun vs H Q _ => ∃ (a c : Addr) (bs : List Nat), vs = [.ref a] ∧ Ru A H a c bs ∧ New A H bs Q
def spEq (A : Ad) : Sp := fun vs H Q _ => ∃ (a c b d : Addr) (bs cs : List Nat), vs = [.ref a, .ref b] ∧ Ru A H a c bs ∧ Ru A H b d cs ∧ ∀ H', Ex H H' → Q (.bl (decide (bs = cs))) H'
def repF (n : Nat) : Str := ("Rules(" : Str) ++ toString (n : Int) ++ (")" : Str)
def spRp (A : Ad) : Sp := fun vs H Q _ => ∃ (a c : Addr) (bs : List Nat), vs = [.ref a] ∧ Ru A H a c bs ∧ ∀ H', Ex H H' → Q (.str (repF (numF bs))) H'
/-! ### the law's own -/
def spInt : Sp := fun vs H Q _ => ∃ i : Int, vs = [.int i] ∧ Q (.bl true) H
def spCell (K : PySem.W.Frag) : Sp := fun vs H Q _ => ∃ (a : Addr) (ns : List Int) (k : Nat), vs = [.ref a, .int (k : Int)] ∧ k ≤ 100 ∧ SqL K H a (ns.map V.int) ∧ ∀ z : Int, Q (.int z) H
/-- the stream of the draws -/
def Strm (H : Hp) (b : Addr) : Prop := ∃ r s t : Int, H b = some (.lst [.int r, .int s, .int t]) ∧ 0 ≤ r ∧ 0 ≤ s ∧ s < 2147483647 ∧ 0 ≤ t
theorem Strm.ne {H : Hp} {b p : Addr} (B : Strm H b) (h : H p = none) : p ≠ b := fun e => by
  obtain ⟨r, s, t, hb, _⟩ := B
  rw [e, hb] at h
  cases h
theorem Strm.keep {H H' : Hp} {b : Addr} (B : Strm H b) (h1 : ∀ o, H b = some o → H' b = some o) : Strm H' b := by
  obtain ⟨r, s, t, hb, q⟩ := B
  exact ⟨r, s, t, h1 _ hb, q⟩
theorem Strm.ex {H H' : Hp} {b : Addr} (e : Ex H H') (B : Strm H b) : Strm H' b := B.keep (e b)
theorem Mut.of_ex {b : Addr} {H H1 : Hp} (e : Ex H H1) : Mut b H H1 := fun a o _ h => e a o h
def spStrm (K : PySem.W.Frag) : Sp := fun vs H Q _ => ∃ (a : Addr) (ns : List Int) (k : Nat), vs = [.ref a, .int (k : Int)] ∧ k ≤ 100 ∧ SqL K H a (ns.map V.int) ∧ ∀ b H', H b = none → Ex H H' → Strm H' b → Q (.ref b) H'
def spDraw : Sp := fun vs H Q _ => ∃ (b : Addr) (n : Int), vs = [.ref b, .int n] ∧ 0 < n ∧ n < 1152921504606846976 ∧ Strm H b ∧ ∀ d H', 0 ≤ d → d < n → Strm H' b → Mut b H H' → Q (.int d) H'
def ListS (H : Hp) (p : Addr) (xs : List Str) : Prop := H p = some (.lst (xs.map V.str))
theorem ListS.ex {H H1 : Hp} {a : Addr} {xs : List Str} (e : Ex H H1) (h : ListS H a xs) : ListS H1 a xs := e a _ h
theorem ListS.sz {K : PySem.W.Frag} {H : Hp} {p : Addr} {xs : List Str} (h : ListS H p xs) : SqL K H p (xs.map V.str) := SqL.of h
def spNames : Sp := fun vs H Q _ => vs = [] ∧ ∀ p H', H p = none → Ex H H' → ListS H' p nm5 → Q (.ref p) H'
def spTwo : Sp := fun vs H Q _ => ∃ n : Str, vs = [.str n] ∧ ∀ p H', H p = none → Ex H H' → ListS H' p (two n) → Q (.ref p) H'
def spGood : Sp := fun vs H Q _ => ∃ n w : Str, vs = [.str n, .str w] ∧ ∀ H', Ex H H' → Q (.bl (goodF n w)) H'
def spPN : Sp := fun vs H Q _ => ∃ b : Addr, vs = [.ref b] ∧ Strm H b ∧ ∀ (n : Str) H', n ∈ nms → Strm H' b → Mut b H H' → Q (.str n) H'
def spPW : Sp := fun vs H Q _ => ∃ (b : Addr) (n : Str) (cl : Bool), vs = [.ref b, .str n, .bl cl] ∧ Strm H b ∧ ∀ (w : Str) H', w ∈ wds → Strm H' b → Mut b H H' → Q (.str w) H'
/-- the places that are passed -/
def pasF (way : Nat) : List Nat := [[], [0], [1], [2], [3], [4], [0, 1, 2, 3, 4], [0, 3], [0, 1, 2, 3, 4]].getD way []
/-- the words with which __init__ is called -/
def callF (way : Nat) (ws : List Str) : List Str := (List.range 5).map fun i => if (pasF way).contains i then ws.getD i "" else wordF (nm5.getD i "") 0
def dueB (way : Nat) (ws : List Str) : Option Nat := (pasF way).find? fun i => !goodF (nm5.getD i "") (ws.getD i "")
def dueF (way : Nat) (ws : List Str) : List Nat := (List.range 5).map fun i => if (pasF way).contains i then bitF (nm5.getD i "") (ws.getD i "") else 0
def Words (H : Hp) (p : Addr) (ws : List Str) : Prop := ListS H p ws ∧ ws.length = 5 ∧ ∀ w ∈ ws, w ∈ wds
theorem Words.ex {H H1 : Hp} {a : Addr} {xs : List Str} (e : Ex H H1) (h : Words H a xs) : Words H1 a xs := ⟨h.1.ex e, h.2⟩
def spCalled (A : Ad) : Sp := fun vs H Q E => ∃ (way : Nat) (p : Addr) (ws : List Str), vs = [.int (way : Int), .ref p] ∧ way < 9 ∧ Words H p ws ∧ (dueB way ws = none → New A H (dueF way ws) Q) ∧ (∀ i, dueB way ws = some i → RzR A (nm5.getD i "") H E)
def badV (o : Option Nat) : V := match o with
  | none => .non
  | some i => .str (nm5.getD i "")
def zero5 : List Nat := [0, 0, 0, 0, 0]
def dueL (way : Nat) (ws : List Str) : List Nat := if dueB way ws = none then dueF way ws else zero5
def spDue : Sp := fun vs H Q _ => ∃ (way : Nat) (p : Addr) (ws : List Str), vs = [.int (way : Int), .ref p] ∧ way < 9 ∧ Words H p ws ∧ ∀ q r H', H q = none → H r = none → Ex H H' → H' q = some (.lst [badV (dueB way ws), .ref r]) → ListN H' r (dueL way ws) → Q (.ref q) H'
def spMade (A : Ad) : Sp := fun vs H Q _ => ∃ (way : Nat) (p : Addr) (ws : List Str), vs = [.int (way : Int), .ref p, badV (dueB way ws)] ∧ way < 9 ∧ Words H p ws ∧ ∀ q a c H', H q = none → H a = none → H c = none → Ex H H' → H' q = some (.lst [.bl true, .ref a]) → Ru A H' a c (dueL way ws) → Q (.ref q) H'
def spChg (A : Ad) : Sp := fun vs H Q _ => ∃ (a c p : Addr) (bs : List Nat) (n w : Str), vs = [.ref a, .ref p, .str n, .str w] ∧ n ∈ nms ∧ w ∈ wds ∧ Ru A H a c bs ∧ ListN H p bs ∧ ∀ (cs : List Nat) H', (∀ b o, b ≠ c → b ≠ p → H b = some o → H' b = some o) → Ru A H' a c cs → ListN H' p cs → Q (.bl true) H'
def spChn (A : Ad) : Sp := fun vs H Q _ => ∃ (a c p : Addr) (bs : List Nat) (n : Str), vs = [.ref a, .ref p, .str n] ∧ n ∈ nms ∧ Ru A H a c bs ∧ ListN H p bs ∧ ∀ H', Ex H H' → Q (.bl true) H'
def ndL (v : Int) : List Nat := if 0 ≤ v ∧ v < 32 then bitsOf v.toNat else zero5
def spNmd (A : Ad) : Sp := fun vs H Q _ => ∃ v : Int, vs = [.int v] ∧ v.natAbs < 2 ^ 128 ∧ ∀ q a c p H', H q = none → H a = none → H c = none → H p = none → Ex H H' → H' q = some (.lst [.bl true, .ref a, .ref p]) → Ru A H' a c (ndL v) → (0 ≤ v ∧ v < 32 → ListN H' p (ndL v)) → (¬ (0 ≤ v ∧ v < 32) → ListN H' p (ndL v)) → Q (.ref q) H'
def spVal : Sp := fun vs H Q _ => ∃ b : Addr, vs = [.ref b] ∧ Strm H b ∧ ∀ (v : Int) H', v.natAbs < 2 ^ 128 → Strm H' b → Mut b H H' → Q (.int v) H'
def spKept (A : Ad) : Sp := fun vs H Q _ => ∃ (a c p : Addr) (bs : List Nat), vs = [.ref a, .ref p] ∧ Ru A H a c bs ∧ ListN H p bs ∧ ∀ H', Ex H H' → Q (.bl true) H'
/-- two rules in a list at h, their bits in a list at r -/
structure Two (A : Ad) (H : Hp) (h r a0 a1 c0 c1 p0 p1 : Addr) (b0 b1 : List Nat) : Prop where
  hh : H h = some (.lst [.ref a0, .ref a1])
  hr : H r = some (.lst [.ref p0, .ref p1])
  r0 : Ru A H a0 c0 b0
  r1 : Ru A H a1 c1 b1
  l0 : ListN H p0 b0
  l1 : ListN H p1 b1
  nc : c0 ≠ c1
  np : p0 ≠ p1
theorem Two.ex {A : Ad} {H H' : Hp} {h r a0 a1 c0 c1 p0 p1 : Addr} {b0 b1 : List Nat} (e : Ex H H') (t : Two A H h r a0 a1 c0 c1 p0 p1 b0 b1) : Two A H' h r a0 a1 c0 c1 p0 p1 b0 b1 :=
  ⟨e _ _ t.hh, e _ _ t.hr, t.r0.ex e, t.r1.ex e, e _ _ t.l0, e _ _ t.l1, t.nc, t.np⟩
def spBoth (A : Ad) : Sp := fun vs H Q _ => ∃ (h r a0 a1 c0 c1 p0 p1 : Addr) (b0 b1 : List Nat), vs = [.ref h, .ref r] ∧ Two A H h r a0 a1 c0 c1 p0 p1 b0 b1 ∧ ∀ H', Ex H H' → Q (.bl true) H'
def spCon : Sp := fun vs H Q _ => vs = [] ∧ ∀ H', Ex H H' → Q (.bl true) H'
/-- what stood, but for these -/
def But (xs : List Addr) (H H' : Hp) : Prop := ∀ b o, b ∉ xs → H b = some o → H' b = some o
def spRound (A : Ad) : Sp := fun vs H Q _ => ∃ (s h r a0 a1 c0 c1 p0 p1 : Addr) (b0 b1 : List Nat), vs = [.ref s, .ref h, .ref r] ∧ Strm H s ∧ Two A H h r a0 a1 c0 c1 p0 p1 b0 b1 ∧
  ∀ a0' a1' c0' c1' p0' p1' b0' b1' H', But [s, h, r, c0, c1, p0, p1] H H' → Two A H' h r a0' a1' c0' c1' p0' p1' b0' b1' →
    (∀ x ∈ [c0', c1', p0', p1'], H x = none ∨ x ∈ [c0, c1, p0, p1]) → Q (.bl true) H'

/-! ### pieces -/
section
open Pm
structure Good (ys : List Nat) (bs : List Bk) : Prop where
  built : Built ys bs
  srt : bs.Pairwise fun a b => mn a.2 < mn b.2
  can : ∀ b ∈ bs, Canon b
  len : ys.length ≤ 64
def PieceAt (H : Hp) (q : Addr) (b : Bk) : Prop := ∃ t, H q = some (.tup [.str (word b.1), .ref t]) ∧ H t = some (.tup (nI b.2))
def RowAt (H : Hp) (r : Addr) (b : Bk) : Prop := ∃ t, H r = some (.tup [.int (mn b.2 : Nat), .int (b.1 : Nat), .ref t]) ∧ H t = some (.tup (nI b.2))
def All2 (F : Hp → Addr → Bk → Prop) (H : Hp) (p : Addr) (bs : List Bk) : Prop := ∃ qs : List Addr, H p = some (.lst (qs.map V.ref)) ∧ qs.length = bs.length ∧ ∀ (i : Nat) (q : Addr) (b : Bk), qs[i]? = some q → bs[i]? = some b → F H q b
theorem PieceAt.ex {H H1 : Hp} {q : Addr} {b : Bk} (e : Ex H H1) (h : PieceAt H q b) : PieceAt H1 q b := by
  obtain ⟨t, h1, h2⟩ := h
  exact ⟨t, e _ _ h1, e _ _ h2⟩
theorem RowAt.ex {H H1 : Hp} {q : Addr} {b : Bk} (e : Ex H H1) (h : RowAt H q b) : RowAt H1 q b := by
  obtain ⟨t, h1, h2⟩ := h
  exact ⟨t, e _ _ h1, e _ _ h2⟩
def spCI1 : Sp := fun vs H Q _ => ∃ (a : Addr) (ys : List Nat), vs = [.ref a] ∧ ListN H a ys ∧ ys.length ≤ 64 ∧ (∀ i, i < ys.length → ys.getD i 0 < ys.length) ∧ ∀ H', Ex H H' → Q .non H'
def spLR : Sp := fun vs H Q _ => ∃ (a : Addr) (ys : List Nat), vs = [.ref a] ∧ ListN H a ys ∧ ys.length ≤ 64 ∧ (∀ i, i < ys.length → ys.getD i 0 < ys.length) ∧ ∀ p H', H p = none → Ex H H' → ListN H' p (lab ys ys.length) → Q (.ref p) H'
def spGr : Sp := fun vs H Q _ => ∃ (a : Addr) (ys : List Nat) (bs : List Bk), vs = [.ref a] ∧ ListN H a ys ∧ ys.length ≤ 64 ∧ Built ys bs ∧ ∀ (p : Addr) (gs : List (Nat × Addr)) H', H p = none → Ex H H' → H' p = some (.lst (gs.map fun x => V.ref x.2)) → gs.map (·.1) = roots bs ys.length →
  (∀ x ∈ gs, H x.2 = none ∧ x.2 ≠ p ∧ ListN H' x.2 (grp bs ys.length x.1)) → Q (.ref p) H'
def spRow : Sp := fun vs H Q _ => ∃ (a g : Addr) (ys : List Nat) (bs : List Bk) (b : Bk), vs = [.ref a, .ref g] ∧ ListN H a ys ∧ ys.length ≤ 64 ∧ Built ys bs ∧ b ∈ bs ∧ Canon b ∧ ListN H g (grp bs ys.length (mn b.2)) ∧ ∀ p H', H p = none → Ex H H' → ListN H' p b.2 → Q (.ref p) H'
def spPO : Sp := fun vs H Q _ => ∃ (a g : Addr) (ys : List Nat) (bs : List Bk) (b : Bk), vs = [.ref a, .ref g] ∧ ListN H a ys ∧ ys.length ≤ 64 ∧ Built ys bs ∧ b ∈ bs ∧ Canon b ∧ ListN H g (grp bs ys.length (mn b.2)) ∧ ∀ p H', H p = none → Ex H H' → PieceAt H' p b → Q (.ref p) H'
def spPi : Sp := fun vs H Q _ => ∃ (a : Addr) (ys : List Nat) (bs : List Bk), vs = [.ref a] ∧ ListN H a ys ∧ Good ys bs ∧ ∀ p H', H p = none → Ex H H' → All2 PieceAt H' p bs → Q (.ref p) H'
def spTorn : Sp := fun vs H Q _ => ∃ (a : Addr) (ys : List Nat) (bs : List Bk), vs = [.ref a] ∧ ListN H a ys ∧ Good ys bs ∧ ∀ p H', H p = none → Ex H H' → All2 PieceAt H' p (bs.filter fun b => decide (1 < b.1)) → Q (.ref p) H'
def spRep : Sp := fun vs H Q _ => ∃ (a : Addr) (ys : List Nat) (bs : List Bk), vs = [.ref a] ∧ ListN H a ys ∧ Good ys bs ∧ ∀ H', Ex H H' → Q (.bl true) H'
theorem Built.nb {ys : List Nat} {bs : List Bk} (B : Built ys bs) : ∀ i, i < ys.length → ys.getD i 0 < ys.length := fun i hi => (B.edge hi).1


end
end Pv

namespace Pv
open PySem L2 Evl Pm
def kvG (gs : List (Nat × Addr)) : List (Key × V) := gs.map fun x => (Sum.inl (x.1 : Int), V.ref x.2)
theorem kvG_some {gs : List (Nat × Addr)} {m : Nat} {v : V} : valV (kvG gs) (Sum.inl (m : Int) : Key) = some v → ∃ a, (m, a) ∈ gs ∧ v = V.ref a := by
  induction gs with
  | nil => intro h; cases h
  | cons x gs ih =>
    intro h
    unfold valV kvG at h ih
    rw [List.map_cons] at h
    by_cases c : x.1 = m
    · rw [List.find?_cons_of_pos (by simp [c])] at h
      refine ⟨x.2, ?_, (Option.some.inj h).symm⟩
      rw [← c]
      exact List.mem_cons_self ..
    · rw [List.find?_cons_of_neg (by simp; omega)] at h
      obtain ⟨a, h1, h2⟩ := ih h
      exact ⟨a, List.mem_cons_of_mem _ h1, h2⟩
theorem kvG_none {gs : List (Nat × Addr)} {m : Nat} (h : valV (kvG gs) (Sum.inl (m : Int) : Key) = none) : ∀ x ∈ gs, x.1 ≠ m := fun x hx c => by
  unfold valV kvG at h
  rw [Option.map_eq_none_iff, List.find?_eq_none] at h
  exact h (Sum.inl (x.1 : Int), V.ref x.2) (List.mem_map.mpr ⟨x, hx, rfl⟩) (by simp [c])
theorem kvG_put {gs : List (Nat × Addr)} {m : Nat} {z : Addr} (h : ∀ x ∈ gs, x.1 ≠ m) : putK (kvG gs) (Sum.inl (m : Int) : Key) (V.ref z) = kvG (gs ++ [(m, z)]) := by
  unfold putK
  rw [if_neg]
  · unfold kvG
    rw [List.map_append]
    rfl
  · intro c
    rw [List.any_eq_true] at c
    obtain ⟨kv, h1, h2⟩ := c
    unfold kvG at h1
    obtain ⟨x, h3, rfl⟩ := List.mem_map.mp h1
    have := of_decide_eq_true h2
    injection this with this
    exact h x h3 (by omega)
structure Gst (bs : List Bk) (i : Nat) (H0 H : Hp) (d : Addr) (gs : List (Nat × Addr)) : Prop where
  kv : H d = some (.dK (kvG gs))
  keys : gs.map (·.1) = (List.range i).filter fun x => decide (beta bs x = x)
  nd : (gs.map (·.2)).Nodup
  at_ : ∀ x ∈ gs, H0 x.2 = none ∧ x.2 ≠ d ∧ ListN H x.2 ((List.range i).filter fun y => decide (beta bs y = x.1))
  mt : Mut d H0 H
section
variable {bs : List Bk} {i : Nat} {H0 H : Hp} {d : Addr} {gs : List (Nat × Addr)}
theorem Gst.tup (G : Gst bs i H0 H d gs) {t : Addr} {o : HO} (h : H t = none) : Gst bs i H0 (upd H t o) d gs := by
  refine ⟨?_, G.keys, G.nd, fun x hx => ?_, G.mt.new h⟩
  · rw [upd_ne (ne_of_none G.kv h)]
    exact G.kv
  · obtain ⟨h1, h2, h3⟩ := G.at_ x hx
    refine ⟨h1, h2, ?_⟩
    show upd H t o x.2 = _
    rw [upd_ne (ne_of_none h3 h)]
    exact h3
theorem Gst.lt (G : Gst bs i H0 H d gs) {x : Nat × Addr} (hx : x ∈ gs) : x.1 < i := by
  have : x.1 ∈ gs.map (·.1) := List.mem_map.mpr ⟨x, hx, rfl⟩
  rw [G.keys] at this
  exact List.mem_range.mp (List.mem_filter.mp this).1
theorem Gst.old (G : Gst bs i H0 H d gs) {a : Addr} (h : (beta bs i, a) ∈ gs) : Gst bs (i + 1) H0 (upd H a (.lst (nI ((List.range i).filter fun y => decide (beta bs y = beta bs i)) ++ [V.int (i : Int)]))) d gs := by
  have hlt := G.lt h
  obtain ⟨h1, h2, h3⟩ := G.at_ _ h
  have key : ∀ m, (List.range (i + 1)).filter (fun y => decide (beta bs y = m)) = (List.range i).filter (fun y => decide (beta bs y = m)) ++ (if beta bs i = m then [i] else []) := fun m => by
    rw [List.range_succ, List.filter_append]
    congr 1
    by_cases c : beta bs i = m <;> simp [c]
  refine ⟨?_, ?_, G.nd, fun x hx => ?_, fun b o hb hv => ?_⟩
  · rw [upd_ne h2.symm]
    exact G.kv
  · rw [List.range_succ, List.filter_append, G.keys]
    have : (decide (beta bs i = i)) = false := decide_eq_false (by have : beta bs i < i := hlt; omega)
    simp [this]
  · obtain ⟨g1, g2, g3⟩ := G.at_ x hx
    refine ⟨g1, g2, ?_⟩
    show upd H a _ x.2 = _
    rw [key]
    by_cases c : x.2 = a
    · have e : x.1 = beta bs i := by
        obtain ⟨p, hp⟩ := List.mem_iff_getElem?.mp hx
        obtain ⟨q, hq⟩ := List.mem_iff_getElem?.mp h
        have e1 : (gs.map (·.2))[p]? = some a := by rw [List.getElem?_map, hp]; simp [c]
        have e2 : (gs.map (·.2))[q]? = some a := by rw [List.getElem?_map, hq]; rfl
        have := nd_ix G.nd e1 e2
        subst this
        rw [hp] at hq
        injection hq with hq
        rw [hq]
      rw [c, upd_same, e, if_pos rfl]
      unfold nI
      rw [List.map_append]
      rfl
    · have e : beta bs i ≠ x.1 := fun z => c (by
        obtain ⟨p, hp⟩ := List.mem_iff_getElem?.mp hx
        obtain ⟨q, hq⟩ := List.mem_iff_getElem?.mp h
        have e1 : (gs.map (·.1))[p]? = some x.1 := by rw [List.getElem?_map, hp]; rfl
        have e2 : (gs.map (·.1))[q]? = some x.1 := by rw [List.getElem?_map, hq]; simp [z]
        have nd : (gs.map (·.1)).Nodup := by rw [G.keys]; exact nodup_filter _ List.nodup_range
        have e3 := (List.getElem?_eq_some_iff.mp e1)
        have e4 := (List.getElem?_eq_some_iff.mp e2)
        obtain ⟨l1, e3⟩ := e3
        obtain ⟨l2, e4⟩ := e4
        have := (List.getElem_inj (h₀ := l1) (h₁ := l2) nd).mp (e3.trans e4.symm)
        subst this
        rw [hp] at hq
        injection hq with hq
        rw [hq])
      rw [upd_ne c, if_neg e, List.append_nil]
      exact g3
  · have : b ≠ a := fun z => by
      rw [z, h1] at hv
      cases hv
    rw [upd_ne this]
    exact G.mt b o hb hv
theorem Gst.fresh (G : Gst bs i H0 H d gs) (hle : ∀ x, x ≤ i → beta bs x ≤ x) (hroot : beta bs (beta bs i) = beta bs i) {z : Addr} (h : ∀ x ∈ gs, x.1 ≠ beta bs i) (hz : H z = none) :
    beta bs i = i ∧ Gst bs (i + 1) H0 (upd (upd (upd H z (.lst [])) d (.dK (kvG (gs ++ [(i, z)])))) z (.lst ([] ++ [V.int (i : Int)]))) d (gs ++ [(i, z)]) := by
  have hi : beta bs i = i := by
    have h1 := hle i (Nat.le_refl _)
    by_cases c : beta bs i = i
    · exact c
    · exfalso
      have : beta bs i ∈ gs.map (·.1) := by
        rw [G.keys, List.mem_filter, List.mem_range]
        exact ⟨by omega, by simpa using hroot⟩
      obtain ⟨x, hx, e⟩ := List.mem_map.mp this
      exact h x hx e
  have hdz : z ≠ d := fun e => by
    rw [e, G.kv] at hz
    cases hz
  have key : ∀ m, (List.range (i + 1)).filter (fun y => decide (beta bs y = m)) = (List.range i).filter (fun y => decide (beta bs y = m)) ++ (if beta bs i = m then [i] else []) := fun m => by
    rw [List.range_succ, List.filter_append]
    congr 1
    by_cases c : beta bs i = m <;> simp [c]
  have ne : ∀ x ∈ gs, x.2 ≠ z := fun x hx e => by
    have := (G.at_ x hx).2.2
    rw [e] at this
    rw [show H z = _ from this] at hz
    cases hz
  refine ⟨hi, ?_, ?_, ?_, fun x hx => ?_, fun b o hb hv => ?_⟩
  · rw [upd_ne hdz.symm, upd_same]
  · rw [List.map_append, G.keys, List.range_succ, List.filter_append]
    simp [hi]
  · rw [List.map_append, List.nodup_append]
    refine ⟨G.nd, by simp, fun a ha b hb => ?_⟩
    obtain ⟨x, hx, rfl⟩ := List.mem_map.mp ha
    simp at hb
    rw [hb]
    exact ne x hx
  · rcases List.mem_append.mp hx with hx | hx
    · obtain ⟨g1, g2, g3⟩ := G.at_ x hx
      refine ⟨g1, g2, ?_⟩
      show upd _ z _ x.2 = _
      rw [upd_ne (ne x hx), upd_ne g2, upd_ne (ne x hx), key, if_neg (by rw [hi]; have := G.lt hx; omega), List.append_nil]
      exact g3
    · simp at hx
      subst hx
      refine ⟨G.mt.free hdz hz, hdz, ?_⟩
      show upd _ z _ z = _
      rw [upd_same, key, if_pos hi]
      have : (List.range i).filter (fun y => decide (beta bs y = i)) = [] := by
        rw [List.filter_eq_nil_iff]
        intro y hy
        have h1 := List.mem_range.mp hy
        have h2 := hle y (by omega)
        simp
        omega
      rw [this]
      rfl
  · have e := G.mt b o hb hv
    have n : b ≠ z := fun q => by
      rw [q, hz] at e
      cases e
    rw [upd_ne n, upd_ne hb, upd_ne n]
    exact e
end
end Pv

namespace Pv
open PySem L2 Evl Pm
/-- [0 ..] of a walk -/
theorem path_len {ys : List Nat} {bs : List Bk} (B : Built ys bs) {b : Bk} (hb : b ∈ bs) : b.2.length ≤ 4 := by
  rw [(B.blk b hb).len]
  unfold form
  split <;> decide
theorem path_le {b : Bk} : (path b).length ≤ b.2.length := by
  unfold path
  split
  · rw [List.length_take]; omega
  · exact Nat.le_refl _
theorem path_mem {b : Bk} {x : Nat} (h : x ∈ path b) : x ∈ b.2 := by
  unfold path at h
  split at h
  · exact List.mem_of_mem_take h
  · exact h
theorem path_zero {b : Bk} : (path b).getD 0 0 = b.2.getD 0 0 := by
  unfold path
  split
  · cases b.2 <;> rfl
  · rfl
theorem getD_take_mem {p : List Nat} {j : Nat} : ∀ {x : Nat}, x ∈ p.take j → ∃ k, k < j ∧ k < p.length ∧ p.getD k 0 = x := fun {x} h => by
  obtain ⟨k, hk, e⟩ := List.getElem_of_mem h
  rw [List.length_take] at hk
  rw [List.getElem_take] at e
  refine ⟨k, by omega, by omega, ?_⟩
  rw [List.getD_eq_getElem?_getD, List.getElem?_eq_getElem (by omega)]
  exact e
theorem Walks.notin {g : Nat → Nat} {p : List Nat} (w : Walks g p) {j : Nat} (h : j < p.length) : (p.take j).contains (p.getD j 0) = false := by
  cases c : (p.take j).contains (p.getD j 0) with
  | false => rfl
  | true =>
    rw [List.contains_iff_mem] at c
    obtain ⟨k, h1, h2, e⟩ := getD_take_mem c
    rw [List.getD_eq_getElem?_getD, List.getD_eq_getElem?_getD, List.getElem?_eq_getElem h2, List.getElem?_eq_getElem h] at e
    have := (List.getElem_inj (h₀ := h2) (h₁ := h) w.nd).mp e
    omega
end Pv

namespace Pv
open PySem L2 Evl Pm
theorem PieceAt.updL {H : Hp} {q f : Addr} {b : Bk} {xs : List V} {o : HO} (h : PieceAt H q b) (hf : H f = some (.lst xs)) : PieceAt (upd H f o) q b := by
  obtain ⟨t, h1, h2⟩ := h
  refine ⟨t, ?_, ?_⟩
  · rw [upd_ne (fun z => by rw [z, hf] at h1; cases h1)]
    exact h1
  · rw [upd_ne (fun z => by rw [z, hf] at h2; cases h2)]
    exact h2
/-- the first pieces, in a list -/
def Some2 (F : Hp → Addr → Bk → Prop) (H : Hp) (p : Addr) (bs : List Bk) (i : Nat) : Prop := ∃ qs : List Addr, H p = some (.lst (qs.map V.ref)) ∧ qs.length = i ∧ ∀ (j : Nat) (q : Addr) (b : Bk), qs[j]? = some q → bs[j]? = some b → F H q b
theorem Some2.nil {F : Hp → Addr → Bk → Prop} {H : Hp} {p : Addr} {bs : List Bk} (h : H p = some (.lst [])) : Some2 F H p bs 0 := ⟨[], h, rfl, fun j q b h => by simp at h⟩
theorem Some2.more {H : Hp} {p q : Addr} {bs : List Bk} {i : Nat} {b : Bk} (h : Some2 PieceAt H p bs i) (hq : PieceAt H q b) (hb : bs[i]? = some b) : ∃ qs : List Addr, H p = some (.lst (qs.map V.ref)) ∧ qs.length = i ∧ Some2 PieceAt (upd H p (.lst (qs.map V.ref ++ [V.ref q]))) p bs (i + 1) := by
  obtain ⟨qs, h1, h2, h3⟩ := h
  refine ⟨qs, h1, h2, qs ++ [q], by rw [upd_same, List.map_append]; rfl, by rw [List.length_append, h2]; rfl, fun j r c hr hc => ?_⟩
  rcases Nat.lt_or_ge j qs.length with hj | hj
  · rw [List.getElem?_append_left hj] at hr
    exact (h3 j r c hr hc).updL h1
  · rw [List.getElem?_append_right hj] at hr
    have : j - qs.length = 0 := by
      by_cases z : j - qs.length = 0
      · exact z
      · rw [List.getElem?_eq_none (by simp; omega)] at hr
        cases hr
    rw [this] at hr
    injection hr with hr
    subst hr
    have : j = i := by omega
    subst this
    rw [hb] at hc
    injection hc with hc
    subst hc
    exact hq.updL h1
theorem Some2.ex {H H1 : Hp} {p : Addr} {bs : List Bk} {i : Nat} (e : Ex H H1) (h : Some2 PieceAt H p bs i) : Some2 PieceAt H1 p bs i := by
  obtain ⟨qs, h1, h2, h3⟩ := h
  exact ⟨qs, e _ _ h1, h2, fun j q b a c => (h3 j q b a c).ex e⟩
theorem Some2.all {H : Hp} {p : Addr} {bs : List Bk} (h : Some2 PieceAt H p bs bs.length) : All2 PieceAt H p bs := by
  obtain ⟨qs, h1, h2, h3⟩ := h
  exact ⟨qs, h1, h2, h3⟩
theorem Good.gs {ys : List Nat} {bs : List Bk} (G : Good ys bs) {gs : List (Nat × Addr)} (h : gs.map (·.1) = roots bs ys.length) : gs.length = bs.length ∧ ∀ (i : Nat) (x : Nat × Addr) (b : Bk), gs[i]? = some x → bs[i]? = some b → x.1 = mn b.2 := by
  rw [G.built.roots_eq G.srt] at h
  have e := congrArg List.length h
  rw [List.length_map, List.length_map] at e
  refine ⟨e, fun i x b hx hb => ?_⟩
  have e1 : (gs.map (·.1))[i]? = some x.1 := by rw [List.getElem?_map, hx]; rfl
  rw [h, List.getElem?_map, hb] at e1
  injection e1 with e1
  exact e1.symm
theorem Good.few {ys : List Nat} {bs : List Bk} (G : Good ys bs) : bs.length ≤ 64 := by
  have h := G.built.perm.length_eq
  rw [List.length_range, List.length_flatMap] at h
  have : ∀ (l : List Bk), (∀ b ∈ l, b.2 ≠ []) → l.length ≤ (l.map fun b => b.2.length).sum := fun l => by
    induction l with
    | nil => intro _; exact Nat.le_refl _
    | cons b l ih =>
      intro hl
      have h1 := ih fun c hc => hl c (List.mem_cons_of_mem _ hc)
      have h2 := List.length_pos_iff.mpr (hl b (List.mem_cons_self ..))
      simp only [List.length_cons, List.map_cons, List.sum_cons]
      omega
  have h2 := this bs fun b hb => G.built.ne hb
  have := G.len
  omega
end Pv

namespace Pv
open PySem L2 Evl Pm
def canon (w : Nat) (ms : List Nat) : List Nat :=
  if w = 1 ∧ ms.getD 1 0 < ms.getD 0 0 then [ms.getD 1 0, ms.getD 0 0]
  else if w = 5 ∧ ms.getD 3 0 < ms.getD 0 0 then [ms.getD 3 0, ms.getD 2 0, ms.getD 1 0, ms.getD 0 0]
  else if w = 7 then ms.drop (ms.idxOf (mn ms)) ++ ms.take (ms.idxOf (mn ms)) else ms
theorem four {l : List Nat} (h : l.length = 4) : ∃ a b c d, l = [a, b, c, d] := by
  match l, h with
  | [a, b, c, d], _ => exact ⟨a, b, c, d, rfl⟩
theorem two_l {l : List Nat} (h : l.length = 2) : ∃ a b, l = [a, b] := by
  match l, h with
  | [a, b], _ => exact ⟨a, b, rfl⟩
theorem canon_perm {w : Nat} {ms : List Nat} (h : ms.length = (form w).length) : (canon w ms).Perm ms := by
  unfold canon
  split
  · rename_i c
    obtain ⟨rfl, c⟩ := c
    obtain ⟨a, b, rfl⟩ := two_l h
    exact List.Perm.swap ..
  · split
    · rename_i c
      obtain ⟨rfl, c⟩ := c
      obtain ⟨x, y, z, t, rfl⟩ := four h
      exact (List.reverse_perm [x, y, z, t])
    · split
      · have e := List.take_append_drop (ms.idxOf (mn ms)) ms
        conv => rhs; rw [← e]
        exact List.perm_append_comm
      · exact List.Perm.refl _
theorem mn_perm {l m : List Nat} (h : l.Perm m) : mn l = mn m := by
  by_cases c : l = []
  · subst c
    rw [List.nil_perm.mp h]
  · have c2 : m ≠ [] := fun z => c (by subst z; exact List.perm_nil.mp h)
    have h1 := mn_le (h.mem_iff.mp (mn_mem c))
    have h2 := mn_le (h.mem_iff.mpr (mn_mem c2))
    omega
theorem canon_ok {w : Nat} {ms : List Nat} (h : ms.length = (form w).length) (nd : ms.Nodup) : Canon (w, canon w ms) := by
  refine ⟨fun e => ?_, fun e => ?_, fun e => ?_⟩
  · simp only at e
    subst e
    obtain ⟨a, b, rfl⟩ := two_l h
    simp at nd
    show (canon 1 [a, b]).getD 0 0 < (canon 1 [a, b]).getD 1 0
    unfold canon
    simp
    split <;> simp <;> omega
  · simp only at e
    subst e
    obtain ⟨a, b, c, d, rfl⟩ := four h
    simp at nd
    show (canon 5 [a, b, c, d]).getD 0 0 < (canon 5 [a, b, c, d]).getD 3 0
    unfold canon
    simp
    split <;> simp <;> omega
  · simp only at e
    subst e
    show (canon 7 ms).getD 0 0 = mn (canon 7 ms)
    rw [mn_perm (canon_perm h)]
    unfold canon
    simp only [show ¬ ((7 : Nat) = 1) by decide, show ¬ ((7 : Nat) = 5) by decide, false_and, if_false, if_true]
    have hm : mn ms ∈ ms := mn_mem (fun z => by subst z; cases h)
    have hi := List.idxOf_lt_length_of_mem hm
    rw [List.getD_eq_getElem?_getD, List.getElem?_append_left (by rw [List.length_drop]; omega), List.getElem?_drop, Nat.add_zero, List.getElem?_eq_getElem hi]
    exact List.getElem_idxOf hi
theorem blk_iff1 {ys : List Nat} {a b : Nat} : Blk ys (1, [a, b]) ↔ ys.getD a 0 = b ∧ ys.getD b 0 = a := by
  refine ⟨fun q => ⟨q.sh 0 (by simp), q.sh 1 (by simp)⟩, fun ⟨h1, h2⟩ => ⟨show 1 < 8 by decide, rfl, fun k hk => ?_⟩⟩
  rcases k with _ | _ | k
  · exact h1
  · exact h2
  · simp at hk
    omega
theorem blk_iff5 {ys : List Nat} {a b c d : Nat} : Blk ys (5, [a, b, c, d]) ↔ ys.getD a 0 = b ∧ ys.getD b 0 = c ∧ ys.getD c 0 = b ∧ ys.getD d 0 = c := by
  refine ⟨fun q => ⟨q.sh 0 (by simp), q.sh 1 (by simp), q.sh 2 (by simp), q.sh 3 (by simp)⟩, fun ⟨h1, h2, h3, h4⟩ => ⟨show _ < 8 by first | exact (by decide : 5 < 8) | exact (by decide : 7 < 8), rfl, fun k hk => ?_⟩⟩
  rcases k with _ | _ | _ | _ | k
  · exact h1
  · exact h2
  · exact h3
  · exact h4
  · simp at hk
    omega
theorem blk_iff7 {ys : List Nat} {a b c d : Nat} : Blk ys (7, [a, b, c, d]) ↔ ys.getD a 0 = b ∧ ys.getD b 0 = c ∧ ys.getD c 0 = d ∧ ys.getD d 0 = a := by
  refine ⟨fun q => ⟨q.sh 0 (by simp), q.sh 1 (by simp), q.sh 2 (by simp), q.sh 3 (by simp)⟩, fun ⟨h1, h2, h3, h4⟩ => ⟨show _ < 8 by first | exact (by decide : 5 < 8) | exact (by decide : 7 < 8), rfl, fun k hk => ?_⟩⟩
  rcases k with _ | _ | _ | _ | k
  · exact h1
  · exact h2
  · exact h3
  · exact h4
  · simp at hk
    omega
theorem canon_blk {ys : List Nat} {w : Nat} {ms : List Nat} (q : Blk ys (w, ms)) : Blk ys (w, canon w ms) := by
  have h : ms.length = (form w).length := q.len
  unfold canon
  split
  · rename_i c
    obtain ⟨rfl, c⟩ := c
    obtain ⟨a, b, rfl⟩ := two_l h
    obtain ⟨h1, h2⟩ := blk_iff1.mp q
    exact blk_iff1.mpr ⟨h2, h1⟩
  · split
    · rename_i c
      obtain ⟨rfl, c⟩ := c
      obtain ⟨a, b, c, d, rfl⟩ := four h
      obtain ⟨h1, h2, h3, h4⟩ := blk_iff5.mp q
      exact blk_iff5.mpr ⟨h4, h3, h2, h1⟩
    · split
      · rename_i c
        subst c
        obtain ⟨a, b, c, d, rfl⟩ := four h
        obtain ⟨h1, h2, h3, h4⟩ := blk_iff7.mp q
        have hi := List.idxOf_lt_length_of_mem (mn_mem (l := [a, b, c, d]) (by simp))
        simp only [List.length_cons, List.length_nil] at hi
        generalize [a, b, c, d].idxOf (mn [a, b, c, d]) = i at *
        rcases i with _ | _ | _ | _ | i
        · exact blk_iff7.mpr ⟨h1, h2, h3, h4⟩
        · exact blk_iff7.mpr ⟨h2, h3, h4, h1⟩
        · exact blk_iff7.mpr ⟨h3, h4, h1, h2⟩
        · exact blk_iff7.mpr ⟨h4, h1, h2, h3⟩
        · omega
      · exact q
end Pv

namespace Pv
open PySem L2 Evl Pm
def fl (w : Nat) : Nat := (form w).length
def tot (ws : List Nat) : Nat := (ws.map fl).sum
def cuts : List Nat → List Nat → List Bk
  | [], _ => []
  | w :: ws, ms => (w, ms.take (fl w)) :: cuts ws (ms.drop (fl w))
theorem tot_app {a b : List Nat} : tot (a ++ b) = tot a + tot b := by
  unfold tot
  rw [List.map_append, List.sum_append]
theorem fl_le {w : Nat} : fl w ≤ 4 := by
  unfold fl form
  split <;> decide
theorem cuts_len : ∀ {ws ms : List Nat}, (cuts ws ms).length = ws.length
  | [], _ => rfl
  | w :: ws, ms => congrArg (· + 1) (cuts_len (ws := ws) (ms := ms.drop (fl w)))
theorem cuts_at : ∀ {ws ms : List Nat} {i : Nat} {w : Nat}, ws[i]? = some w → (cuts ws ms)[i]? = some (w, (ms.drop (tot (ws.take i))).take (fl w))
  | [], _, i, _, h => by simp at h
  | v :: ws, ms, 0, w, h => by
    cases Option.some.inj h
    rfl
  | v :: ws, ms, i + 1, w, h => by
    have ih := cuts_at (ws := ws) (ms := ms.drop (fl v)) (i := i) (w := w) h
    show (cuts ws (ms.drop (fl v)))[i]? = _
    rw [ih, List.drop_drop]
    rfl
theorem cuts_flat : ∀ {ws ms : List Nat}, (cuts ws ms).flatMap (·.2) = ms.take (tot ws)
  | [], ms => rfl
  | w :: ws, ms => by
    show ms.take (fl w) ++ (cuts ws (ms.drop (fl w))).flatMap (·.2) = ms.take (fl w + tot ws)
    rw [cuts_flat, List.take_add]
theorem tot_take {ws : List Nat} {i w : Nat} (h : ws[i]? = some w) : tot (ws.take (i + 1)) = tot (ws.take i) + fl w := by
  rw [List.take_add_one, h, tot_app]
  rfl
theorem tot_le {ws : List Nat} {i : Nat} : tot (ws.take i) ≤ tot ws := by
  have e := List.take_append_drop i ws
  have := tot_app (a := ws.take i) (b := ws.drop i)
  rw [e] at this
  omega
/-- the entries of one set of records -/
def fill (ys seg f : List Nat) : Nat → List Nat
  | 0 => ys
  | k + 1 => (fill ys seg f k).set (seg.getD k 0) (seg.getD (f.getD k 0) 0)
theorem fill_len {ys seg f : List Nat} : ∀ k, (fill ys seg f k).length = ys.length
  | 0 => rfl
  | k + 1 => by
    unfold fill
    rw [List.length_set, fill_len k]
theorem getD_set_ne {l : List Nat} {i j v : Nat} (h : i ≠ j) : (l.set i v).getD j 0 = l.getD j 0 := by
  rw [List.getD_eq_getElem?_getD, List.getD_eq_getElem?_getD, List.getElem?_set_ne h]
theorem getD_set_eq {l : List Nat} {i v : Nat} (h : i < l.length) : (l.set i v).getD i 0 = v := by
  rw [List.getD_eq_getElem?_getD, List.getElem?_set_self h]
  rfl
theorem fill_out {ys seg f : List Nat} {x : Nat} (hx : x ∉ seg) : ∀ k, k ≤ seg.length → (fill ys seg f k).getD x 0 = ys.getD x 0
  | 0, _ => rfl
  | k + 1, h => by
    unfold fill
    rw [getD_set_ne (fun z => hx (by rw [← z]; exact getD_mem (by omega))), fill_out hx k (by omega)]
theorem nd_getD {l : List Nat} (nd : l.Nodup) {i j : Nat} (hi : i < l.length) (hj : j < l.length) (h : l.getD i 0 = l.getD j 0) : i = j := by
  rw [List.getD_eq_getElem?_getD, List.getD_eq_getElem?_getD, List.getElem?_eq_getElem hi, List.getElem?_eq_getElem hj] at h
  exact (List.getElem_inj (h₀ := hi) (h₁ := hj) nd).mp h
theorem fill_in {ys seg f : List Nat} (nd : seg.Nodup) (lt : ∀ x ∈ seg, x < ys.length) : ∀ k, k ≤ seg.length → ∀ j, j < k → (fill ys seg f k).getD (seg.getD j 0) 0 = seg.getD (f.getD j 0) 0
  | 0, _, j, hj => by omega
  | k + 1, h, j, hj => by
    unfold fill
    by_cases c : j = k
    · subst c
      rw [getD_set_eq (by rw [fill_len]; exact lt _ (getD_mem (by omega)))]
    · rw [getD_set_ne (fun z => c (nd_getD nd (by omega) (by omega) z.symm)), fill_in nd lt k (by omega) j (by omega)]
theorem blk_out {ys seg f : List Nat} {b : Bk} {k : Nat} (q : Blk ys b) (h : ∀ x ∈ b.2, x ∉ seg) (hk : k ≤ seg.length) : Blk (fill ys seg f k) b :=
  ⟨q.w, q.len, fun j hj => by rw [fill_out (h _ (getD_mem hj)) k hk]; exact q.sh j hj⟩
theorem blk_in {ys seg : List Nat} {w : Nat} (hw : w < 8) (nd : seg.Nodup) (lt : ∀ x ∈ seg, x < ys.length) (hl : seg.length = (form w).length) : Blk (fill ys seg (form w) (form w).length) (w, seg) :=
  ⟨hw, hl, fun j hj => fill_in nd lt _ (by omega) j (by have hj : j < seg.length := hj; omega)⟩
def canB (b : Bk) : Bk := (b.1, canon b.1 b.2)
theorem flat_canon : ∀ {bs : List Bk}, (∀ b ∈ bs, b.2.length = (form b.1).length) → ((bs.map canB).flatMap (·.2)).Perm (bs.flatMap (·.2))
  | [], _ => List.Perm.refl _
  | b :: bs, h => by
    show (canon b.1 b.2 ++ (bs.map canB).flatMap (·.2)).Perm (b.2 ++ bs.flatMap (·.2))
    exact List.Perm.append (canon_perm (h b (List.mem_cons_self ..))) (flat_canon fun c hc => h c (List.mem_cons_of_mem _ hc))
theorem flat_perm {bs cs : List Bk} (h : bs.Perm cs) : (bs.flatMap (·.2)).Perm (cs.flatMap (·.2)) := List.Perm.flatMap_right _ h
theorem disj_of : ∀ {bs : List Bk}, (bs.flatMap (·.2)).Nodup → bs.Pairwise fun a b => ∀ x ∈ a.2, ∀ y ∈ b.2, x ≠ y
  | [], _ => .nil
  | b :: bs, h => by
    have h : (b.2 ++ bs.flatMap (·.2)).Nodup := h
    rw [List.nodup_append] at h
    exact .cons (fun c hc x hx y hy => h.2.2 x hx y (List.mem_flatMap.mpr ⟨c, hc, hy⟩)) (disj_of h.2.1)
/-- what the build comes to -/
structure Bt (ys : List Nat) (cs : List Bk) : Prop where
  blk : ∀ b ∈ cs, Blk ys b
  flat : (cs.flatMap (·.2)).Perm (List.range ys.length)
  len : ys.length ≤ 64
theorem Bt.nd {ys : List Nat} {cs : List Bk} (B : Bt ys cs) : (cs.flatMap (·.2)).Nodup := B.flat.nodup_iff.mpr List.nodup_range
theorem Bt.good {ys : List Nat} {cs bs : List Bk} (B : Bt ys cs) (hp : bs.Perm (cs.map canB)) (hs : bs.Pairwise fun a b => mn a.2 ≤ mn b.2) : Good ys bs := by
  have nd := B.nd
  have hb : Built ys bs := by
    refine ⟨fun b hb => ?_, ?_⟩
    · obtain ⟨c, hc, rfl⟩ := List.mem_map.mp (hp.mem_iff.mp hb)
      exact canon_blk (B.blk c hc)
    · exact ((flat_perm hp).trans (flat_canon fun c hc => (B.blk c hc).len)).trans B.flat
  have hnd : (bs.flatMap (·.2)).Nodup := hb.nd
  refine ⟨hb, ?_, fun b h => ?_, B.len⟩
  · have ndp : bs.Pairwise fun a b => mn a.2 ≠ mn b.2 := by
      have pw : bs.Pairwise fun a b => ∀ x ∈ a.2, ∀ y ∈ b.2, x ≠ y := disj_of hnd
      refine List.Pairwise.imp_of_mem (fun {a b} ha hb' d z => ?_) pw
      exact d _ (mn_mem (hb.ne ha)) _ (mn_mem (hb.ne hb')) z
    exact (List.Pairwise.and hs ndp).imp fun {a b} h => Nat.lt_of_le_of_ne h.1 h.2
  · obtain ⟨c, hc, rfl⟩ := List.mem_map.mp (hp.mem_iff.mp h)
    exact canon_ok (B.blk c hc).len (nd_of nd hc)
end Pv

namespace Pv
open PySem L2 Evl Pm
/-! ### parts of two states -/
def wd5 : Nat → Str | 0 => "free" | 1 => "pair" | 2 => "tie" | 3 => "move" | _ => "cross"
def ln5 : Nat → Nat | 0 => 1 | 1 => 2 | 2 => 2 | 3 => 3 | _ => 4
def sd : Nat → Nat → List Nat
  | 0, _ => [0] | 1, _ => [1, 0] | 2, 0 => [0, 1] | 2, _ => [1, 0] | 3, 0 => [1, 0, 2] | 3, _ => [2, 1, 0] | _, 0 => [1, 0, 3, 2] | _, _ => [3, 2, 1, 0]
/-- a part: its kind, the side at which it stands before, its records, which of them are written -/
structure WM where
  k : Nat
  s : Nat
  p : List Nat
  m : List Bool
def bools : Nat → List (List Bool)
  | 0 => [[]]
  | n + 1 => (bools n).flatMap fun l => [false :: l, true :: l]
theorem mem_bools : ∀ {n : Nat} {m : List Bool}, m.length = n → m ∈ bools n
  | 0, [], _ => List.mem_singleton.mpr rfl
  | n + 1, b :: m, h => by
    have ih := mem_bools (n := n) (m := m) (by simpa using h)
    refine List.mem_flatMap.mpr ⟨m, ih, ?_⟩
    cases b <;> simp
structure WM.Ok (W : WM) : Prop where
  k : W.k < 5
  s : W.s < 2
  p : W.p.length = ln5 W.k
  m : W.m.length = ln5 W.k
def shI (k s : Nat) (m : List Bool) : List Nat := (List.range (ln5 k)).map fun j => (sd k (if m.getD j false then 1 - s else s)).getD j 0
def tabB : List (List Nat × List Bk) := [([0], [(0, [0])]), ([0, 0], [(2, [1, 0])]), ([0, 1], [(0, [0]), (0, [1])]), ([1, 0], [(1, [0, 1])]), ([1, 0, 0], [(3, [2, 0, 1])]), ([1, 0, 1, 0], [(5, [2, 1, 0, 3])]), ([1, 0, 1, 2], [(6, [3, 2, 1, 0])]), ([1, 0, 2], [(1, [0, 1]), (0, [2])]), ([1, 0, 3, 0], [(6, [2, 3, 0, 1])]), ([1, 0, 3, 2], [(1, [0, 1]), (1, [2, 3])]), ([1, 1], [(2, [0, 1])]), ([1, 1, 0], [(4, [2, 0, 1])]), ([1, 1, 2], [(2, [0, 1]), (0, [2])]), ([1, 2, 1, 0], [(6, [3, 0, 1, 2])]), ([1, 2, 1, 2], [(5, [0, 1, 2, 3])]), ([1, 2, 3, 0], [(7, [0, 1, 2, 3])]), ([1, 2, 3, 2], [(6, [0, 1, 2, 3])]), ([2, 0, 0], [(3, [1, 0, 2])]), ([2, 0, 2], [(4, [1, 0, 2])]), ([2, 1, 0], [(1, [0, 2]), (0, [1])]), ([2, 1, 2], [(2, [0, 2]), (0, [1])]), ([3, 0, 1, 0], [(6, [2, 1, 0, 3])]), ([3, 0, 1, 2], [(7, [0, 3, 2, 1])]), ([3, 0, 3, 0], [(5, [1, 0, 3, 2])]), ([3, 0, 3, 2], [(6, [1, 0, 3, 2])]), ([3, 2, 1, 0], [(1, [0, 3]), (1, [1, 2])]), ([3, 2, 1, 2], [(6, [0, 3, 2, 1])]), ([3, 2, 3, 0], [(6, [1, 2, 3, 0])]), ([3, 2, 3, 2], [(5, [0, 3, 2, 1])])]
def blkI (k s : Nat) (m : List Bool) : List Bk := (tabB.lookup (shI k s m)).getD []
def torn (b : Bk) : Bool := decide (1 < b.1)
def chF : Nat → Nat → List Nat
  | 2, 0 => [1, 0] | 2, _ => [0, 1] | 3, 0 => [0, 2, 1] | 3, _ => [1, 0, 2] | 4, 0 => [1, 0, 2] | 4, _ => [0, 2, 1] | _, 0 => [1, 0, 3, 2] | _, _ => [3, 2, 1, 0]
def pmF : Nat → List (List Nat)
  | 2 => [[0, 1]] | 3 => [[0, 1, 2]] | 4 => [[0, 1, 2]] | 5 => [[0, 1, 2, 3], [3, 2, 1, 0]] | 6 => [[0, 1, 2, 3]] | _ => [[0, 1, 2, 3], [1, 2, 3, 0], [2, 3, 0, 1], [3, 0, 1, 2]]
def dn (k s : Nat) (m : List Bool) : Nat := ((List.range (ln5 k)).filter fun j => (shI k s m).getD j 0 == (sd k (1 - s)).getD j 0).length
def resI (k s : Nat) (m : List Bool) (b : Bk) (q : List Nat) (c : Nat) : List Nat := fill (shI k s m) (q.map fun t => b.2.getD t 0) (chF b.1 c) b.2.length
/-- the table, as far as it does not speak of choices -/
def chk1 (k s : Nat) (m : List Bool) : Bool :=
  (((blkI k s m).flatMap (·.2)).isPerm (List.range (ln5 k))) && (blkI k s m).all (fun b => decide (b.1 < 8) && (b.2.length == (form b.1).length) && (List.range b.2.length).all fun j => (shI k s m).getD (b.2.getD j 0) 0 == b.2.getD ((form b.1).getD j 0) 0)
  && (((blkI k s m).filter torn).length == if decide (2 ≤ k) && decide (0 < dn k s m) && decide (dn k s m < ln5 k) then 1 else 0)
  && (!((blkI k s m).filter torn).isEmpty || (shI k s m == sd k s && (decide (k < 2) || dn k s m == 0)) || (shI k s m == sd k (1 - s) && dn k s m == ln5 k))
def chk2 (k s : Nat) (m : List Bool) : Bool :=
  ((blkI k s m).filter torn).all fun b => (pmF b.1).all fun q => (List.range 2).all fun c => (b.1 == 2 && c == 1) || resI k s m b q c == sd k s || resI k s m b q c == sd k (1 - s)
theorem chk_all : ((List.range 5).all fun k => (List.range 2).all fun s => (bools (ln5 k)).all fun m => chk1 k s m && chk2 k s m) = true := by decide +kernel
theorem sd_ne : ((List.range 5).all fun k => decide (k < 2) || (List.range (ln5 k)).all fun j => (sd k 0).getD j 0 != (sd k 1).getD j 0) = true := by decide +kernel
end Pv

namespace Pv
open PySem L2 Evl Pm
def Im (ys : List Nat) (W : WM) : Prop := ∀ j, j < ln5 W.k → ys.getD (W.p.getD j 0) 0 = W.p.getD ((shI W.k W.s W.m).getD j 0) 0
def bkW (W : WM) : List Bk := (blkI W.k W.s W.m).map fun b => (b.1, b.2.map fun i => W.p.getD i 0)
def csF (Ws : List WM) : List Bk := Ws.flatMap bkW
def half (W : WM) : Bool := decide (2 ≤ W.k) && decide (0 < dn W.k W.s W.m) && decide (dn W.k W.s W.m < ln5 W.k)
structure Chk (W : WM) : Prop where
  perm : ((blkI W.k W.s W.m).flatMap (·.2)).Perm (List.range (ln5 W.k))
  blk : ∀ b ∈ blkI W.k W.s W.m, b.1 < 8 ∧ b.2.length = (form b.1).length ∧ ∀ j, j < b.2.length → (shI W.k W.s W.m).getD (b.2.getD j 0) 0 = b.2.getD ((form b.1).getD j 0) 0
  cnt : ((blkI W.k W.s W.m).filter torn).length = if half W then 1 else 0
  whole : (blkI W.k W.s W.m).filter torn = [] → (shI W.k W.s W.m = sd W.k W.s ∧ (W.k < 2 ∨ dn W.k W.s W.m = 0)) ∨ (shI W.k W.s W.m = sd W.k (1 - W.s) ∧ dn W.k W.s W.m = ln5 W.k)
  res : ∀ b ∈ (blkI W.k W.s W.m).filter torn, ∀ q ∈ pmF b.1, ∀ c, c < 2 → (b.1 = 2 → c = 0) → resI W.k W.s W.m b q c = sd W.k W.s ∨ resI W.k W.s W.m b q c = sd W.k (1 - W.s)
theorem WM.Ok.chk {W : WM} (h : W.Ok) : Chk W := by
  have e := chk_all
  rw [List.all_eq_true] at e
  have e := e W.k (List.mem_range.mpr h.k)
  rw [List.all_eq_true] at e
  have e := e W.s (List.mem_range.mpr h.s)
  rw [List.all_eq_true] at e
  have e := e W.m (mem_bools h.m)
  rw [Bool.and_eq_true] at e
  obtain ⟨e1, e2⟩ := e
  unfold chk1 at e1
  unfold chk2 at e2
  simp only [Bool.and_eq_true] at e1
  obtain ⟨⟨⟨a1, a2⟩, a3⟩, a4⟩ := e1
  refine ⟨List.isPerm_iff.mp a1, fun b hb => ?_, ?_, fun z => ?_, fun b hb q hq c hc h2 => ?_⟩
  · rw [List.all_eq_true] at a2
    have := a2 b hb
    simp only [Bool.and_eq_true, decide_eq_true_eq, beq_iff_eq, List.all_eq_true, List.mem_range] at this
    exact ⟨this.1.1, this.1.2, this.2⟩
  · rw [beq_iff_eq] at a3
    unfold half
    simp only [Bool.and_eq_true]
    exact a3
  · rw [z] at a4
    simp only [List.isEmpty_nil, Bool.not_true, Bool.false_or, Bool.or_eq_true, Bool.and_eq_true, beq_iff_eq, decide_eq_true_eq] at a4
    exact a4
  · rw [List.all_eq_true] at e2
    have e2 := e2 b hb
    rw [List.all_eq_true] at e2
    have e2 := e2 q hq
    rw [List.all_eq_true] at e2
    have e2 := e2 c (List.mem_range.mpr hc)
    simp only [Bool.or_eq_true, Bool.and_eq_true, beq_iff_eq] at e2
    rcases e2 with (⟨x, y⟩ | x) | x
    · exact absurd (h2 x) (by omega)
    · exact .inl x
    · exact .inr x
theorem pm_chk : ((List.range 8).all fun w => decide (w < 2) || (((pmF w).all fun q => q.isPerm (List.range (form w).length)) && (List.range 2).all fun c => ((chF w c).length == (form w).length) && (chF w c).all fun t => decide (t < (form w).length))) = true := by decide +kernel
theorem pm_facts {w : Nat} (h : w < 8) (h1 : 1 < w) : (∀ q ∈ pmF w, q.Perm (List.range (form w).length)) ∧ ∀ c, c < 2 → (chF w c).length = (form w).length ∧ ∀ t ∈ chF w c, t < (form w).length := by
  have e := pm_chk
  rw [List.all_eq_true] at e
  have e := e w (List.mem_range.mpr h)
  rw [Bool.or_eq_true, decide_eq_true_eq] at e
  have e := e.resolve_left (by omega)
  rw [Bool.and_eq_true, List.all_eq_true, List.all_eq_true] at e
  refine ⟨fun q hq => List.isPerm_iff.mp (e.1 q hq), fun c hc => ?_⟩
  have := e.2 c (List.mem_range.mpr hc)
  simp only [Bool.and_eq_true, beq_iff_eq, List.all_eq_true, decide_eq_true_eq] at this
  exact this
theorem range_getD (p : List Nat) : (List.range p.length).map (fun i => p.getD i 0) = p := by
  apply List.ext_getElem
  · simp
  · intro i h1 h2
    simp only [List.getElem_map, List.getElem_range]
    rw [List.getD_eq_getElem?_getD, List.getElem?_eq_getElem h2]
    rfl
theorem wheel_rot {ms : List Nat} (h : ms.length = 4) : ∀ i, i < 4 → ∃ q ∈ pmF 7, ms.drop i ++ ms.take i = q.map fun t => ms.getD t 0 := by
  obtain ⟨a, b, c, d, rfl⟩ := four h
  intro i hi
  match i, hi with
  | 0, _ => exact ⟨[0, 1, 2, 3], by simp [pmF], rfl⟩
  | 1, _ => exact ⟨[1, 2, 3, 0], by simp [pmF], rfl⟩
  | 2, _ => exact ⟨[2, 3, 0, 1], by simp [pmF], rfl⟩
  | 3, _ => exact ⟨[3, 0, 1, 2], by simp [pmF], rfl⟩
theorem canon_pm {w : Nat} {ms : List Nat} (hw : w < 8) (h1 : 1 < w) (h : ms.length = (form w).length) : ∃ q ∈ pmF w, canon w ms = q.map fun t => ms.getD t 0 := by
  unfold canon
  rw [if_neg (by omega)]
  have id_ : ∀ n, ms.length = n → ms = (List.range n).map fun t => ms.getD t 0 := fun n e => by rw [← e, range_getD]
  by_cases h5 : w = 5
  · subst h5
    split
    · exact ⟨[3, 2, 1, 0], by simp [pmF], rfl⟩
    · rw [if_neg (by omega)]
      exact ⟨[0, 1, 2, 3], by simp [pmF], id_ 4 h⟩
  · rw [if_neg (by omega)]
    by_cases h7 : w = 7
    · subst h7
      rw [if_pos rfl]
      have h : ms.length = 4 := h
      refine wheel_rot h _ ?_
      have := List.idxOf_lt_length_of_mem (mn_mem (l := ms) (by intro z; rw [z] at h; cases h))
      omega
    · rw [if_neg h7]
      have : w = 2 ∨ w = 3 ∨ w = 4 ∨ w = 6 := by omega
      rcases this with rfl | rfl | rfl | rfl
      · exact ⟨[0, 1], by simp [pmF], id_ 2 h⟩
      · exact ⟨[0, 1, 2], by simp [pmF], id_ 3 h⟩
      · exact ⟨[0, 1, 2], by simp [pmF], id_ 3 h⟩
      · exact ⟨[0, 1, 2, 3], by simp [pmF], id_ 4 h⟩
theorem uniqW : ∀ {Ws : List WM} {V W : WM} {x : Nat}, (Ws.flatMap (·.p)).Nodup → V ∈ Ws → W ∈ Ws → x ∈ V.p → x ∈ W.p → V = W
  | a :: bs, b, c, x, nd, hb, hc, xb, xc => by
    rw [List.flatMap_cons, List.nodup_append] at nd
    rcases List.mem_cons.mp hb with e1 | hb
    · rcases List.mem_cons.mp hc with e2 | hc
      · rw [e1, e2]
      · exact absurd rfl (nd.2.2 x (e1 ▸ xb) x (List.mem_flatMap.mpr ⟨c, hc, xc⟩))
    · rcases List.mem_cons.mp hc with e2 | hc
      · exact absurd rfl (nd.2.2 x (e2 ▸ xc) x (List.mem_flatMap.mpr ⟨b, hb, xb⟩))
      · exact uniqW nd.2.1 hb hc xb xc
theorem ndW : ∀ {Ws : List WM} {W : WM}, (Ws.flatMap (·.p)).Nodup → W ∈ Ws → W.p.Nodup
  | a :: bs, b, nd, hb => by
    rw [List.flatMap_cons, List.nodup_append] at nd
    rcases List.mem_cons.mp hb with e1 | hb
    · rw [e1]; exact nd.1
    · exact ndW nd.2.1 hb
section
variable {W : WM} {Ws : List WM} {ys zs : List Nat} {bs : List Bk}
theorem Chk.lt (C : Chk W) {b : Bk} (hb : b ∈ blkI W.k W.s W.m) {i : Nat} (hi : i ∈ b.2) : i < ln5 W.k :=
  List.mem_range.mp (C.perm.mem_iff.mp (List.mem_flatMap.mpr ⟨b, hb, hi⟩))
theorem bk_flat (h : W.Ok) : ((bkW W).flatMap (·.2)).Perm W.p := by
  have e : (bkW W).flatMap (·.2) = ((blkI W.k W.s W.m).flatMap (·.2)).map fun i => W.p.getD i 0 := by
    unfold bkW
    rw [List.flatMap_map, List.map_flatMap]
  rw [e]
  have := h.chk.perm.map fun i => W.p.getD i 0
  rw [← h.p, range_getD] at this
  exact this
theorem cs_flat : ∀ {Ws : List WM}, (∀ W ∈ Ws, W.Ok) → ((csF Ws).flatMap (·.2)).Perm (Ws.flatMap (·.p))
  | [], _ => List.Perm.refl _
  | W :: Ws, h => by
    unfold csF
    rw [List.flatMap_cons, List.flatMap_append, List.flatMap_cons]
    exact (bk_flat (h W (List.mem_cons_self ..))).append (cs_flat fun V hV => h V (List.mem_cons_of_mem _ hV))
theorem bk_blk (h : W.Ok) (im : Im ys W) : ∀ b ∈ bkW W, Blk ys b := by
  intro b hb
  unfold bkW at hb
  obtain ⟨b0, hb0, rfl⟩ := List.mem_map.mp hb
  obtain ⟨c1, c2, c3⟩ := h.chk.blk b0 hb0
  refine ⟨c1, by rw [List.length_map]; exact c2, fun j hj => ?_⟩
  dsimp only at hj ⊢
  rw [List.length_map] at hj
  have f := form_lt b0.1 j (by rw [← c2]; exact hj)
  rw [getD_map hj, getD_map (by rw [c2]; exact f), im _ (h.chk.lt hb0 (getD_mem hj)), c3 j hj]
theorem bt_of (hn : ys.length ≤ 64) (ok : ∀ W ∈ Ws, W.Ok) (hp : (Ws.flatMap (·.p)).Perm (List.range ys.length)) (im : ∀ W ∈ Ws, Im ys W) : Bt ys (csF Ws) := by
  refine ⟨fun b hb => ?_, (cs_flat ok).trans hp, hn⟩
  obtain ⟨W, hW, hb⟩ := List.mem_flatMap.mp hb
  exact bk_blk (ok W hW) (im W hW) b hb
theorem cs_torn : ∀ {Ws : List WM}, (∀ W ∈ Ws, W.Ok) → ((csF Ws).filter torn).length = (Ws.filter half).length
  | [], _ => rfl
  | W :: Ws, h => by
    unfold csF
    rw [List.flatMap_cons, List.filter_append, List.length_append, List.filter_cons]
    have ih := cs_torn (Ws := Ws) fun V hV => h V (List.mem_cons_of_mem _ hV)
    unfold csF at ih
    rw [ih]
    have e : ((bkW W).filter torn).length = ((blkI W.k W.s W.m).filter torn).length := by
      unfold bkW
      rw [List.filter_map, List.length_map]
      rfl
    rw [e, (h W (List.mem_cons_self ..)).chk.cnt]
    cases half W with
    | true =>
      rw [if_pos rfl, if_pos rfl, List.length_cons]
      omega
    | false =>
      rw [if_neg (by simp), if_neg (by simp)]
      omega
theorem can_torn (hp : bs.Perm ((csF Ws).map canB)) (ok : ∀ W ∈ Ws, W.Ok) : (bs.filter torn).length = (Ws.filter half).length := by
  rw [(hp.filter torn).length_eq, List.filter_map, List.length_map]
  exact cs_torn ok
/-- what a repair leaves -/
structure Mend (f : Nat → Nat) (ys : List Nat) (bs : List Bk) (zs : List Nat) : Prop where
  len : zs.length = ys.length
  at_ : ∀ b ∈ bs, torn b = true → ∀ j, j < b.2.length → zs.getD (b.2.getD j 0) 0 = b.2.getD ((chF b.1 (f b.1)).getD j 0) 0
  out : ∀ x, (∀ b ∈ bs, torn b = true → x ∉ b.2) → zs.getD x 0 = ys.getD x 0
theorem own_blk (ok : ∀ W ∈ Ws, W.Ok) (nd : (Ws.flatMap (·.p)).Nodup) (hp : bs.Perm ((csF Ws).map canB)) (hW : W ∈ Ws) {j : Nat} (hj : j < ln5 W.k) {b : Bk} (hb : b ∈ bs) (hx : W.p.getD j 0 ∈ b.2) : ∃ b0 ∈ blkI W.k W.s W.m, b = canB (b0.1, b0.2.map fun i => W.p.getD i 0) ∧ j ∈ b0.2 := by
  obtain ⟨c, hc, rfl⟩ := List.mem_map.mp (hp.mem_iff.mp hb)
  obtain ⟨V, hV, hc⟩ := List.mem_flatMap.mp hc
  unfold bkW at hc
  obtain ⟨b0, hb0, rfl⟩ := List.mem_map.mp hc
  have hl := ((ok V hV).chk.blk b0 hb0).2.1
  have hx : W.p.getD j 0 ∈ (b0.2.map fun i => V.p.getD i 0) := (canon_perm (w := b0.1) (by rw [List.length_map]; exact hl)).mem_iff.mp hx
  obtain ⟨i, hi, e⟩ := List.mem_map.mp hx
  have hiV := (ok V hV).chk.lt hb0 hi
  have e1 := (ok W hW).p
  have e2 := (ok V hV).p
  have m1 : W.p.getD j 0 ∈ W.p := getD_mem (by omega)
  have m2 : W.p.getD j 0 ∈ V.p := by rw [← e]; exact getD_mem (by omega)
  have := uniqW nd hV hW m2 m1
  subst this
  have := nd_getD (ndW nd hW) (by omega) (by omega) e
  subst this
  exact ⟨b0, hb0, rfl, hi⟩
theorem mend_part {f : Nat → Nat} (f2 : f 2 = 0) (fl : ∀ w, f w < 2) (ok : ∀ W ∈ Ws, W.Ok) (nd : (Ws.flatMap (·.p)).Nodup) (im : ∀ W ∈ Ws, Im ys W) (hp : bs.Perm ((csF Ws).map canB)) (M : Mend f ys bs zs) (hW : W ∈ Ws) :
    ∃ r, (r = sd W.k W.s ∨ r = sd W.k (1 - W.s)) ∧ (W.k < 2 → r = sd W.k W.s) ∧ (dn W.k W.s W.m = 0 → r = sd W.k W.s) ∧ (2 ≤ W.k → dn W.k W.s W.m = ln5 W.k → r = sd W.k (1 - W.s)) ∧ ∀ j, j < ln5 W.k → zs.getD (W.p.getD j 0) 0 = W.p.getD (r.getD j 0) 0 := by
  have O := ok W hW
  have C := O.chk
  have h5 : 0 < ln5 W.k := by unfold ln5; split <;> decide
  have hs2 : W.k < 2 → sd W.k (1 - W.s) = sd W.k W.s := fun z => by
    have : W.k = 0 ∨ W.k = 1 := by omega
    rcases this with e | e <;> rw [e] <;> rfl
  cases e : (blkI W.k W.s W.m).filter torn with
  | nil =>
    refine ⟨shI W.k W.s W.m, ?_, ?_, ?_, ?_, fun j hj => ?_⟩
    · exact (C.whole e).imp And.left And.left
    · intro z
      rcases C.whole e with y | y
      · exact y.1
      · rw [y.1, hs2 z]
    · intro z
      rcases C.whole e with y | y
      · exact y.1
      · omega
    · intro z1 z2
      rcases C.whole e with y | y
      · omega
      · exact y.1
    · rw [M.out _ fun b hb ht hx => ?_, im W hW j hj]
      obtain ⟨b0, hb0, rfl, hj0⟩ := own_blk ok nd hp hW hj hb hx
      have : b0 ∈ (blkI W.k W.s W.m).filter torn := List.mem_filter.mpr ⟨hb0, ht⟩
      rw [e] at this
      cases this
  | cons b0 t =>
    have hc := C.cnt
    have hh : half W = true := by
      cases hh : half W with
      | true => rfl
      | false =>
        rw [hh, e] at hc
        cases hc
    rw [hh, e] at hc
    have ht : t = [] := List.eq_nil_of_length_eq_zero (by simpa using hc)
    subst ht
    unfold half at hh
    simp only [Bool.and_eq_true, decide_eq_true_eq] at hh
    have hm : b0 ∈ (blkI W.k W.s W.m).filter torn := by rw [e]; exact List.mem_cons_self ..
    obtain ⟨hb0, ht0⟩ := List.mem_filter.mp hm
    obtain ⟨c1, c2, c3⟩ := C.blk b0 hb0
    have h1 : 1 < b0.1 := by unfold torn at ht0; exact of_decide_eq_true ht0
    obtain ⟨q, hq, ecan⟩ := canon_pm (ms := b0.2.map fun i => W.p.getD i 0) c1 h1 (by rw [List.length_map]; exact c2)
    obtain ⟨P1, P2⟩ := pm_facts c1 h1
    have Pq := P1 q hq
    obtain ⟨L1, L2⟩ := P2 (f b0.1) (fl _)
    have lq : q.length = b0.2.length := by rw [Pq.length_eq, List.length_range, c2]
    have R := C.res b0 hm q hq (f b0.1) (fl _) fun z => by rw [z]; exact f2
    have nb : b0.2.Nodup := nd_of (C.perm.nodup_iff.mpr List.nodup_range) hb0
    have pseg : (q.map fun t => b0.2.getD t 0).Perm b0.2 := by
      have := Pq.map fun t => b0.2.getD t 0
      rw [← c2, range_getD] at this
      exact this
    have nseg := pseg.nodup_iff.mpr nb
    have lseg : (q.map fun t => b0.2.getD t 0).length = b0.2.length := pseg.length_eq
    have lsh : (shI W.k W.s W.m).length = ln5 W.k := by unfold shI; rw [List.length_map, List.length_range]
    have qlt : ∀ t, t < b0.2.length → q.getD t 0 < b0.2.length := fun t ht => by
      have : q.getD t 0 ∈ List.range (form b0.1).length := Pq.mem_iff.mp (getD_mem (by omega))
      rw [c2]
      exact List.mem_range.mp this
    have canAt : ∀ t, t < b0.2.length → (canon b0.1 (b0.2.map fun i => W.p.getD i 0)).getD t 0 = W.p.getD ((q.map fun t => b0.2.getD t 0).getD t 0) 0 := fun t ht => by
      rw [ecan, getD_map (by omega), getD_map (qlt t ht), getD_map (by omega)]
    refine ⟨resI W.k W.s W.m b0 q (f b0.1), R, fun z => by omega, fun z => by omega, fun z z2 => by omega, fun j hj => ?_⟩
    unfold resI
    by_cases hjs : j ∈ q.map fun t => b0.2.getD t 0
    · obtain ⟨u, hu, rfl⟩ := mem_getD hjs
      rw [lseg] at hu
      rw [fill_in nseg (fun x hx => by rw [lsh]; exact C.lt hb0 (pseg.mem_iff.mp hx)) _ (by omega) u hu]
      have hb : canB (b0.1, b0.2.map fun i => W.p.getD i 0) ∈ bs := hp.mem_iff.mpr (List.mem_map.mpr ⟨_, List.mem_flatMap.mpr ⟨W, hW, List.mem_map.mpr ⟨b0, hb0, rfl⟩⟩, rfl⟩)
      have hlc : (canon b0.1 (b0.2.map fun i => W.p.getD i 0)).length = b0.2.length := by rw [ecan, List.length_map]; exact lq
      have := M.at_ _ hb (by unfold torn; exact decide_eq_true h1) u (by show u < (canon b0.1 (b0.2.map fun i => W.p.getD i 0)).length; omega)
      have this : zs.getD ((canon b0.1 (b0.2.map fun i => W.p.getD i 0)).getD u 0) 0 = (canon b0.1 (b0.2.map fun i => W.p.getD i 0)).getD ((chF b0.1 (f b0.1)).getD u 0) 0 := this
      have lt2 : (chF b0.1 (f b0.1)).getD u 0 < b0.2.length := by rw [c2]; exact L2 _ (getD_mem (by omega))
      rw [canAt u hu, canAt _ lt2] at this
      exact this
    · rw [fill_out hjs _ (by omega), M.out _ fun b hb ht hx => ?_, im W hW j hj]
      obtain ⟨b1, hb1, rfl, hj1⟩ := own_blk ok nd hp hW hj hb hx
      have hf : b1 ∈ (blkI W.k W.s W.m).filter torn := List.mem_filter.mpr ⟨hb1, ht⟩
      rw [e, List.mem_singleton] at hf
      subst hf
      exact hjs (pseg.mem_iff.mpr hj1)
end
end Pv

namespace Pv
open PySem L2 Evl Pm
/-- rules, or None for the standard ones -/
def RuV (A : Ad) (H : Hp) (v : V) (bs : List Nat) : Prop := (v = .non ∧ bs = zero5) ∨ ∃ a c, v = .ref a ∧ Ru A H a c bs
theorem RuV.ex {A : Ad} {H H' : Hp} {v : V} {bs : List Nat} (e : Ex H H') (R : RuV A H v bs) : RuV A H' v bs := R.imp id fun ⟨a, c, h, r⟩ => ⟨a, c, h, r.ex e⟩
def spOrS (A : Ad) : Sp := fun vs H Q _ => ∃ (v : V) (bs : List Nat), vs = [v] ∧ RuV A H v bs ∧ ∀ a c H', Ex H H' → Ru A H' a c bs → Q (.ref a) H'
/-- what is chosen at a word -/
def chB (bs : List Nat) : Nat → Nat
  | 2 => 0 | 3 => bs.getD 0 0 | 4 => bs.getD 1 0 | 5 => bs.getD 2 0 | 6 => bs.getD 3 0 | 7 => bs.getD 4 0 | _ => 0
def spCho (A : Ad) : Sp := fun vs H Q _ => ∃ (a c : Addr) (bs : List Nat) (k : Nat), vs = [.ref a, .str (word k)] ∧ Ru A H a c bs ∧ 1 < k ∧ k < 8 ∧ ∀ H', Ex H H' → Q (.int (chB bs k : Nat)) H'
/-- the written table of the choices -/
structure ChK (w : World) (K : PySem.W.Frag) (c : Addr) where
  es : Array DictEntry
  n : Nat
  kd : KDict K w c es n
  yes : ∀ k, 1 < k → k < 8 → ∃ p p0 p1 : Addr, PySem.W.nsIn K c (word k) = some (some (.ref p)) ∧ (∀ H, SqT K H p [.ref p0, .ref p1]) ∧ (∀ H, SqT K H p0 (nI (chF k 0))) ∧ ∀ H, SqT K H p1 (nI (chF k 1))
/-- a list of tuples (record, name) -/
def Prs (H : Hp) (q : Addr) (ms ch : List Nat) : Prop := ∃ ts : List Addr, H q = some (.lst (ts.map V.ref)) ∧ ts.length = ms.length ∧ ∀ i t, ts[i]? = some t → H t = some (.tup [.int (ms.getD i 0 : Nat), .int (ms.getD (ch.getD i 0) 0 : Nat)])
theorem Prs.ex {H H' : Hp} {q : Addr} {ms ch : List Nat} (e : Ex H H') (h : Prs H q ms ch) : Prs H' q ms ch := by
  obtain ⟨ts, h1, h2, h3⟩ := h
  exact ⟨ts, e _ _ h1, h2, fun i t z => e _ _ (h3 i t z)⟩
def spChs : Sp := fun vs H Q _ => ∃ (t : Addr) (k : Nat) (ms : List Nat), vs = [.str (word k), .ref t] ∧ 1 < k ∧ k < 8 ∧ H t = some (.tup (nI ms)) ∧ ms.length = (form k).length ∧ ∀ q q0 q1 H', H q = none → Ex H H' → H' q = some (.lst [.ref q0, .ref q1]) → Prs H' q0 ms (chF k 0) → Prs H' q1 ms (chF k 1) → Q (.ref q) H'
def spRpr (A : Ad) : Sp := fun vs H Q _ => ∃ (a : Addr) (v : V) (ys rb : List Nat) (bs : List Bk), vs = [.ref a, v] ∧ ListN H a ys ∧ Good ys bs ∧ RuV A H v rb ∧ ∀ p zs H', H p = none → Ex H H' → ListN H' p zs → Mend (chB rb) ys bs zs → Q (.ref p) H'
/-! ### the law's own -/
def spSm : Sp := fun vs H Q _ => ∃ (t d : Addr) (xs : List Nat), vs = [.ref t, .ref d] ∧ ListN H t xs ∧ ListN H d xs ∧ xs.length ≤ 64 ∧ ∀ H', Ex H H' → Q (.bl true) H'
/-- the reading of the eight forms, of its own -/
def stepG (ys L : List Nat) (x : Nat) : List Nat := L.map fun l => if l = L.getD x 0 then L.getD (ys.getD x 0) 0 else l
def labG (ys : List Nat) : Nat → List Nat
  | 0 => List.range ys.length
  | i + 1 => stepG ys (labG ys i) i
def grpG (ys : List Nat) (x : Nat) : List Nat := (List.range ys.length).filter fun y => decide ((labG ys ys.length).getD y 0 = (labG ys ys.length).getD x 0)
def rootsG (ys : List Nat) : List Nat := (List.range ys.length).filter fun x => decide ((grpG ys x).getD 0 0 = x)
def groupsG (ys : List Nat) : List (List Nat) := (rootsG ys).map (grpG ys)
def lastG (ys g : List Nat) (x : Nat) : Nat := (g.filter fun y : Nat => !inV (V.int (y : Int)) (nI [x, ys.getD x 0, ys.getD (ys.getD x 0) 0])).getD 0 0
def fourG (ys g : List Nat) (x : Nat) : Option Bk :=
  if x = ys.getD x 0 ∨ x = ys.getD (ys.getD x 0) 0 ∨ ys.getD x 0 = ys.getD (ys.getD x 0) 0 then none
  else if ys.getD (ys.getD (ys.getD x 0) 0) 0 = ys.getD x 0 ∧ ys.getD (lastG ys g x) 0 = ys.getD (ys.getD x 0) 0 then some (5, [x, ys.getD x 0, ys.getD (ys.getD x 0) 0, lastG ys g x])
  else if ys.getD (ys.getD (ys.getD x 0) 0) 0 = lastG ys g x ∧ ys.getD (lastG ys g x) 0 = x then some (7, [x, ys.getD x 0, ys.getD (ys.getD x 0) 0, lastG ys g x])
  else if ys.getD (ys.getD (ys.getD x 0) 0) 0 = lastG ys g x ∧ ys.getD (lastG ys g x) 0 = ys.getD (ys.getD x 0) 0 then some (6, [x, ys.getD x 0, ys.getD (ys.getD x 0) 0, lastG ys g x])
  else none
def formG (ys g : List Nat) (x : Nat) : Option Bk :=
  if g.length = 1 then some (0, [x])
  else if g.length = 2 ∧ ys.getD x 0 ≠ x then some (if ys.getD (ys.getD x 0) 0 = x then 1 else 2, [x, ys.getD x 0])
  else if g.length = 3 ∧ x ≠ ys.getD x 0 ∧ x ≠ ys.getD (ys.getD x 0) 0 ∧ ys.getD x 0 ≠ ys.getD (ys.getD x 0) 0 ∧ ys.getD (ys.getD (ys.getD x 0) 0) 0 = ys.getD x 0 then some (3, [x, ys.getD x 0, ys.getD (ys.getD x 0) 0])
  else if g.length = 3 ∧ x ≠ ys.getD x 0 ∧ x ≠ ys.getD (ys.getD x 0) 0 ∧ ys.getD x 0 ≠ ys.getD (ys.getD x 0) 0 ∧ ys.getD (ys.getD (ys.getD x 0) 0) 0 = ys.getD (ys.getD x 0) 0 then some (4, [x, ys.getD x 0, ys.getD (ys.getD x 0) 0])
  else if g.length = 4 then fourG ys g x else none
def firstG (ys g : List Nat) : Option Bk := (g.filterMap (formG ys g)).head?
def readG (ys : List Nat) : Option (List Bk) := if (groupsG ys).all fun g => (firstG ys g).isSome then some ((groupsG ys).filterMap (firstG ys)) else none
/-- what each word's part shows behind a repair -/
def mendG (bits : List Nat) (b : Bk) : List Nat :=
  if b.1 = 0 then [b.2.getD 0 0] else if b.1 = 1 ∨ b.1 = 2 then [b.2.getD 1 0, b.2.getD 0 0]
  else if b.1 = 3 ∧ bits.getD 0 0 = 1 ∨ b.1 = 4 ∧ bits.getD 1 0 ≠ 1 then [b.2.getD 1 0, b.2.getD 0 0, b.2.getD 2 0]
  else if b.1 = 3 ∨ b.1 = 4 then [b.2.getD 0 0, b.2.getD 2 0, b.2.getD 1 0]
  else if bits.getD (b.1 - 3) 0 = 1 then [b.2.getD 3 0, b.2.getD 2 0, b.2.getD 1 0, b.2.getD 0 0] else [b.2.getD 1 0, b.2.getD 0 0, b.2.getD 3 0, b.2.getD 2 0]
/-- entries set, one after the other -/
def putL (ys p q : List Nat) : Nat → List Nat
  | 0 => ys
  | k + 1 => (putL ys p q k).set (p.getD k 0) (q.getD k 0)
def goalG (ys : List Nat) (bits : List Nat) : List Bk → List Nat
  | bs => bs.foldl (fun zs b => putL zs b.2 (mendG bits b) b.2.length) ys
/-- all images of at most four records -/
def imgs : Nat → Nat → List (List Nat)
  | _, 0 => [[]]
  | n, k + 1 => (imgs n k).flatMap fun l => (List.range n).map fun v => v :: l
def all4 : List (List Nat) := (List.range 5).flatMap fun n => imgs n n
def ascB : List Nat → Bool
  | [] => true
  | [_] => true
  | a :: b :: l => decide (a < b) && ascB (b :: l)
def goodB (ys : List Nat) (bs : List Bk) : Bool :=
  (bs.flatMap (·.2)).isPerm (List.range ys.length) && bs.all (fun b => decide (b.1 < 8) && (b.2.length == (form b.1).length) && ((List.range b.2.length).all fun j => ys.getD (b.2.getD j 0) 0 == b.2.getD ((form b.1).getD j 0) 0)
    && (b.1 != 1 || decide (b.2.getD 0 0 < b.2.getD 1 0)) && (b.1 != 5 || decide (b.2.getD 0 0 < b.2.getD 3 0)) && (b.1 != 7 || b.2.getD 0 0 == mn b.2)) && ascB (bs.map fun b => mn b.2)
def mendB (ys : List Nat) (bits : List Nat) (bs : List Bk) (zs : List Nat) : Bool :=
  (zs.length == ys.length) && bs.all (fun b => !torn b || (List.range b.2.length).all fun j => zs.getD (b.2.getD j 0) 0 == b.2.getD ((chF b.1 (chB bits b.1)).getD j 0) 0) && (List.range ys.length).all fun x => (bs.any fun b => torn b && b.2.contains x) || zs.getD x 0 == ys.getD x 0
/-! ### promises -/
def BlkAt (H : Hp) (t : Addr) (b : Bk) : Prop := ∃ l : Addr, H t = some (.tup [.str (word b.1), .ref l]) ∧ ListN H l b.2
theorem BlkAt.ex {H H' : Hp} {t : Addr} {b : Bk} (e : Ex H H') (h : BlkAt H t b) : BlkAt H' t b := by
  obtain ⟨l, h1, h2⟩ := h
  exact ⟨l, e _ _ h1, h2.ex e⟩
/-- None, or a tuple of a word and a list -/
def OptB (H0 H : Hp) (v : V) (o : Option Bk) : Prop := (v = .non ∧ o = none) ∨ ∃ (t : Addr) (b : Bk), v = .ref t ∧ o = some b ∧ H0 t = none ∧ ∃ l : Addr, H0 l = none ∧ H t = some (.tup [.str (word b.1), .ref l]) ∧ ListN H l b.2
def Img (ys : List Nat) : Prop := ys ∈ all4
def spGrG : Sp := fun vs H Q _ => ∃ (a : Addr) (ys : List Nat), vs = [.ref a] ∧ ListN H a ys ∧ ys.length ≤ 4 ∧ (∀ i, i < ys.length → ys.getD i 0 < ys.length) ∧ ∀ (p : Addr) (qs : List Addr) H', H p = none → Ex H H' → H' p = some (.lst (qs.map V.ref)) → qs.length = (groupsG ys).length → (∀ (i : Nat) (q : Addr) (g : List Nat), qs[i]? = some q → (groupsG ys)[i]? = some g → H q = none ∧ ListN H' q g) → Q (.ref p) H'
def spFour : Sp := fun vs H Q _ => ∃ (a g : Addr) (ys gs : List Nat) (x : Nat), vs = [.ref a, .ref g, .int (x : Int)] ∧ ListN H a ys ∧ ListN H g gs ∧ Img ys ∧ gs ∈ groupsG ys ∧ x ∈ gs ∧ gs.length = 4 ∧ ∀ v H', Ex H H' → OptB H H' v (fourG ys gs x) → Q v H'
def spForm : Sp := fun vs H Q _ => ∃ (a g : Addr) (ys gs : List Nat) (x : Nat), vs = [.ref a, .ref g, .int (x : Int)] ∧ ListN H a ys ∧ ListN H g gs ∧ Img ys ∧ gs ∈ groupsG ys ∧ x ∈ gs ∧ ∀ v H', Ex H H' → OptB H H' v (formG ys gs x) → Q v H'
def BksAt (H : Hp) (p : Addr) (bs : List Bk) : Prop := All2 BlkAt H p bs
def spRead : Sp := fun vs H Q _ => ∃ (a : Addr) (ys : List Nat), vs = [.ref a] ∧ ListN H a ys ∧ Img ys ∧ (readG ys = none → ∀ H', Ex H H' → Q .non H') ∧ (∀ bs, readG ys = some bs → ∀ p H', H p = none → Ex H H' → BksAt H' p bs → Q (.ref p) H')
def spMnd : Sp := fun vs H Q _ => ∃ (p c : Addr) (b : Bk) (bits : List Nat), vs = [.str (word b.1), .ref p, .ref c] ∧ b.1 < 8 ∧ ListN H p b.2 ∧ b.2.length = (form b.1).length ∧ ListN H c bits ∧ bits.length = 5 ∧ ∀ q H', H q = none → Ex H H' → ListN H' q (mendG bits b) → Q (.ref q) H'
def spGoal : Sp := fun vs H Q _ => ∃ (a p c : Addr) (ys bits : List Nat) (bs : List Bk), vs = [.ref a, .ref p, .ref c] ∧ ListN H a ys ∧ ys.length ≤ 4 ∧ bs.length ≤ 4 ∧ (∀ b ∈ bs, b.1 < 8 ∧ b.2.length = (form b.1).length ∧ ∀ x ∈ b.2, x < ys.length) ∧ BksAt H p bs ∧ ListN H c bits ∧ bits.length = 5 ∧ ∀ q H', H q = none → Ex H H' → ListN H' q (goalG ys bits bs) → Q (.ref q) H'
/-- the five images, least first, and their words' places among the names -/
def parT : List (Nat × List Nat) := [(1, [0, 0, 1]), (0, [1, 0, 0]), (2, [1, 0, 0, 1]), (3, [1, 0, 0, 2]), (4, [1, 2, 3, 0])]
def dueP (b1 b2 : List Nat) : Option (List Nat) := (parT.find? fun p => decide (b1.getD p.1 0 ≠ b2.getD p.1 0)).map (·.2)
def OptL (H : Hp) (v : V) (o : Option (List Nat)) : Prop := (v = .non ∧ o = none) ∨ ∃ (t : Addr) (l : List Nat), v = .ref t ∧ o = some l ∧ ListN H t l
theorem OptL.ex {H H' : Hp} {v : V} {o : Option (List Nat)} (e : Ex H H') (h : OptL H v o) : OptL H' v o := h.imp id fun ⟨t, l, a, b, c⟩ => ⟨t, l, a, b, c.ex e⟩
structure ParK (K : PySem.W.Frag) (c : Addr) where
  ts : List Addr
  is : List Addr
  lt : ts.length = 5
  li : is.length = 5
  top : ∀ H, SqT K H c (ts.map V.ref)
  row : ∀ i, i < 5 → ∀ H, SqT K H (ts.getD i 0) [.str (nm5.getD (parT.getD i (0, [])).1 ""), .ref (is.getD i 0)] ∧ SqT K H (is.getD i 0) (nI (parT.getD i (0, [])).2)
def spPart (A : Ad) : Sp := fun vs H Q _ => ∃ (v1 v2 : V) (b1 b2 : List Nat), vs = [v1, v2] ∧ RuV A H v1 b1 ∧ RuV A H v2 b2 ∧ ∀ v H', Ex H H' → (∀ t, v = .ref t → H t = none) → OptL H' v (dueP b1 b2) → Q v H'
def spTld : Sp := fun vs H Q _ => ∃ (v d : V) (o : Option (List Nat)), vs = [v, d] ∧ OptL H v o ∧ OptL H d o ∧ (∀ l, o = some l → l.length ≤ 4) ∧ ∀ H', Ex H H' → Q (.bl true) H'
def spNbs (A : Ad) : Sp := fun vs H Q _ => ∃ (v : V) (c : Addr) (bs : List Nat), vs = [v, .ref c] ∧ RuV A H v bs ∧ Bits bs ∧ ListN H c bs ∧ ∀ H', Ex H H' → Q (.bl true) H'
def spBts : Sp := fun vs H Q _ => ∃ n : Nat, vs = [.int (n : Int)] ∧ n < 32 ∧ ∀ p H', H p = none → Ex H H' → ListN H' p (bitsOf n) → Q (.ref p) H'
def spSet (A : Ad) : Sp := fun vs H Q _ => ∃ (a c : Addr) (bs : List Nat) (i v : Nat), vs = [.ref a, .int (i : Int), .int (v : Int)] ∧ Ru A H a c bs ∧ i < 5 ∧ v < 2 ∧ ∀ H', (∀ b o, b ≠ c → H b = some o → H' b = some o) → Ru A H' a c (bs.set i v) → Q .non H'
def spSz : Sp := fun vs H Q _ => ∃ b : Addr, vs = [.ref b] ∧ Strm H b ∧ ∀ (n : Nat) H', n ≤ 64 → Strm H' b → Mut b H H' → Q (.int (n : Int)) H'
def spOrd : Sp := fun vs H Q _ => ∃ (b : Addr) (n : Nat), vs = [.ref b, .int (n : Int)] ∧ n ≤ 64 ∧ Strm H b ∧ ∀ p os H', H p = none → Strm H' b → Mut b H H' → ListN H' p os → os.Perm (List.range n) → Q (.ref p) H'
end Pv

namespace Pv
open PySem L2 Evl Pm
theorem hash0 (w : World) : (numK [0]).hash w = -8753497827991233192 := by kernel_rfl
theorem hash1 (w : World) : (numK [1, 0]).hash w = -5164621852614943976 := by kernel_rfl
theorem hash2 (w : World) : (numK [1, 1]).hash w = 8389048192121911274 := by kernel_rfl
theorem hash3 (w : World) : (numK [1, 2, 1]).hash w = 3313134723150563520 := by kernel_rfl
theorem hash4 (w : World) : (numK [1, 2, 2]).hash w = -1579939305822132846 := by kernel_rfl
theorem hash5 (w : World) : (numK [1, 2, 1, 2]).hash w = 8677768113715720416 := by kernel_rfl
theorem hash6 (w : World) : (numK [1, 2, 3, 2]).hash w = 3374690043038133861 := by kernel_rfl
theorem hash7 (w : World) : (numK [1, 2, 3, 0]).hash w = 1760123315908831802 := by kernel_rfl
theorem forms_mk {P : Program} {w : World} {K : PySem.W.Frag} {c k0 k1 k2 k3 k4 k5 k6 k7 : Addr} {t0 t1 t2 t3 t4 t5 t6 t7 a0_0 a1_0 a1_1 a2_0 a2_1 a3_0 a3_1 a3_2 a4_0 a4_1 a4_2 a5_0 a5_1 a5_2 a5_3 a6_0 a6_1 a6_2 a6_3 a7_0 a7_1 a7_2 a7_3 : Tok} {ep n0 n1 n2 n3 n4 n5 n6 n7 : Nat} {od0 od1 od2 od3 od4 od5 od6 od7 : Option Addr} {sl0 sl1 sl2 sl3 sl4 sl5 sl6 sl7 : Array (Option Value)}
    (sm : (c == sysModules) = false) (l : List.lookup c K = some { cls := .type "dict", data := .dict #[⟨-8753497827991233192, .ref k0, .str "free" t0⟩, ⟨-5164621852614943976, .ref k1, .str "pair" t1⟩, ⟨8389048192121911274, .ref k2, .str "claim" t2⟩, ⟨3313134723150563520, .ref k3, .str "hook" t3⟩, ⟨-1579939305822132846, .ref k4, .str "relay" t4⟩, ⟨8677768113715720416, .ref k5, .str "clamp" t5⟩, ⟨3374690043038133861, .ref k6, .str "trail" t6⟩, ⟨1760123315908831802, .ref k7, .str "wheel" t7⟩] ep })
    (f0 : List.lookup k0 K = some ⟨.type "tuple", od0, .seq #[.int 0 a0_0] n0, sl0⟩)
    (f1 : List.lookup k1 K = some ⟨.type "tuple", od1, .seq #[.int 1 a1_0, .int 0 a1_1] n1, sl1⟩)
    (f2 : List.lookup k2 K = some ⟨.type "tuple", od2, .seq #[.int 1 a2_0, .int 1 a2_1] n2, sl2⟩)
    (f3 : List.lookup k3 K = some ⟨.type "tuple", od3, .seq #[.int 1 a3_0, .int 2 a3_1, .int 1 a3_2] n3, sl3⟩)
    (f4 : List.lookup k4 K = some ⟨.type "tuple", od4, .seq #[.int 1 a4_0, .int 2 a4_1, .int 2 a4_2] n4, sl4⟩)
    (f5 : List.lookup k5 K = some ⟨.type "tuple", od5, .seq #[.int 1 a5_0, .int 2 a5_1, .int 1 a5_2, .int 2 a5_3] n5, sl5⟩)
    (f6 : List.lookup k6 K = some ⟨.type "tuple", od6, .seq #[.int 1 a6_0, .int 2 a6_1, .int 3 a6_2, .int 2 a6_3] n6, sl6⟩)
    (f7 : List.lookup k7 K = some ⟨.type "tuple", od7, .seq #[.int 1 a7_0, .int 2 a7_1, .int 3 a7_2, .int 0 a7_3] n7, sl7⟩)
    : TabK P w K c formsT := by
  refine ⟨sm, [t0, t1, t2, t3, t4, t5, t6, t7], fun h X => ⟨?_, rfl⟩⟩
  refine Heap.DictKeyed.ofEntries (knd := nestedKind P w) (h := h) (d := c) [(numK [0], k0, .str "free" t0), (numK [1, 0], k1, .str "pair" t1), (numK [1, 1], k2, .str "claim" t2), (numK [1, 2, 1], k3, .str "hook" t3), (numK [1, 2, 2], k4, .str "relay" t4), (numK [1, 2, 1, 2], k5, .str "clamp" t5), (numK [1, 2, 3, 2], k6, .str "trail" t6), (numK [1, 2, 3, 0], k7, .str "wheel" t7)] (X _ _ l) ⟨rfl, rfl, rfl⟩ rfl ?_ ?_ ?_
  · show [(⟨-8753497827991233192, .ref k0, .str "free" t0⟩ : DictEntry), (⟨-5164621852614943976, .ref k1, .str "pair" t1⟩ : DictEntry), (⟨8389048192121911274, .ref k2, .str "claim" t2⟩ : DictEntry), (⟨3313134723150563520, .ref k3, .str "hook" t3⟩ : DictEntry), (⟨-1579939305822132846, .ref k4, .str "relay" t4⟩ : DictEntry), (⟨8677768113715720416, .ref k5, .str "clamp" t5⟩ : DictEntry), (⟨3374690043038133861, .ref k6, .str "trail" t6⟩ : DictEntry), (⟨1760123315908831802, .ref k7, .str "wheel" t7⟩ : DictEntry)] = [(⟨(numK [0]).hash w, .ref k0, .str "free" t0⟩ : DictEntry), (⟨(numK [1, 0]).hash w, .ref k1, .str "pair" t1⟩ : DictEntry), (⟨(numK [1, 1]).hash w, .ref k2, .str "claim" t2⟩ : DictEntry), (⟨(numK [1, 2, 1]).hash w, .ref k3, .str "hook" t3⟩ : DictEntry), (⟨(numK [1, 2, 2]).hash w, .ref k4, .str "relay" t4⟩ : DictEntry), (⟨(numK [1, 2, 1, 2]).hash w, .ref k5, .str "clamp" t5⟩ : DictEntry), (⟨(numK [1, 2, 3, 2]).hash w, .ref k6, .str "trail" t6⟩ : DictEntry), (⟨(numK [1, 2, 3, 0]).hash w, .ref k7, .str "wheel" t7⟩ : DictEntry)]
    rw [hash0, hash1, hash2, hash3, hash4, hash5, hash6, hash7]
  · intro x hx
    simp only [List.mem_cons, List.not_mem_nil, or_false] at hx
    rcases hx with rfl | rfl | rfl | rfl | rfl | rfl | rfl | rfl
    · exact ⟨.tup (X _ _ f0) rfl rfl (.cons (.int _ _) (.nil)), numK_depth _⟩
    · exact ⟨.tup (X _ _ f1) rfl rfl (.cons (.int _ _) (.cons (.int _ _) (.nil))), numK_depth _⟩
    · exact ⟨.tup (X _ _ f2) rfl rfl (.cons (.int _ _) (.cons (.int _ _) (.nil))), numK_depth _⟩
    · exact ⟨.tup (X _ _ f3) rfl rfl (.cons (.int _ _) (.cons (.int _ _) (.cons (.int _ _) (.nil)))), numK_depth _⟩
    · exact ⟨.tup (X _ _ f4) rfl rfl (.cons (.int _ _) (.cons (.int _ _) (.cons (.int _ _) (.nil)))), numK_depth _⟩
    · exact ⟨.tup (X _ _ f5) rfl rfl (.cons (.int _ _) (.cons (.int _ _) (.cons (.int _ _) (.cons (.int _ _) (.nil))))), numK_depth _⟩
    · exact ⟨.tup (X _ _ f6) rfl rfl (.cons (.int _ _) (.cons (.int _ _) (.cons (.int _ _) (.cons (.int _ _) (.nil))))), numK_depth _⟩
    · exact ⟨.tup (X _ _ f7) rfl rfl (.cons (.int _ _) (.cons (.int _ _) (.cons (.int _ _) (.cons (.int _ _) (.nil))))), numK_depth _⟩
  · show [numK [0], numK [1, 0], numK [1, 1], numK [1, 2, 1], numK [1, 2, 2], numK [1, 2, 1, 2], numK [1, 2, 3, 2], numK [1, 2, 3, 0]].Nodup
    decide +kernel
theorem whole_mk {K : PySem.W.Frag} {c : Addr} {od : Option Addr} {n : Nat} {sl : Array (Option Value)} {t0 t1 : Tok} (l : List.lookup c K = some ⟨.type "tuple", od, .seq #[.str "free" t0, .str "pair" t1] n, sl⟩) (H : Hp) : SqT K H c [.str "free", .str "pair"] := by
  refine Or.inr ⟨_, _, _, l, rfl, rfl, (by show 2 ≤ sizeLine; decide), ?_⟩
  exact .cons ⟨_, rfl⟩ (.cons ⟨_, rfl⟩ .nil)
theorem tup2s {K : PySem.W.Frag} {c : Addr} {od : Option Addr} {n : Nat} {sl : Array (Option Value)} {x y : Str} {s t : Tok} (l : List.lookup c K = some ⟨.type "tuple", od, .seq #[.str x s, .str y t] n, sl⟩) (H : Hp) : SqT K H c [.str x, .str y] :=
  Or.inr ⟨_, _, _, l, rfl, rfl, (by show 2 ≤ sizeLine; decide), .cons ⟨_, rfl⟩ (.cons ⟨_, rfl⟩ .nil)⟩
theorem tup5s {K : PySem.W.Frag} {c : Addr} {od : Option Addr} {n : Nat} {sl : Array (Option Value)} {x0 x1 x2 x3 x4 : Str} {t0 t1 t2 t3 t4 : Tok} (l : List.lookup c K = some ⟨.type "tuple", od, .seq #[.str x0 t0, .str x1 t1, .str x2 t2, .str x3 t3, .str x4 t4] n, sl⟩) (H : Hp) : SqT K H c [.str x0, .str x1, .str x2, .str x3, .str x4] :=
  Or.inr ⟨_, _, _, l, rfl, rfl, (by show 5 ≤ sizeLine; decide), .cons ⟨_, rfl⟩ (.cons ⟨_, rfl⟩ (.cons ⟨_, rfl⟩ (.cons ⟨_, rfl⟩ (.cons ⟨_, rfl⟩ .nil))))⟩
def words_mk12 {w : World} {K : PySem.W.Frag} {c k0 k1 k2 k3 k4 : Addr} {t0 t1 t2 t3 t4 x0 y0 x1 y1 x2 y2 x3 y3 x4 y4 : Tok} {ep n0 n1 n2 n3 n4 : Nat} {od0 od1 od2 od3 od4 : Option Addr} {sl0 sl1 sl2 sl3 sl4 : Array (Option Value)}
    (sm : (c == sysModules) = false) (l : List.lookup c K = some ⟨.type "dict", none, .dict #[⟨PyData.keyHash w.params "hook", .str "hook" t0, .ref k0⟩, ⟨PyData.keyHash w.params "relay", .str "relay" t1, .ref k1⟩, ⟨PyData.keyHash w.params "clamp", .str "clamp" t2, .ref k2⟩, ⟨PyData.keyHash w.params "trail", .str "trail" t3, .ref k3⟩, ⟨PyData.keyHash w.params "wheel", .str "wheel" t4, .ref k4⟩] ep, #[]⟩)
    (f0 : List.lookup k0 K = some ⟨.type "tuple", od0, .seq #[.str "back" x0, .str "forward" y0] n0, sl0⟩)
    (f1 : List.lookup k1 K = some ⟨.type "tuple", od1, .seq #[.str "near" x1, .str "far" y1] n1, sl1⟩)
    (f2 : List.lookup k2 K = some ⟨.type "tuple", od2, .seq #[.str "inner" x2, .str "outer" y2] n2, sl2⟩)
    (f3 : List.lookup k3 K = some ⟨.type "tuple", od3, .seq #[.str "near" x3, .str "far" y3] n3, sl3⟩)
    (f4 : List.lookup k4 K = some ⟨.type "tuple", od4, .seq #[.str "even" x4, .str "odd" y4] n4, sl4⟩)
    : WdK w K c where
  es := #[⟨PyData.keyHash w.params "hook", .str "hook" t0, .ref k0⟩, ⟨PyData.keyHash w.params "relay", .str "relay" t1, .ref k1⟩, ⟨PyData.keyHash w.params "clamp", .str "clamp" t2, .ref k2⟩, ⟨PyData.keyHash w.params "trail", .str "trail" t3, .ref k3⟩, ⟨PyData.keyHash w.params "wheel", .str "wheel" t4, .ref k4⟩]
  n := ep
  kd := ⟨l, ⟨⟨_, _, rfl, rfl⟩, ⟨_, _, rfl, rfl⟩, ⟨_, _, rfl, rfl⟩, ⟨_, _, rfl, rfl⟩, ⟨_, _, rfl, rfl⟩, trivial⟩, sm⟩
  no := fun z hz h3 => by
    unfold nms at hz
    unfold nm5 at h3
    simp only [List.mem_cons, List.not_mem_nil, or_false, not_or] at hz h3
    unfold PySem.W.nsIn
    rw [show K.lookup c = _ from l]
    rcases hz with rfl | rfl | rfl | rfl | rfl | rfl | rfl | rfl | rfl | rfl | rfl | rfl | rfl | rfl | rfl | rfl | rfl | rfl | rfl | rfl | rfl | rfl
    · exact absurd rfl h3.1
    · exact absurd rfl h3.2.1
    · exact absurd rfl h3.2.2.1
    · exact absurd rfl h3.2.2.2.1
    · exact absurd rfl h3.2.2.2.2
    all_goals rfl
  yes := fun z hz => by
    unfold nm5 at hz
    simp only [List.mem_cons, List.not_mem_nil, or_false] at hz
    rcases hz with rfl | rfl | rfl | rfl | rfl
    · refine ⟨k0, ?_, tup2s f0⟩
      unfold PySem.W.nsIn
      rw [show K.lookup c = _ from l]
      rfl
    · refine ⟨k1, ?_, tup2s f1⟩
      unfold PySem.W.nsIn
      rw [show K.lookup c = _ from l]
      rfl
    · refine ⟨k2, ?_, tup2s f2⟩
      unfold PySem.W.nsIn
      rw [show K.lookup c = _ from l]
      rfl
    · refine ⟨k3, ?_, tup2s f3⟩
      unfold PySem.W.nsIn
      rw [show K.lookup c = _ from l]
      rfl
    · refine ⟨k4, ?_, tup2s f4⟩
      unfold PySem.W.nsIn
      rw [show K.lookup c = _ from l]
      rfl
def choices_mk {w : World} {K : PySem.W.Frag} {c k0 k1 k2 k3 k4 k5 a0 b0 a1 b1 a2 b2 a3 b3 a4 b4 a5 b5 : Addr} {t0 t1 t2 t3 t4 t5 c0_0_0 c0_0_1 c0_1_0 c0_1_1 c1_0_0 c1_0_1 c1_0_2 c1_1_0 c1_1_1 c1_1_2 c2_0_0 c2_0_1 c2_0_2 c2_1_0 c2_1_1 c2_1_2 c3_0_0 c3_0_1 c3_0_2 c3_0_3 c3_1_0 c3_1_1 c3_1_2 c3_1_3 c4_0_0 c4_0_1 c4_0_2 c4_0_3 c4_1_0 c4_1_1 c4_1_2 c4_1_3 c5_0_0 c5_0_1 c5_0_2 c5_0_3 c5_1_0 c5_1_1 c5_1_2 c5_1_3 : Tok} {ep n0 n1 n2 n3 n4 n5 na0 nb0 na1 nb1 na2 nb2 na3 nb3 na4 nb4 na5 nb5 : Nat} {od0 od1 od2 od3 od4 od5 oa0 ob0 oa1 ob1 oa2 ob2 oa3 ob3 oa4 ob4 oa5 ob5 : Option Addr} {sl0 sl1 sl2 sl3 sl4 sl5 sa0 sb0 sa1 sb1 sa2 sb2 sa3 sb3 sa4 sb4 sa5 sb5 : Array (Option Value)}
    (sm : (c == sysModules) = false) (l : List.lookup c K = some ⟨.type "dict", none, .dict #[⟨PyData.keyHash w.params "claim", .str "claim" t0, .ref k0⟩, ⟨PyData.keyHash w.params "hook", .str "hook" t1, .ref k1⟩, ⟨PyData.keyHash w.params "relay", .str "relay" t2, .ref k2⟩, ⟨PyData.keyHash w.params "clamp", .str "clamp" t3, .ref k3⟩, ⟨PyData.keyHash w.params "trail", .str "trail" t4, .ref k4⟩, ⟨PyData.keyHash w.params "wheel", .str "wheel" t5, .ref k5⟩] ep, #[]⟩)
    (f0 : List.lookup k0 K = some ⟨.type "tuple", od0, .seq #[.ref a0, .ref b0] n0, sl0⟩)
    (ga0 : List.lookup a0 K = some ⟨.type "tuple", oa0, .seq #[.int 1 c0_0_0, .int 0 c0_0_1] na0, sa0⟩)
    (gb0 : List.lookup b0 K = some ⟨.type "tuple", ob0, .seq #[.int 0 c0_1_0, .int 1 c0_1_1] nb0, sb0⟩)
    (f1 : List.lookup k1 K = some ⟨.type "tuple", od1, .seq #[.ref a1, .ref b1] n1, sl1⟩)
    (ga1 : List.lookup a1 K = some ⟨.type "tuple", oa1, .seq #[.int 0 c1_0_0, .int 2 c1_0_1, .int 1 c1_0_2] na1, sa1⟩)
    (gb1 : List.lookup b1 K = some ⟨.type "tuple", ob1, .seq #[.int 1 c1_1_0, .int 0 c1_1_1, .int 2 c1_1_2] nb1, sb1⟩)
    (f2 : List.lookup k2 K = some ⟨.type "tuple", od2, .seq #[.ref a2, .ref b2] n2, sl2⟩)
    (ga2 : List.lookup a2 K = some ⟨.type "tuple", oa2, .seq #[.int 1 c2_0_0, .int 0 c2_0_1, .int 2 c2_0_2] na2, sa2⟩)
    (gb2 : List.lookup b2 K = some ⟨.type "tuple", ob2, .seq #[.int 0 c2_1_0, .int 2 c2_1_1, .int 1 c2_1_2] nb2, sb2⟩)
    (f3 : List.lookup k3 K = some ⟨.type "tuple", od3, .seq #[.ref a3, .ref b3] n3, sl3⟩)
    (ga3 : List.lookup a3 K = some ⟨.type "tuple", oa3, .seq #[.int 1 c3_0_0, .int 0 c3_0_1, .int 3 c3_0_2, .int 2 c3_0_3] na3, sa3⟩)
    (gb3 : List.lookup b3 K = some ⟨.type "tuple", ob3, .seq #[.int 3 c3_1_0, .int 2 c3_1_1, .int 1 c3_1_2, .int 0 c3_1_3] nb3, sb3⟩)
    (f4 : List.lookup k4 K = some ⟨.type "tuple", od4, .seq #[.ref a4, .ref b4] n4, sl4⟩)
    (ga4 : List.lookup a4 K = some ⟨.type "tuple", oa4, .seq #[.int 1 c4_0_0, .int 0 c4_0_1, .int 3 c4_0_2, .int 2 c4_0_3] na4, sa4⟩)
    (gb4 : List.lookup b4 K = some ⟨.type "tuple", ob4, .seq #[.int 3 c4_1_0, .int 2 c4_1_1, .int 1 c4_1_2, .int 0 c4_1_3] nb4, sb4⟩)
    (f5 : List.lookup k5 K = some ⟨.type "tuple", od5, .seq #[.ref a5, .ref b5] n5, sl5⟩)
    (ga5 : List.lookup a5 K = some ⟨.type "tuple", oa5, .seq #[.int 1 c5_0_0, .int 0 c5_0_1, .int 3 c5_0_2, .int 2 c5_0_3] na5, sa5⟩)
    (gb5 : List.lookup b5 K = some ⟨.type "tuple", ob5, .seq #[.int 3 c5_1_0, .int 2 c5_1_1, .int 1 c5_1_2, .int 0 c5_1_3] nb5, sb5⟩)
    : ChK w K c where
  es := #[⟨PyData.keyHash w.params "claim", .str "claim" t0, .ref k0⟩, ⟨PyData.keyHash w.params "hook", .str "hook" t1, .ref k1⟩, ⟨PyData.keyHash w.params "relay", .str "relay" t2, .ref k2⟩, ⟨PyData.keyHash w.params "clamp", .str "clamp" t3, .ref k3⟩, ⟨PyData.keyHash w.params "trail", .str "trail" t4, .ref k4⟩, ⟨PyData.keyHash w.params "wheel", .str "wheel" t5, .ref k5⟩]
  n := ep
  kd := ⟨l, ⟨⟨_, _, rfl, rfl⟩, ⟨_, _, rfl, rfl⟩, ⟨_, _, rfl, rfl⟩, ⟨_, _, rfl, rfl⟩, ⟨_, _, rfl, rfl⟩, ⟨_, _, rfl, rfl⟩, trivial⟩, sm⟩
  yes := fun k h1 h8 => by
    match k, h1, h8 with
    | 2, _, _ =>
      refine ⟨k0, a0, b0, ?_, fun H => Or.inr ⟨_, _, _, f0, rfl, rfl, (by show 2 ≤ sizeLine; decide), .cons (by first | exact rfl | exact ⟨_, rfl⟩) (.cons (by first | exact rfl | exact ⟨_, rfl⟩) .nil)⟩, fun H => Or.inr ⟨_, _, _, ga0, rfl, rfl, (by show 2 ≤ sizeLine; decide), .cons ⟨_, rfl⟩ (.cons ⟨_, rfl⟩ (.nil))⟩, fun H => Or.inr ⟨_, _, _, gb0, rfl, rfl, (by show 2 ≤ sizeLine; decide), .cons ⟨_, rfl⟩ (.cons ⟨_, rfl⟩ (.nil))⟩⟩
      unfold PySem.W.nsIn
      rw [show K.lookup c = _ from l]
      rfl
    | 3, _, _ =>
      refine ⟨k1, a1, b1, ?_, fun H => Or.inr ⟨_, _, _, f1, rfl, rfl, (by show 2 ≤ sizeLine; decide), .cons (by first | exact rfl | exact ⟨_, rfl⟩) (.cons (by first | exact rfl | exact ⟨_, rfl⟩) .nil)⟩, fun H => Or.inr ⟨_, _, _, ga1, rfl, rfl, (by show 3 ≤ sizeLine; decide), .cons ⟨_, rfl⟩ (.cons ⟨_, rfl⟩ (.cons ⟨_, rfl⟩ (.nil)))⟩, fun H => Or.inr ⟨_, _, _, gb1, rfl, rfl, (by show 3 ≤ sizeLine; decide), .cons ⟨_, rfl⟩ (.cons ⟨_, rfl⟩ (.cons ⟨_, rfl⟩ (.nil)))⟩⟩
      unfold PySem.W.nsIn
      rw [show K.lookup c = _ from l]
      rfl
    | 4, _, _ =>
      refine ⟨k2, a2, b2, ?_, fun H => Or.inr ⟨_, _, _, f2, rfl, rfl, (by show 2 ≤ sizeLine; decide), .cons (by first | exact rfl | exact ⟨_, rfl⟩) (.cons (by first | exact rfl | exact ⟨_, rfl⟩) .nil)⟩, fun H => Or.inr ⟨_, _, _, ga2, rfl, rfl, (by show 3 ≤ sizeLine; decide), .cons ⟨_, rfl⟩ (.cons ⟨_, rfl⟩ (.cons ⟨_, rfl⟩ (.nil)))⟩, fun H => Or.inr ⟨_, _, _, gb2, rfl, rfl, (by show 3 ≤ sizeLine; decide), .cons ⟨_, rfl⟩ (.cons ⟨_, rfl⟩ (.cons ⟨_, rfl⟩ (.nil)))⟩⟩
      unfold PySem.W.nsIn
      rw [show K.lookup c = _ from l]
      rfl
    | 5, _, _ =>
      refine ⟨k3, a3, b3, ?_, fun H => Or.inr ⟨_, _, _, f3, rfl, rfl, (by show 2 ≤ sizeLine; decide), .cons (by first | exact rfl | exact ⟨_, rfl⟩) (.cons (by first | exact rfl | exact ⟨_, rfl⟩) .nil)⟩, fun H => Or.inr ⟨_, _, _, ga3, rfl, rfl, (by show 4 ≤ sizeLine; decide), .cons ⟨_, rfl⟩ (.cons ⟨_, rfl⟩ (.cons ⟨_, rfl⟩ (.cons ⟨_, rfl⟩ (.nil))))⟩, fun H => Or.inr ⟨_, _, _, gb3, rfl, rfl, (by show 4 ≤ sizeLine; decide), .cons ⟨_, rfl⟩ (.cons ⟨_, rfl⟩ (.cons ⟨_, rfl⟩ (.cons ⟨_, rfl⟩ (.nil))))⟩⟩
      unfold PySem.W.nsIn
      rw [show K.lookup c = _ from l]
      rfl
    | 6, _, _ =>
      refine ⟨k4, a4, b4, ?_, fun H => Or.inr ⟨_, _, _, f4, rfl, rfl, (by show 2 ≤ sizeLine; decide), .cons (by first | exact rfl | exact ⟨_, rfl⟩) (.cons (by first | exact rfl | exact ⟨_, rfl⟩) .nil)⟩, fun H => Or.inr ⟨_, _, _, ga4, rfl, rfl, (by show 4 ≤ sizeLine; decide), .cons ⟨_, rfl⟩ (.cons ⟨_, rfl⟩ (.cons ⟨_, rfl⟩ (.cons ⟨_, rfl⟩ (.nil))))⟩, fun H => Or.inr ⟨_, _, _, gb4, rfl, rfl, (by show 4 ≤ sizeLine; decide), .cons ⟨_, rfl⟩ (.cons ⟨_, rfl⟩ (.cons ⟨_, rfl⟩ (.cons ⟨_, rfl⟩ (.nil))))⟩⟩
      unfold PySem.W.nsIn
      rw [show K.lookup c = _ from l]
      rfl
    | 7, _, _ =>
      refine ⟨k5, a5, b5, ?_, fun H => Or.inr ⟨_, _, _, f5, rfl, rfl, (by show 2 ≤ sizeLine; decide), .cons (by first | exact rfl | exact ⟨_, rfl⟩) (.cons (by first | exact rfl | exact ⟨_, rfl⟩) .nil)⟩, fun H => Or.inr ⟨_, _, _, ga5, rfl, rfl, (by show 4 ≤ sizeLine; decide), .cons ⟨_, rfl⟩ (.cons ⟨_, rfl⟩ (.cons ⟨_, rfl⟩ (.cons ⟨_, rfl⟩ (.nil))))⟩, fun H => Or.inr ⟨_, _, _, gb5, rfl, rfl, (by show 4 ≤ sizeLine; decide), .cons ⟨_, rfl⟩ (.cons ⟨_, rfl⟩ (.cons ⟨_, rfl⟩ (.cons ⟨_, rfl⟩ (.nil))))⟩⟩
      unfold PySem.W.nsIn
      rw [show K.lookup c = _ from l]
      rfl
end Pv

namespace Pv
open PySem L2 Evl Pm
local macro_rules | `(tactic| walk_at "r1") => `(tactic| first
  | refine ⟨_, rfl, ?_⟩
  | refine ⟨rfl, ?_⟩
  | refine ⟨_, _, rfl, rfl, (show (_ : Prop) from by first | decide | omega | assumption | exact Or.inr ⟨by decide, by decide⟩ | exact Or.inl ⟨by omega, by omega⟩ | exact ⟨by decide, by decide, by decide⟩ | exact ⟨by decide, by decide⟩ | exact wide_div (b := 60) (by omega) (by omega) (by decide) (by decide)), ?_⟩
  | refine ⟨_, _, rfl, rfl, ?_⟩
  | refine ⟨_, _, _, _, rfl, rfl, (show (_ : Prop) from by first | exact SqL.of (by assumption) | exact SqL.of upd_same | assumption | exact upd_same), rfl, ?_⟩
  | refine Or.inl ⟨_, rfl, ?_⟩)
local macro_rules | `(tactic| walk_at "ex") => `(tactic| first | exact Ex.refl _ | assumption | (refine ex_new ?_ (by assumption); walk_at "ex"))
local macro_rules | `(tactic| walk_at "r") => `(tactic| repeat (walk_at "r1"))

section
variable {P : Program} {w : World} {K : PySem.W.Frag} {mg : Str → Option Value} {base : Heap} {A : Ad}
theorem ok_check_image (T : Txt K mg A)   : Okd P w K mg base CX0 1 A.check_image P_check_image spCI1 := by
  obtain ⟨fd, F⟩ := T.d_check_image

  refine ⟨fd, F.ok sc_check_image (fun vs H Q E h => ?_) (fun cdv A' outer s H vs Q E hr h => ?_), F.binds fun _ _ _ _ _ _ us hl => match us, hl with | [_], _ => rfl⟩
  · obtain ⟨a, ys, rfl, _⟩ := h
    rfl
  · obtain ⟨a, ys, rfl, hx, hl, hb, k⟩ := h
    refine ⟨_, (pss_cons (ps_set (i := 1) sc_check_image.nd rfl (Or.inl rfl) (pe_callB call_len_seq (by rfl) T.n_len PySem.boot_len (pa_cons (pv 0) pa_nil)))
      (pss_one (ps_for PassesOwn.never rfl (pi_enum (by rfl) T.n_enumerate (pa_cons (pv 0) pa_nil)) (pg_tup (by rfl) (pgs_cons (pg_name (i := 2) sc_check_image.nd rfl (Or.inl rfl)) (pgs_cons (pg_name (i := 3) sc_check_image.nd rfl (Or.inl rfl)) pgs_nil))) (pss_one (ps_if (PW.pt (pw_or (pt_cmpR op_lt (pv 3) pe_int (nomark _)) (pw_or1 (pt_cmpR op_ge (pv 3) (pv 1) (nomark _))))) (pss_one ps_never) pss_nil))))), ?_⟩
    refine ⟨_, rfl, _, _, rfl, Or.inl (SqL.of hx), ?_⟩
    refine ⟨_, rfl, _, _, rfl, hx.sz, for_it walk_enum (fun i σ H' => ∃ v1 v2 : Option V, σ = [some (.ref a), some (.int ((nI ys).length : Int)), v1, v2] ∧ Ex H H')
      ⟨none, none, rfl, Ex.refl H⟩ (fun i σ H' _ ⟨_, _, _, e⟩ => (hx.ex e).sz) ?_ ?_⟩
    · rintro i x σ H' H2 hi ⟨v1, v2, rfl, e⟩ ⟨T0, y1, y2, rfl, hT, rfl, e1, e2⟩
      obtain ⟨hi2, rfl⟩ := nat_at e2
      cases e1
      have hlt := hb i hi2
      refine ⟨T0, _, rfl, SqT.of upd_same, rfl, _, _, rfl, _, _, rfl, rfl, ?_⟩
      walk_at "r"
      refine ite_b (fun c => absurd (of_decide_eq_true c) (by rw [nI_len]; omega)) (fun c => ?_)
      exact ⟨_, _, rfl, ex_new e hT⟩
    · rintro σ H' ⟨v1, v2, rfl, e⟩
      exact k H' e

end

section
variable {P : Program} {w : World} {K : PySem.W.Frag} {mg : Str → Option Value} {base : Heap} {A : Ad}
theorem ok_least_records (T : Txt K mg A)   : Okd P w K mg base CX0 1 A.least_records P_least_records spLR := by
  obtain ⟨fd, F⟩ := T.d_least_records

  refine ⟨fd, F.ok sc_least_records (fun vs H Q E h => ?_) (fun cdv A' outer s H vs Q E hr h => ?_), F.binds fun _ _ _ _ _ _ us hl => match us, hl with | [_], _ => rfl⟩
  · obtain ⟨a, ys, rfl, _⟩ := h
    rfl
  · obtain ⟨a, ys, rfl, hx, hl, hb, k⟩ := h
    refine ⟨_, (pss_cons (ps_set (i := 1) sc_least_records.nd rfl (Or.inl rfl) (pe_listRg (by rfl) (by rfl) T.n_list (prg_1 (by rfl) T.n_range (pe_callB call_len_seq (by rfl) T.n_len PySem.boot_len (pa_cons (pv 0) pa_nil)))))
      (pss_cons (ps_for PassesOwn.never rfl (pi_enum (by rfl) T.n_enumerate (pa_cons (pv 0) pa_nil)) (pg_tup (by rfl) (pgs_cons (pg_name (i := 2) sc_least_records.nd rfl (Or.inl rfl)) (pgs_cons (pg_name (i := 3) sc_least_records.nd rfl (Or.inl rfl)) pgs_nil))) (pss_cons (ps_set (i := 4) sc_least_records.nd rfl (Or.inr rfl) (pe_callB (call_min2 (by rfl)) (by rfl) T.n_min (by decide +kernel) (pa_cons (pe_ix ix_list (pv 1) (pv 2) (fun _ _ => rfl)) (pa_cons (pe_ix ix_list (pv 1) (pv 3) (fun _ _ => rfl)) pa_nil))))
      (pss_cons (ps_set (i := 5) sc_least_records.nd rfl (Or.inr rfl) (pe_callB (call_max2 (by rfl)) (by rfl) T.n_max (by decide +kernel) (pa_cons (pe_ix ix_list (pv 1) (pv 2) (fun _ _ => rfl)) (pa_cons (pe_ix ix_list (pv 1) (pv 3) (fun _ _ => rfl)) pa_nil))))
      (pss_one (ps_if (pt_cmpR op_ne (pv 4) (pv 5) (nomark _)) (pss_one (ps_setLc (i := 1) (own := [("old", 6)]) (tt := tYes) (by rfl) sc_least_records.nd rfl rfl (sw_true rfl rfl rfl (by decide +kernel)) (pi_list (pv 1)) (blkOk_by (own := [("old", 6)]) (N := N_least_records) (sc := defScope s_least_records) (by decide +kernel)) (fun _ _ _ _ _ => (pg_name (i := 6) sc_least_records.nd rfl (Or.inl rfl))) (fun _ _ _ _ _ => pts_nil) (fun _ _ _ _ _ => (pe_ifExp (pt_cmpR op_eq (pv 6) (pv 5) (nomark _)) (pv 4) (pv 6))))) pss_nil)))))
      (pss_one (ps_ret (pv 1))))), ?_⟩
    have hlab : ∀ i, (lab ys i).length = ys.length := fun i => by
      induction i with
      | zero => exact List.length_range
      | succ i ih =>
        show (stepL (lab ys i) i (ys.getD i 0)).length = _
        unfold stepL
        split
        · exact ih
        · rw [List.length_map]
          exact ih
    have hn : (nI ys).length = ys.length := nI_len ys
    refine ⟨_, rfl, _, _, rfl, Or.inl (SqL.of hx), ?_⟩
    refine ⟨_, rfl, RgOk.of_le (by decide) (by rw [hn]; omega) (by decide) (by rw [hn]; omega), fun p0 hp0 => ?_⟩
    have hp1 : ListN (upd H p0 (.lst (rgV 0 ((nI ys).length : Int)))) p0 (lab ys 0) := by
      show upd H p0 _ p0 = _
      rw [upd_same, hn, rgV_map, List.map_map]
      rfl
    have e0 := Ex.new (o := .lst (rgV 0 ((nI ys).length : Int))) hp0
    generalize L2.upd H p0 _ = H0 at *
    have hx0 := hx.ex e0
    refine ⟨_, rfl, _, _, rfl, hx0.sz, for_it walk_enum (fun i σ H' => ∃ (p : Addr) (v2 v3 v4 v5 v6 : Option V), σ = [some (.ref a), some (.ref p), v2, v3, v4, v5, v6] ∧ Ex H H' ∧ H p = none ∧ ListN H' p (lab ys i))
      ⟨p0, none, none, none, none, none, rfl, e0, hp0, hp1⟩ (fun i σ H' _ ⟨_, _, _, _, _, _, _, e, _⟩ => (hx.ex e).sz) ?_ ?_⟩
    · rintro i x σ H' H2 hi ⟨p, v2, v3, v4, v5, v6, rfl, e, hp, hL⟩ ⟨T0, y1, y2, rfl, hT, rfl, e1, e2⟩
      obtain ⟨hi2, rfl⟩ := nat_at e2
      cases e1
      have hlt := hb i hi2
      have hL1 : ListN (upd H' T0 (.tup [.int (i : Nat), .int (ys.getD i 0 : Nat)])) p (lab ys i) := hL.ex (Ex.new hT)
      have e1 := ex_new (o := .tup [.int (i : Nat), .int (ys.getD i 0 : Nat)]) e hT
      have hlen : (lab ys i).length = ys.length := hlab i
      refine ⟨T0, _, rfl, SqT.of upd_same, rfl, _, _, rfl, _, _, rfl, rfl, ?_⟩
      generalize L2.upd H' T0 _ = G at *
      refine ⟨_, rfl, _, rfl, _, _, _, _, rfl, rfl, hL1.sz, atN (by omega), _, rfl, _, rfl, _, _, _, _, rfl, rfl, hL1.sz, atN (by omega), _, _, rfl, ?_⟩
      refine ⟨_, rfl, _, rfl, _, _, _, _, rfl, rfl, hL1.sz, atN (by omega), _, rfl, _, rfl, _, _, _, _, rfl, rfl, hL1.sz, atN (by omega), _, _, rfl, ?_⟩
      have hmin : (if (((lab ys i).getD (ys.getD i 0) 0 : Nat) : Int) < (((lab ys i).getD i 0 : Nat) : Int) then (((lab ys i).getD (ys.getD i 0) 0 : Nat) : Int) else (((lab ys i).getD i 0 : Nat) : Int)) = ((min ((lab ys i).getD i 0) ((lab ys i).getD (ys.getD i 0) 0) : Nat) : Int) := by
        split <;> omega
      have hmax : (if (((lab ys i).getD (ys.getD i 0) 0 : Nat) : Int) > (((lab ys i).getD i 0 : Nat) : Int) then (((lab ys i).getD (ys.getD i 0) 0 : Nat) : Int) else (((lab ys i).getD i 0 : Nat) : Int)) = ((max ((lab ys i).getD i 0) ((lab ys i).getD (ys.getD i 0) 0) : Nat) : Int) := by
        split <;> omega
      rw [hmin, hmax]
      have hstep : lab ys (i + 1) = stepL (lab ys i) i (ys.getD i 0) := rfl
      unfold stepL at hstep
      generalize min ((lab ys i).getD i 0) ((lab ys i).getD (ys.getD i 0) 0) = lo at *
      generalize max ((lab ys i).getD i 0) ((lab ys i).getD (ys.getD i 0) 0) = up at *
      refine ⟨_, rfl, _, rfl, rfl, _, rfl, ?_⟩
      refine ite_b (fun c => ?_) (fun c => ?_)
      · have hne : lo ≠ up := fun z => by rw [z] at c; simp at c
        rw [if_neg hne] at hstep
        refine ⟨_, rfl, p, rfl, ⟨_, hL1.sz⟩, fun D hD => lc_list (K := K) (a := p) (xs := nI (lab ys i)) (fun j H' => Ex G H' ∧ ListN H' D (((lab ys i).take j).map fun o => if o = up then lo else o)) ⟨Ex.new hD, upd_same⟩ (fun j H' _ q => (hL1.ex q.1).sz) ?_ ?_⟩
        · rintro j y H' hj ⟨e3, hd⟩
          obtain ⟨hj2, rfl⟩ := nat_at hj
          refine ⟨rfl, _, rfl, _, rfl, rfl, _, rfl, ?_⟩
          have fin : ∀ v : Nat, (if (lab ys i).getD j 0 = up then lo else (lab ys i).getD j 0) = v → ∃ acc, H' D = some (.lst acc) ∧ acc.length < sizeLine ∧ Ex G (upd H' D (.lst (acc ++ [V.int (v : Int)]))) ∧ ListN (upd H' D (.lst (acc ++ [V.int (v : Int)]))) D (((lab ys i).take (j + 1)).map fun o => if o = up then lo else o) := fun v hv => by
            refine ⟨_, hd, small1000 (by rw [nI_len, List.length_map, List.length_take]; omega), fun b o hb => ?_, ?_⟩
            · rw [upd_ne (ne_of_none hb hD)]
              exact e3 b o hb
            · show upd H' D _ D = _
              rw [upd_same, List.take_add_one, List.getElem?_eq_getElem hj2]
              have hg : (lab ys i)[j] = (lab ys i).getD j 0 := by rw [List.getD_eq_getElem?_getD, List.getElem?_eq_getElem hj2]; rfl
              unfold nI
              rw [List.map_append, List.map_append, Option.toList_some, hg]
              show _ = some (HO.lst (_ ++ [V.int ((if (lab ys i).getD j 0 = up then lo else (lab ys i).getD j 0 : Nat) : Int)]))
              rw [hv]
          refine ite_b (fun c2 => ?_) (fun c2 => ?_)
          · have h2 : (lab ys i).getD j 0 = up := by
              have c3 := of_decide_eq_true c2
              injection c3 with c3
              omega
            exact ⟨_, rfl, fin lo (if_pos h2)⟩
          · have h2 : ¬ (lab ys i).getD j 0 = up := fun z => (of_decide_eq_false c2) (by rw [z])
            exact ⟨_, rfl, fin _ (if_neg h2)⟩
        · rintro H' ⟨e3, hd⟩
          have e4 := e1.trans e3
          refine ⟨D, _, _, _, _, _, rfl, e4, fresh_back e1 hD, ?_⟩
          rw [hstep]
          have hz : (nI (lab ys i)).length = (lab ys i).length := nI_len _
          rw [hz, List.take_length] at hd
          exact hd
      · have he : lo = up := by
          by_cases h : lo = up
          · exact h
          · exfalso
            have : decide (V.int (lo : Int) = V.int (up : Int)) = false := decide_eq_false (fun z => h (by injection z with z; omega))
            rw [this] at c
            cases c
        rw [if_pos he] at hstep
        exact ⟨p, _, _, _, _, _, rfl, e1, hp, by rw [hstep]; exact hL1⟩
    · rintro σ H' ⟨p, v2, v3, v4, v5, v6, rfl, e, hp, hL⟩
      rw [hn] at hL
      exact ⟨_, rfl, k p H' hp e hL⟩

end

section
variable {P : Program} {w : World} {K : PySem.W.Frag} {mg : Str → Option Value} {base : Heap} {A : Ad}
theorem hll (ys : List Nat) : ∀ i, (lab ys i).length = ys.length := fun i => by
  induction i with
  | zero => exact List.length_range
  | succ i ih =>
    show (stepL (lab ys i) i (ys.getD i 0)).length = _
    unfold stepL
    split
    · exact ih
    · rw [List.length_map]
      exact ih
theorem ok_groups (T : Txt K mg A)  (g_check_image : Okd P w K mg base CX0 1 A.check_image P_check_image spCI1) (g_least_records : Okd P w K mg base CX0 1 A.least_records P_least_records spLR) : Okd P w K mg base CX0 2 A.groups P_groups spGr := by
  obtain ⟨fd, F⟩ := T.d_groups
  obtain ⟨fd_check_image, G_check_image, b_check_image⟩ := g_check_image
  obtain ⟨fd_least_records, G_least_records, b_least_records⟩ := g_least_records
  refine ⟨fd, F.ok sc_groups (fun vs H Q E h => ?_) (fun cdv A' outer s H vs Q E hr h => ?_), F.binds fun _ _ _ _ _ _ us hl => match us, hl with | [_], _ => rfl⟩
  · obtain ⟨a, ys, bs, rfl, _⟩ := h
    rfl
  · obtain ⟨a, ys, bs, rfl, hx, hl, hB, k⟩ := h
    refine ⟨_, (pss_cons (ps_expr (pe_call G_check_image (hr.mono (by decide)) (by rfl) T.g_check_image T.k_check_image b_check_image .nil pass0 (pa_cons (pv 0) pa_nil)))
      (pss_cons (ps_set (i := 1) sc_groups.nd rfl (Or.inl rfl) pe_dnewK)
      (pss_cons (ps_for PassesOwn.never rfl (pi_enum (by rfl) T.n_enumerate (pa_cons (pe_call G_least_records (hr.mono (by decide)) (by rfl) T.g_least_records T.k_least_records b_least_records .nil pass0 (pa_cons (pv 0) pa_nil)) pa_nil)) (pg_tup (by rfl) (pgs_cons (pg_name (i := 2) sc_groups.nd rfl (Or.inl rfl)) (pgs_cons (pg_name (i := 3) sc_groups.nd rfl (Or.inl rfl)) pgs_nil))) (pss_one (ps_expr (pe_bm PySem.F.plainAttrs_list PySem.F.slot_list_append PySem.F.type_list_append mt_append (pe_dsetd (pv 1) (pv 3) (pe_lst pa_nil) ⟨rfl, rfl, rfl, rfl⟩) (pa_cons (pv 2) pa_nil)))))
      (pss_one (ps_ret (pe_listVals (by rfl) (pv 1) (by rfl) T.n_list)))))), ?_⟩
    have hnb := Built.nb hB
    refine ⟨_, rfl, a, ys, rfl, hx, hl, hnb, fun H1 e1 => ?_⟩
    refine fun d hd => ?_
    have e2 : Ex H (upd H1 d (.dK [])) := ex_new e1 hd
    refine ⟨_, rfl, a, ys, rfl, hx.ex e2, hl, hnb, fun p H3 hp e3 hL => ?_⟩
    have hpd : p ≠ d := fun z => by
      rw [z, upd_same] at hp
      cases hp
    have hlab : (lab ys ys.length).length = ys.length := hll ys ys.length
    have G0 : Gst bs 0 H3 H3 d [] := ⟨e3 d _ upd_same, rfl, List.nodup_nil, (fun x hx => nomatch hx), Mut.refl d H3⟩
    have e4 : Ex H H3 := e2.trans e3
    have hd0 : H d = none := fresh_back e1 hd
    clear hp e2
    refine ⟨_, _, rfl, hL.sz, for_it walk_enum (fun i σ H' => ∃ (gs : List (Nat × Addr)) (v2 v3 : Option V), σ = [some (.ref a), some (.ref d), v2, v3] ∧ Gst bs i H3 H' d gs)
      ⟨[], none, none, rfl, G0⟩ (fun i σ H' _ ⟨_, _, _, _, G⟩ => SqL.of (G.mt p _ hpd hL)) ?_ ?_⟩
    · rintro i x σ H' H2 hi ⟨gs, v2, v3, rfl, G⟩ ⟨T0, y1, y2, rfl, hT, rfl, e1, e2⟩
      obtain ⟨hi2, rfl⟩ := nat_at e2
      cases e1
      rw [hlab] at hi2
      have hb : (lab ys ys.length).getD i 0 = beta bs i := lab_end hB hi2
      rw [hb]
      have G1 := G.tup (o := .tup [.int (i : Nat), .int (beta bs i : Nat)]) hT
      refine ⟨T0, _, rfl, SqT.of upd_same, rfl, _, _, rfl, _, _, rfl, rfl, ?_⟩
      generalize L2.upd H' T0 _ = G' at *
      have hgl : gs.length ≤ i := by
        have e := congrArg List.length G.keys
        rw [List.length_map] at e
        have := List.length_filter_le (fun x => decide (beta bs x = x)) (List.range i)
        rw [List.length_range] at this
        omega
      have hroot : beta bs (beta bs i) = beta bs i := by
        obtain ⟨b, hb, hxb⟩ := hB.of hi2
        rw [hB.beta_of hb hxb]
        exact hB.mn_beta hb
      refine ⟨_, rfl, d, rfl, Or.inl ⟨_, Or.inl G1.kv⟩, _, rfl, (by decide), fun z hz => ⟨kvG gs, Sum.inl (beta bs i : Nat), (G1.tup hz).kv, rfl, small1000 (by unfold kvG; rw [List.length_map]; omega), fun v hv => ?_, fun hn => ?_⟩⟩
      · obtain ⟨c, hc, rfl⟩ := kvG_some hv
        have G2 := G1.tup hz (o := .lst [])
        obtain ⟨_, _, hcl⟩ := G2.at_ _ hc
        have hfl := List.length_filter_le (fun y => decide (beta bs y = beta bs i)) (List.range i)
        rw [List.length_range] at hfl
        exact ⟨Or.inl ⟨rfl, _, SqL.of hcl⟩, _, rfl, _, _, _, rfl, rfl, hcl, small1000 (by rw [nI_len]; exact Nat.le_trans hfl (by omega)), gs, _, _, rfl, G2.old hc⟩
      · have hno := kvG_none hn
        have FR := G1.fresh (fun x hx => hB.beta_le (by omega)) hroot (z := z) hno hz
        rw [kvG_put hno, FR.1]
        have hzd : z ≠ d := fun e => by
          rw [e, G1.kv] at hz
          cases hz
        have hz1 : upd (upd G' z (.lst [])) d (.dK (kvG (gs ++ [(i, z)]))) z = some (.lst []) := by rw [upd_ne hzd, upd_same]
        exact ⟨Or.inl ⟨rfl, _, SqL.of hz1⟩, _, rfl, _, _, _, rfl, rfl, hz1, by decide, gs ++ [(i, z)], _, _, rfl, FR.2⟩
    · rintro σ H' ⟨gs, v2, v3, rfl, G⟩
      rw [nI_len, hlab] at G
      refine ⟨_, rfl, d, kvG gs, rfl, G.kv, fun q hq => ?_⟩
      have keep : ∀ b o, H b = some o → H' b = some o := fun b o hb => G.mt b o (fun z => by rw [z, hd0] at hb; cases hb) (e4 b o hb)
      have hq0 : H q = none := by
        cases e : H q with
        | none => rfl
        | some o =>
          rw [keep q o e] at hq
          cases hq
      refine k q gs _ hq0 (ex_new keep hq) ?_ G.keys (fun x hx => ?_)
      · rw [upd_same]
        unfold kvG
        rw [List.map_map]
        rfl
      · obtain ⟨g1, g2, g3⟩ := G.at_ x hx
        refine ⟨?_, ne_of_none g3 hq, ?_⟩
        · cases e : H x.2 with
          | none => rfl
          | some o =>
            rw [e4 _ o e] at g1
            cases g1
        · exact ListN.ex (Ex.new hq) g3

end

section
variable {P : Program} {w : World} {K : PySem.W.Frag} {mg : Str → Option Value} {base : Heap} {A : Ad}
theorem ok_row_of (T : Txt K mg A)   : Okd P w K mg base CX0 1 A.row_of P_row_of spRow := by
  obtain ⟨fd, F⟩ := T.d_row_of

  refine ⟨fd, F.ok sc_row_of (fun vs H Q E h => ?_) (fun cdv A' outer s H vs Q E hr h => ?_), F.binds fun _ _ _ _ _ _ us hl => match us, hl with | [_, _], _ => rfl⟩
  · obtain ⟨a, g, ys, bs, b, rfl, _⟩ := h
    rfl
  · obtain ⟨a, g, ys, bs, b, rfl, hx, hl, hB, hb, hC, hg, k⟩ := h
    refine ⟨_, (pss_cons (ps_set (i := 2) sc_row_of.nd rfl (Or.inr rfl) (pe_lc (own := [("record", 6)]) (tt := tYes) (by rfl) sc_row_of.nd (pi_list (pv 1)) (blkOk_by (own := [("record", 6)]) (N := N_row_of) (sc := defScope s_row_of) (by decide +kernel)) (fun _ _ _ _ _ => (pg_name (i := 6) sc_row_of.nd rfl (Or.inl rfl))) (fun _ _ _ _ _ => pts_nil) (fun _ _ _ _ _ => (pe_ix (ix_listK (K := K) rfl) (pv 0) (pv 6) (fun _ _ => rfl)))))
      (pss_cons (ps_setLc (i := 3) (own := [("record", 6)]) (tt := _) (by rfl) sc_row_of.nd rfl rfl (sw_true rfl rfl rfl (by decide +kernel)) (pi_list (pv 1)) (blkOk_by (own := [("record", 6)]) (N := N_row_of) (sc := defScope s_row_of) (by decide +kernel)) (fun _ _ _ _ _ => (pg_name (i := 6) sc_row_of.nd rfl (Or.inl rfl))) (fun _ _ _ _ _ => (pts_one (pt_cmpR (op_notInK (K := K) rfl) (pv 6) (pv 2) (by with_unfolding_all rfl)))) (fun _ _ _ _ _ => (pv 6)))
      (pss_cons (ps_set (i := 4) sc_row_of.nd rfl (Or.inl rfl) (pe_ifExp (pt_truth (pv 3) (by intro _; rfl)) (pe_ix ix_list (pv 3) pe_int (fun _ _ => rfl)) (pe_ix ix_list (pv 1) pe_int (fun _ _ => rfl))))
      (pss_cons (ps_set (i := 5) sc_row_of.nd rfl (Or.inr rfl) (pe_lst pa_nil))
      (pss_cons (ps_while PassesOwn.never (pt_cmpR op_notIn_seq (pv 4) (pv 5) (by with_unfolding_all rfl)) (pss_cons (ps_expr (pe_bm PySem.F.plainAttrs_list PySem.F.slot_list_append PySem.F.type_list_append mt_append (pv 5) (pa_cons (pv 4) pa_nil)))
      (pss_one (ps_set (i := 4) sc_row_of.nd rfl (Or.inl rfl) (pe_ix ix_list (pv 0) (pv 4) (fun _ _ => rfl))))))
      (pss_one (ps_ret (pe_op op_cat (pv 5) (pe_lc (own := [("record", 6)]) (tt := _) (by rfl) sc_row_of.nd (pi_list (pv 1)) (blkOk_by (own := [("record", 6)]) (N := N_row_of) (sc := defScope s_row_of) (by decide +kernel)) (fun _ _ _ _ _ => (pg_name (i := 6) sc_row_of.nd rfl (Or.inl rfl))) (fun _ _ _ _ _ => (pts_one (pt_cmpR (op_notInK (K := K) rfl) (pv 6) (pv 5) (by with_unfolding_all rfl)))) (fun _ _ _ _ _ => (pv 6))))))))))), ?_⟩
    have hnb := Built.nb hB
    have hlt : ∀ j, j < (grp bs ys.length (mn b.2)).length → (grp bs ys.length (mn b.2)).getD j 0 < ys.length := fun j hj => hB.lt hb ((hB.mem_grp hb).mp (getD_mem hj))
    have hst := hB.start hb hC _ rfl
    have hw := hB.walks hb
    have hleft := hB.left hb
    have hl4 := path_len hB hb
    have hgp := (hB.grp_perm hb).length_eq
    have hgm : ∀ x, x ∈ grp bs ys.length (mn b.2) ↔ x ∈ b.2 := fun x => hB.mem_grp hb
    generalize grp bs ys.length (mn b.2) = gp at *
    refine ⟨_, rfl, g, rfl, ⟨_, hg.sz⟩, fun D hD => lc_list (K := K) (a := g) (xs := nI gp) (fun j H' => Ex H H' ∧ ListN H' D ((gp.take j).map fun y => ys.getD y 0)) ⟨Ex.new hD, upd_same⟩ (fun j H' _ q => (hg.ex q.1).sz) ?_ ?_⟩
    · rintro j y H' hj ⟨e3, hd⟩
      obtain ⟨hj2, rfl⟩ := nat_at hj
      refine ⟨rfl, _, rfl, _, rfl, _, _, _, _, rfl, rfl, (hx.ex e3).sz, atN (hlt j hj2), ?_⟩
      refine ⟨_, hd, small1000 (by rw [nI_len, List.length_map, List.length_take]; omega), ?_⟩
      rw [take_map_succ hj2]
      exact acc_step hD e3
    rintro H1 ⟨e1, h1⟩
    rw [nI_len, List.take_length] at h1
    have hD0 : H D = none := hD
    refine ⟨_, rfl, g, rfl, ⟨_, (hg.ex e1).sz⟩, fun D2 hD2 => lc_list (K := K) (a := g) (xs := nI gp) (fun j H' => Ex H1 H' ∧ ListN H' D2 ((gp.take j).filter fun x => !(gp.map fun y => ys.getD y 0).contains x)) ⟨Ex.new hD2, upd_same⟩ (fun j H' _ q => (hg.ex (e1.trans q.1)).sz) ?_ ?_⟩
    · rintro j y H' hj ⟨e3, hd⟩
      obtain ⟨hj2, rfl⟩ := nat_at hj
      have f1 : ListN H' D (gp.map fun y => ys.getD y 0) := h1.ex e3
      refine ⟨rfl, _, rfl, _, rfl, _, _, rfl, Or.inl (SqL.of f1), rfl, flat_nI _, _, rfl, ?_⟩
      show if (!inV _ _) = true then _ else _
      rw [inV_nI]
      refine ite_b (fun c => ?_) (fun c => ?_)
      · refine ⟨_, rfl, _, hd, small1000 (by rw [nI_len]; have := List.length_filter_le (fun x => !(gp.map fun y => ys.getD y 0).contains x) (gp.take j); rw [List.length_take] at this; omega), ?_⟩
        rw [take_filter_pos hj2 c]
        exact acc_step hD2 e3
      · rw [take_filter_neg hj2 c]
        exact ⟨e3, hd⟩
    rintro H2 ⟨e2, h2⟩
    rw [nI_len, List.take_length] at h2
    generalize hT : (gp.filter fun x => !(gp.map fun y => ys.getD y 0).contains x) = TT at *
    have hh : ∀ {L : List Nat} {v : Nat}, L.head? = some v → atI (nI L) (0 : Int) = some (V.int (v : Int)) := fun {L v} h => by
      cases L with
      | nil => cases h
      | cons x L =>
        injection h with h
        subst h
        exact atN (xs := x :: L) (j := 0) (Nat.succ_pos _)
    have hpl : (path b).length ≤ 4 := Nat.le_trans path_le hl4
    have hp0 : (path b).getD 0 0 = b.2.getD 0 0 := path_zero
    have hplt : ∀ x, x ∈ path b → x < ys.length := fun x h => hB.lt hb (path_mem h)
    have hni := fun j h => Walks.notin hw (j := j) h
    obtain ⟨wpos, wnd, wnext, wback⟩ := hw
    generalize path b = pp at *
    refine ⟨_, rfl, _, Or.inl ⟨_, SqL.of h2, rfl⟩, ite_b (fun c => ⟨_, rfl, _, _, _, _, rfl, rfl, SqL.of h2, hh (hst.2 (fun z => by rw [z] at c; cases c)), ?_⟩) (fun c => ⟨_, rfl, _, _, _, _, rfl, rfl, (hg.ex (e1.trans e2)).sz, hh (hst.1 (by cases TT with | nil => rfl | cons _ _ => cases c)), ?_⟩)⟩
    all_goals
      refine ⟨by decide, fun r hr0 => ?_⟩
      have e3 : Ex H (upd H2 r (.lst [])) := (e1.trans e2).trans (Ex.new hr0)
      have hrn : H r = none := fresh_back (e1.trans e2) hr0
      refine ⟨fun m σ H' => ∃ (j : Nat) (v6 : Option V), j + m = pp.length ∧ σ = [some (.ref a), some (.ref g), some (.ref D), some (.ref D2), some (.int ((if j < pp.length then pp.getD j 0 else ys.getD (pp.getD (pp.length - 1) 0) 0 : Nat) : Int)), some (.ref r), v6] ∧ Ex H H' ∧ ListN H' r (pp.take j), ⟨pp.length, 0, none, by omega, ?_, e3, upd_same⟩, ?_⟩
      · rw [if_pos wpos, hp0]
        rfl
      rintro m σ H' ⟨j, v6, hm, rfl, e, hr⟩
      refine ⟨_, rfl, _, rfl, _, _, rfl, Or.inl (SqL.of hr), rfl, flat_nI _, _, rfl, ?_⟩
      show if (!inV _ _) = true then _ else _
      rw [inV_nI]
      by_cases c : j < pp.length
      · rw [if_pos c]
        rw [hni j c]
        refine ⟨fun σ H' => ∃ (v6 : Option V), σ = [some (.ref a), some (.ref g), some (.ref D), some (.ref D2), some (.int ((if j + 1 < pp.length then pp.getD (j + 1) 0 else ys.getD (pp.getD (pp.length - 1) 0) 0 : Nat) : Int)), some (.ref r), v6] ∧ Ex H H' ∧ ListN H' r (pp.take (j + 1)), fun σ' H' ⟨v6, h1, h2, h3⟩ => ⟨m - 1, by omega, j + 1, v6, by omega, h1, h2, h3⟩, ?_⟩
        have AC := acc_step (v := pp.getD j 0) hrn e (ls := pp.take j)
        refine ⟨_, rfl, Or.inl ⟨rfl, _, SqL.of hr⟩, _, rfl, _, _, _, rfl, rfl, hr, small1000 (by rw [nI_len, List.length_take]; omega), ?_⟩
        refine ⟨_, rfl, _, rfl, _, _, _, _, rfl, rfl, (hx.ex AC.1).sz, atN (hplt _ (getD_mem c)), ?_⟩
        refine ⟨v6, ?_, AC.1, ?_⟩
        · have : ys.getD (pp.getD j 0) 0 = (if j + 1 < pp.length then pp.getD (j + 1) 0 else ys.getD (pp.getD (pp.length - 1) 0) 0) := by
            split
            · exact wnext j (by assumption)
            · rw [show pp.length - 1 = j by omega]
          rw [← this]
          rfl
        · rw [take_succ c]
          exact AC.2
      · have hj : j = pp.length := by omega
        subst hj
        rw [if_neg c, List.take_length, List.contains_iff_mem.mpr wback]
        rw [List.take_length] at hr
        refine ⟨_, rfl, _, rfl, g, rfl, ⟨_, (hg.ex e).sz⟩, fun D3 hD3 => lc_list (K := K) (a := g) (xs := nI gp) (fun j H1 => Ex H' H1 ∧ ListN H1 D3 ((gp.take j).filter fun x => !pp.contains x)) ⟨Ex.new hD3, upd_same⟩ (fun j H1 _ q => (hg.ex (e.trans q.1)).sz) ?_ ?_⟩
        · rintro j y H1 hj ⟨e3, hd⟩
          obtain ⟨hj2, rfl⟩ := nat_at hj
          refine ⟨rfl, _, rfl, _, rfl, _, _, rfl, Or.inl (SqL.of (hr.ex e3)), rfl, flat_nI _, _, rfl, ?_⟩
          show if (!inV _ _) = true then _ else _
          rw [inV_nI]
          refine ite_b (fun c => ?_) (fun c => ?_)
          · refine ⟨_, rfl, _, hd, small1000 (by rw [nI_len]; have := List.length_filter_le (fun x => !pp.contains x) (gp.take j); rw [List.length_take] at this; omega), ?_⟩
            rw [take_filter_pos hj2 c]
            exact acc_step hD3 e3
          · rw [take_filter_neg hj2 c]
            exact ⟨e3, hd⟩
        rintro H4 ⟨e4, h4⟩
        rw [nI_len, List.take_length] at h4
        have hf := List.length_filter_le (fun x => !pp.contains x) gp
        refine ⟨_, _, _, _, rfl, rfl, hr.ex e4, h4, Nat.le_of_lt (small1000 (by rw [nI_len, nI_len]; omega)), fun q hq => k q _ (fresh_back (e.trans e4) hq) ((e.trans e4).trans (Ex.new hq)) ?_⟩
        show upd H4 q _ q = _
        rw [upd_same, ← hleft]
        unfold nI
        rw [List.map_append]

end

section
variable {P : Program} {w : World} {K : PySem.W.Frag} {mg : Str → Option Value} {base : Heap} {A : Ad}
theorem forms_at {w : Nat} (h : w < 8) : formsT[w]? = some (form w, word w) ∧ ∀ (j : Nat) (q : List Nat × Str), j < w → formsT[j]? = some q → q.1 ≠ form w := by
  have e : ∀ w : Nat, w < 8 → formsT[w]? = some (form w, word w) := fun w h => by
    rcases w with _ | _ | _ | _ | _ | _ | _ | _ | w
    all_goals first | rfl | omega
  refine ⟨e w h, fun j q hj hq => ?_⟩
  rw [e j (by omega)] at hq
  injection hq with hq
  subst hq
  have d : ∀ w : Fin 8, ∀ j : Fin 8, j.val < w.val → form j.val ≠ form w.val := by decide
  exact d ⟨w, h⟩ ⟨j, by omega⟩ hj
theorem ok_piece_of (T : Txt K mg A) (hF : TabK P w K A.FORMS formsT) (g_row_of : Okd P w K mg base CX0 1 A.row_of P_row_of spRow) : Okd P w K mg base CX0 2 A.piece_of P_piece_of spPO := by
  obtain ⟨fd, F⟩ := T.d_piece_of
  obtain ⟨fd_row_of, G_row_of, b_row_of⟩ := g_row_of
  refine ⟨fd, F.ok sc_piece_of (fun vs H Q E h => ?_) (fun cdv A' outer s H vs Q E hr h => ?_), F.binds fun _ _ _ _ _ _ us hl => match us, hl with | [_, _], _ => rfl⟩
  · obtain ⟨a, g, ys, bs, b, rfl, _⟩ := h
    rfl
  · obtain ⟨a, g, ys, bs, b, rfl, hx, hl, hB, hb, hC, hg, k⟩ := h
    refine ⟨_, (pss_cons (ps_set (i := 2) sc_piece_of.nd rfl (Or.inr rfl) (pe_call G_row_of (hr.mono (by decide)) (by rfl) T.g_row_of T.k_row_of b_row_of .nil pass0 (pa_cons (pv 0) (pa_cons (pv 1) pa_nil))))
      (pss_cons (ps_set (i := 3) sc_piece_of.nd rfl (Or.inl rfl) (pe_callTy call_tuple_of (by rfl) T.n_tuple (by decide +kernel) (pa_cons (pe_lc (own := [("record", 5)]) (tt := tYes) (by rfl) sc_piece_of.nd (pi_list (pv 2)) (blkOk_by (own := [("record", 5)]) (N := N_piece_of) (sc := defScope s_piece_of) (by decide +kernel)) (fun _ _ _ _ _ => (pg_name (i := 5) sc_piece_of.nd rfl (Or.inl rfl))) (fun _ _ _ _ _ => pts_nil) (fun _ _ _ _ _ => (pe_indexK (K := K) rfl (pe_bm PySem.F.plainAttrs_list PySem.F.slot_list_index PySem.F.type_list_index mt_index (pv 2) (pa_cons (pe_ix (ix_listK (K := K) rfl) (pv 0) (pv 5) (fun _ _ => rfl)) pa_nil))))) pa_nil)))
      (pss_cons (ps_set (i := 4) sc_piece_of.nd rfl (Or.inl rfl) (pe_tabGet hr.units (pe_glob (v := .ref A.FORMS) rfl T.g_FORMS rfl) (pv 3) ⟨rfl, rfl, rfl, rfl⟩))
      (pss_cons (ps_if (pt_cmpR op_isN (pv 4) pe_non (nomark _)) (pss_one (ps_ret pe_non)) pss_nil)
      (pss_one (ps_ret (pe_tup (pa_cons (pv 4) (pa_cons (pe_callTy call_tuple_of (by rfl) T.n_tuple (by decide +kernel) (pa_cons (pv 2) pa_nil)) pa_nil))))))))), ?_⟩
    have hl4 := path_len hB hb
    have hBk := hB.blk b hb
    have hfl : b.2.length = (form b.1).length := hBk.len
    have hbn : b.2.Nodup := nd_of hB.nd hb
    have hlt : ∀ j, j < b.2.length → b.2.getD j 0 < ys.length := fun j hj => hB.lt hb (getD_mem hj)
    refine ⟨_, rfl, _, rfl, a, g, ys, bs, b, rfl, hx, hl, hB, hb, hC, hg, fun p H1 hp e1 h1 => ?_⟩
    refine ⟨_, rfl, p, rfl, ⟨_, h1.sz⟩, fun D hD => lc_list (K := K) (a := p) (xs := nI b.2) (fun j H' => Ex H1 H' ∧ ListN H' D ((form b.1).take j)) ⟨Ex.new hD, upd_same⟩ (fun j H' _ q => (h1.ex q.1).sz) ?_ ?_⟩
    · rintro j y H' hj ⟨e3, hd⟩
      obtain ⟨hj2, rfl⟩ := nat_at hj
      have hfj : (form b.1).getD j 0 < b.2.length := by
        rw [hfl]
        exact form_lt _ _ (by omega)
      refine ⟨rfl, _, rfl, Or.inl ⟨rfl, _, SqL.of (h1.ex e3)⟩, _, rfl, _, rfl, _, _, _, _, rfl, rfl, (hx.ex (e1.trans e3)).sz, atN (hlt j hj2), ?_⟩
      refine ⟨_, nI b.2, _, (form b.1).getD j 0, _, rfl, rfl, SqL.of (h1.ex e3), rfl, flat_nI _, ixN_ hfj, ?_, fun m z' hm hz => ?_, ?_⟩
      · rw [eqV_nat]
        exact (hBk.sh j hj2).symm
      · obtain ⟨hm2, rfl⟩ := nat_at hz
        cases c : eqV (V.int ((b.2.getD m 0 : Nat) : Int)) (V.int ((ys.getD (b.2.getD j 0) 0 : Nat) : Int)) with
        | false => rfl
        | true =>
          rw [eqV_nat, hBk.sh j hj2] at c
          rw [List.getD_eq_getElem?_getD, List.getD_eq_getElem?_getD, List.getElem?_eq_getElem hm2, List.getElem?_eq_getElem hfj] at c
          have := (List.getElem_inj (h₀ := hm2) (h₁ := hfj) hbn).mp c
          omega
      refine ⟨_, hd, small1000 (by rw [nI_len, List.length_take]; omega), ?_⟩
      rw [take_succ (xs := form b.1) (by omega)]
      exact acc_step hD e3
    rintro H2 ⟨e2, h2⟩
    rw [nI_len, hfl, List.take_length] at h2
    have F1 := forms_at hBk.w
    refine ⟨_, _, rfl, Or.inl ⟨SqL.of h2, fun l hl0 => ?_⟩⟩
    have h3 := h1.ex (e2.trans (Ex.new (o := .tup (nI (form b.1))) hl0))
    have e4 := (e1.trans e2).trans (Ex.new (o := .tup (nI (form b.1))) hl0)
    refine ⟨_, formsT, rfl, hF, _, rfl, l, form b.1, word b.1, rfl, upd_same, ⟨b.1, F1⟩, ?_⟩
    generalize L2.upd H2 l _ = H3 at *
    refine ⟨_, rfl, rfl, _, rfl, ?_⟩
    refine ite_b (fun c => absurd (of_decide_eq_true c) (by intro z; cases z)) (fun _ => ?_)
    refine ⟨_, rfl, _, rfl, _, _, rfl, Or.inl ⟨SqL.of h3, fun t ht => ⟨(by show 2 ≤ sizeLine; decide), fun q hq => ?_⟩⟩⟩
    have hqt : q ≠ t := fun z => by
      rw [z, upd_same] at hq
      cases hq
    have e5 := ex_new (ex_new e4 ht) hq (o := .tup [.str (word b.1), .ref t])
    refine k q _ (fresh_back (ex_new e4 ht) hq) e5 ⟨t, upd_same, ?_⟩
    rw [upd_ne hqt.symm, upd_same]

end

section
variable {P : Program} {w : World} {K : PySem.W.Frag} {mg : Str → Option Value} {base : Heap} {A : Ad}
theorem ok_pieces (T : Txt K mg A)  (g_groups : Okd P w K mg base CX0 2 A.groups P_groups spGr) (g_piece_of : Okd P w K mg base CX0 2 A.piece_of P_piece_of spPO) : Okd P w K mg base CX0 3 A.pieces P_pieces spPi := by
  obtain ⟨fd, F⟩ := T.d_pieces
  obtain ⟨fd_groups, G_groups, b_groups⟩ := g_groups
  obtain ⟨fd_piece_of, G_piece_of, b_piece_of⟩ := g_piece_of
  refine ⟨fd, F.ok sc_pieces (fun vs H Q E h => ?_) (fun cdv A' outer s H vs Q E hr h => ?_), F.binds fun _ _ _ _ _ _ us hl => match us, hl with | [_], _ => rfl⟩
  · obtain ⟨a, ys, bs, rfl, _⟩ := h
    rfl
  · obtain ⟨a, ys, bs, rfl, hx, hG, k⟩ := h
    refine ⟨_, (pss_cons (ps_set (i := 1) sc_pieces.nd rfl (Or.inl rfl) (pe_lst pa_nil))
      (pss_cons (ps_for PassesOwn.never rfl (pi_list (pe_call G_groups (hr.mono (by decide)) (by rfl) T.g_groups T.k_groups b_groups .nil pass0 (pa_cons (pv 0) pa_nil))) (pg_name (i := 2) sc_pieces.nd rfl (Or.inl rfl)) (pss_cons (ps_set (i := 3) sc_pieces.nd rfl (Or.inl rfl) (pe_call G_piece_of (hr.mono (by decide)) (by rfl) T.g_piece_of T.k_piece_of b_piece_of .nil pass0 (pa_cons (pv 0) (pa_cons (pv 2) pa_nil))))
      (pss_cons (ps_if (pt_cmpR op_isN (pv 3) pe_non (nomark _)) (pss_one ps_never) pss_nil)
      (pss_one (ps_expr (pe_bm PySem.F.plainAttrs_list PySem.F.slot_list_append PySem.F.type_list_append mt_append (pv 1) (pa_cons (pv 3) pa_nil)))))))
      (pss_one (ps_ret (pv 1))))), ?_⟩
    have hB := hG.built
    have hl := hG.len
    have h64 := hG.few
    refine ⟨by decide, fun f hf => ?_⟩
    have e0 : Ex H (upd H f (.lst [])) := Ex.new hf
    refine ⟨_, rfl, a, ys, bs, rfl, hx.ex e0, hl, hB, fun p gs H1 hp e1 hP hk hgs => ?_⟩
    have hpf : p ≠ f := fun z => by
      rw [z, upd_same] at hp
      cases hp
    have hgf : ∀ x ∈ gs, x.2 ≠ f := fun x h z => by
      have := (hgs x h).1
      rw [z, upd_same] at this
      cases this
    have h0 : H1 f = some (.lst []) := e1 f _ upd_same
    have e01 : Ex H H1 := e0.trans e1
    obtain ⟨hgl, hgm⟩ := hG.gs hk
    have sq : SqL K H1 p (gs.map fun x => V.ref x.2) := SqL.of hP
    refine ⟨p, rfl, ⟨_, sq⟩, for_list (K := K) (a := p) (xs := gs.map fun x => V.ref x.2) (fun i σ H' => ∃ v2 v3 : Option V, σ = [some (.ref a), some (.ref f), v2, v3] ∧ Mut f H1 H' ∧ Some2 PieceAt H' f bs i)
      ⟨none, none, rfl, Mut.refl f H1, .nil h0⟩ (fun i σ H' _ ⟨_, _, _, M, _⟩ => SqL.of (M p _ hpf hP)) ?_ ?_⟩
    · rintro i x σ H' hi ⟨v2, v3, rfl, M, S⟩
      rw [List.getElem?_map] at hi
      cases hgi : gs[i]? with
      | none => rw [hgi] at hi; cases hi
      | some gx =>
      rw [hgi] at hi
      injection hi with hi
      subst hi
      have hil : i < gs.length := (List.getElem?_eq_some_iff.mp hgi).1
      have hib : i < bs.length := by omega
      have hbi : bs[i]? = some bs[i] := List.getElem?_eq_getElem hib
      have hmem : gx ∈ gs := List.mem_of_getElem? hgi
      have hgx := hgm i gx bs[i] hgi hbi
      have hxn := (hgs gx hmem).2.2
      rw [hgx] at hxn
      have ef : Ex H H' := fun b o hb => M b o (fun z => by rw [z, hf] at hb; cases hb) (e01 b o hb)
      refine ⟨_, rfl, _, rfl, a, gx.2, ys, bs, bs[i], rfl, hx.ex ef, hl, hB, List.getElem_mem hib, hG.can _ (List.getElem_mem hib), M _ _ (hgf gx hmem) hxn, fun q H2 hq e2 hA => ?_⟩
      refine ⟨_, rfl, rfl, _, rfl, ?_⟩
      refine ite_b (fun c => absurd (of_decide_eq_true c) (by intro z; cases z)) (fun _ => ?_)
      obtain ⟨qs, h1, h2, h3⟩ := (S.ex e2).more hA hbi
      refine ⟨_, rfl, Or.inl ⟨rfl, _, SqL.of h1⟩, _, rfl, _, _, _, rfl, rfl, h1, small1000 (by rw [List.length_map]; omega), ?_⟩
      exact ⟨_, _, rfl, fun b o hb hv => by rw [upd_ne hb]; exact e2 b o (M b o hb hv), h3⟩
    · rintro σ H' ⟨v2, v3, rfl, M, S⟩
      rw [List.length_map, hgl] at S
      exact ⟨_, rfl, k f H' hf (fun b o hb => M b o (fun z => by rw [z, hf] at hb; cases hb) (e01 b o hb)) S.all⟩

end

section
variable {P : Program} {w : World} {K : PySem.W.Frag} {mg : Str → Option Value} {base : Heap} {A : Ad}
theorem ok_is_repairable (T : Txt K mg A)  (g_groups : Okd P w K mg base CX0 2 A.groups P_groups spGr) (g_piece_of : Okd P w K mg base CX0 2 A.piece_of P_piece_of spPO) : Okd P w K mg base CX0 3 A.is_repairable P_is_repairable spRep := by
  obtain ⟨fd, F⟩ := T.d_is_repairable
  obtain ⟨fd_groups, G_groups, b_groups⟩ := g_groups
  obtain ⟨fd_piece_of, G_piece_of, b_piece_of⟩ := g_piece_of
  refine ⟨fd, F.ok sc_is_repairable (fun vs H Q E h => ?_) (fun cdv A' outer s H vs Q E hr h => ?_), F.binds fun _ _ _ _ _ _ us hl => match us, hl with | [_], _ => rfl⟩
  · obtain ⟨a, ys, bs, rfl, _⟩ := h
    rfl
  · obtain ⟨a, ys, bs, rfl, hx, hG, k⟩ := h
    refine ⟨_, (pss_one (ps_ret (pe_callB (cr_all (by rfl)) (by rfl) T.n_all (by decide +kernel) (pa_cons (pe_lc (own := [("group", 1)]) (tt := tYes) (by rfl) sc_is_repairable.nd (pi_list (pe_call G_groups (hr.mono (by decide)) (by rfl) T.g_groups T.k_groups b_groups .nil pass0 (pa_cons (pv 0) pa_nil))) (blkOk_by (own := [("group", 1)]) (N := N_is_repairable) (sc := defScope s_is_repairable) (by decide +kernel)) (fun _ _ _ _ _ => (pg_name (i := 1) sc_is_repairable.nd rfl (Or.inl rfl))) (fun _ _ _ _ _ => pts_nil) (fun _ _ _ _ _ => (pe_cmpR op_notN (pe_call G_piece_of (hr.mono (by decide)) (by rfl) T.g_piece_of T.k_piece_of b_piece_of .nil pass0 (pa_cons (pv 0) (pa_cons (pv 1) pa_nil))) pe_non (nomark _)))) pa_nil)))), ?_⟩
    have hB := hG.built
    have hl := hG.len
    have h64 := hG.few
    refine ⟨_, rfl, a, ys, bs, rfl, hx, hl, hB, fun p gs H1 hp e1 hP hk hgs => ?_⟩
    obtain ⟨hgl, hgm⟩ := hG.gs hk
    have sq : SqL K H1 p (gs.map fun x => V.ref x.2) := SqL.of hP
    refine ⟨p, rfl, ⟨_, sq⟩, fun D hD => lc_list (K := K) (a := p) (xs := gs.map fun x => V.ref x.2) (fun j H' => Ex H1 H' ∧ H' D = some (.lst ((List.replicate j true).map V.bl))) ⟨Ex.new hD, upd_same⟩ (fun j H' _ q => SqL.of (q.1 p _ hP)) ?_ ?_⟩
    · rintro i y H' hi ⟨ef, hd⟩
      rw [List.getElem?_map] at hi
      cases hgi : gs[i]? with
      | none => rw [hgi] at hi; cases hi
      | some gx =>
      rw [hgi] at hi
      injection hi with hi
      subst hi
      have hil : i < gs.length := (List.getElem?_eq_some_iff.mp hgi).1
      have hib : i < bs.length := by omega
      have hbi : bs[i]? = some bs[i] := List.getElem?_eq_getElem hib
      have hmem : gx ∈ gs := List.mem_of_getElem? hgi
      have hgx := hgm i gx bs[i] hgi hbi
      have hxn := (hgs gx hmem).2.2
      rw [hgx] at hxn
      refine ⟨rfl, _, rfl, _, rfl, a, gx.2, ys, bs, bs[i], rfl, hx.ex (e1.trans ef), hl, hB, List.getElem_mem hib, hG.can _ (List.getElem_mem hib), hxn.ex ef, fun q H2 hq e2 hA => ?_⟩
      refine ⟨rfl, _, e2 D _ hd, small1000 (by rw [List.length_map, List.length_replicate]; omega), fun b o hb => ?_, ?_⟩
      · rw [upd_ne (ne_of_none hb hD)]
        exact e2 b o (ef b o hb)
      · rw [upd_same, List.replicate_succ', List.map_append]
        rfl
    · rintro H' ⟨ef, hd⟩
      refine ⟨D, _, rfl, SqL.of hd, ?_⟩
      rw [show (List.replicate (gs.map fun x => V.ref x.2).length true).all id = true by rw [List.all_replicate]; split <;> rfl]
      exact k H' (e1.trans ef)

end

section
variable {P : Program} {w : World} {K : PySem.W.Frag} {mg : Str → Option Value} {base : Heap} {A : Ad}
theorem All2.app {H : Hp} {p q : Addr} {cs : List Bk} {b : Bk} (h : All2 PieceAt H p cs) (hq : PieceAt H q b) : ∃ qs : List Addr, H p = some (.lst (qs.map V.ref)) ∧ qs.length = cs.length ∧ All2 PieceAt (upd H p (.lst (qs.map V.ref ++ [V.ref q]))) p (cs ++ [b]) := by
  obtain ⟨qs, h1, h2, h3⟩ := h
  have S : Some2 PieceAt H p (cs ++ [b]) cs.length := ⟨qs, h1, h2, fun j r c hr hc => by
    have hj : j < cs.length := by rw [← h2]; exact (List.getElem?_eq_some_iff.mp hr).1
    rw [List.getElem?_append_left hj] at hc
    exact h3 j r c hr hc⟩
  obtain ⟨qs', g1, g2, g3⟩ := S.more hq (by rw [List.getElem?_append_right (Nat.le_refl _), Nat.sub_self]; rfl)
  refine ⟨qs', g1, g2, ?_⟩
  have := Some2.all (bs := cs ++ [b]) (by rw [List.length_append]; exact g3)
  exact this
theorem All2.ex {H H1 : Hp} {p : Addr} {bs : List Bk} (e : Ex H H1) (h : All2 PieceAt H p bs) : All2 PieceAt H1 p bs := by
  obtain ⟨qs, h1, h2, h3⟩ := h
  exact ⟨qs, e _ _ h1, h2, fun j q b x y => (h3 j q b x y).ex e⟩
theorem takeB {α : Type} {xs : List α} {j : Nat} {b : α} (h : xs[j]? = some b) : xs.take (j + 1) = xs.take j ++ [b] := by
  rw [List.take_add_one, h]
  rfl
theorem takeBq {α : Type} {xs : List α} {j : Nat} {b : α} (h : xs[j]? = some b) (q : α → Bool) : (xs.take (j + 1)).filter q = (xs.take j).filter q ++ (if q b = true then [b] else []) := by
  rw [takeB h, List.filter_append, List.filter_cons]
  rfl
theorem whole_in {w : Nat} (h : w < 8) : (!inV (V.str (word w)) [.str "free", .str "pair"]) = decide (1 < w) := by
  rcases w with _ | _ | _ | _ | _ | _ | _ | _ | w
  all_goals first | decide +kernel | omega
theorem ok_torn_pieces (T : Txt K mg A)  (g_pieces : Okd P w K mg base CX0 3 A.pieces P_pieces spPi) : Okd P w K mg base CX0 4 A.torn_pieces P_torn_pieces spTorn := by
  obtain ⟨fd, F⟩ := T.d_torn_pieces
  obtain ⟨fd_pieces, G_pieces, b_pieces⟩ := g_pieces
  refine ⟨fd, F.ok sc_torn_pieces (fun vs H Q E h => ?_) (fun cdv A' outer s H vs Q E hr h => ?_), F.binds fun _ _ _ _ _ _ us hl => match us, hl with | [_], _ => rfl⟩
  · obtain ⟨a, ys, bs, rfl, _⟩ := h
    rfl
  · obtain ⟨a, ys, bs, rfl, hx, hG, k⟩ := h
    refine ⟨_, (pss_one (ps_ret (pe_lc (own := [("piece", 1)]) (tt := _) (by rfl) sc_torn_pieces.nd (pi_list (pe_call G_pieces (hr.mono (by decide)) (by rfl) T.g_pieces T.k_pieces b_pieces .nil pass0 (pa_cons (pv 0) pa_nil))) (blkOk_by (own := [("piece", 1)]) (N := N_torn_pieces) (sc := defScope s_torn_pieces) (by decide +kernel)) (fun _ _ _ _ _ => (pg_name (i := 1) sc_torn_pieces.nd rfl (Or.inl rfl))) (fun _ _ _ _ _ => (pts_one (pt_cmpR (op_notInK (K := K) rfl) (pe_ix (ix_tupK (K := K) rfl) (pv 1) pe_int (fun _ _ => rfl)) (pe_glob (v := .ref A.WHOLE) rfl T.g_WHOLE rfl) (by with_unfolding_all rfl)))) (fun _ _ _ _ _ => (pv 1))))), ?_⟩
    have hB := hG.built
    have h64 := hG.few
    refine ⟨_, rfl, a, ys, bs, rfl, hx, hG, fun p H1 hp e1 ⟨qs, hP, hql, hqa⟩ => ?_⟩
    refine ⟨p, rfl, ⟨_, SqL.of hP⟩, fun D hD => lc_list (K := K) (a := p) (xs := qs.map V.ref) (fun j H' => Ex H1 H' ∧ All2 PieceAt H' D ((bs.take j).filter fun b => decide (1 < b.1))) ⟨Ex.new hD, ⟨[], upd_same, rfl, fun j q b h => by simp at h⟩⟩ (fun j H' _ q => SqL.of (q.1 p _ hP)) ?_ ?_⟩
    · rintro i y H' hi ⟨ef, hd⟩
      rw [List.getElem?_map] at hi
      cases hgi : qs[i]? with
      | none => rw [hgi] at hi; cases hi
      | some q =>
      rw [hgi] at hi
      injection hi with hi
      subst hi
      have hib : i < bs.length := by rw [← hql]; exact (List.getElem?_eq_some_iff.mp hgi).1
      have hbi : bs[i]? = some bs[i] := List.getElem?_eq_getElem hib
      have hq := (hqa i q bs[i] hgi hbi).ex ef
      have hw8 := (hB.blk _ (List.getElem_mem hib)).w
      obtain ⟨t, hq1, hq2⟩ := hq
      refine ⟨rfl, _, rfl, _, _, _, _, rfl, rfl, SqT.of hq1, rfl, _, _, rfl, Or.inr (T.w_WHOLE _), rfl, rfl, _, rfl, ?_⟩
      show if (!inV _ _) = true then _ else _
      rw [whole_in hw8, takeBq hbi]
      refine ite_b (fun c => ?_) (fun c => ?_)
      · rw [if_pos c]
        obtain ⟨qs', g1, g2, g3⟩ := hd.app (q := q) (b := bs[i]) ⟨t, hq1, hq2⟩
        refine ⟨_, rfl, _, g1, small1000 (by rw [List.length_map, g2]; have := List.length_filter_le (fun b : Bk => decide (1 < b.1)) (bs.take i); rw [List.length_take] at this; omega), fun b o hb => ?_, g3⟩
        rw [upd_ne (ne_of_none hb hD)]
        exact ef b o hb
      · rw [if_neg (by rw [c]; decide), List.append_nil]
        exact ⟨ef, hd⟩
    · rintro H' ⟨ef, hd⟩
      rw [List.length_map, hql, List.take_length] at hd
      exact k D H' (fresh_back e1 hD) (e1.trans ef) hd

end

section
variable {P : Program} {w : World} {K : PySem.W.Frag} {mg : Str → Option Value} {base : Heap} {A : Ad}
theorem ok_InvalidNumber (T : Txt K mg A)   : Okd P w K mg base CX0 1 A.i_InvalidNumber P_InvalidNumber (spInit A.InvalidNumber "value") := by
  obtain ⟨fd, F⟩ := T.f_InvalidNumber.fn

  refine ⟨fd, F.ok sc_InvalidNumber (fun vs H Q E h => ?_) (fun cdv A' outer s H vs Q E hr h => ?_), F.binds fun _ _ _ _ _ _ us hl => match us, hl with | [_, _], _ => rfl⟩
  · obtain ⟨a, v, rfl, _⟩ := h
    rfl
  · obtain ⟨a, v, rfl, ha, k⟩ := h
    refine ⟨_, (pss_one (ps_ost (pv 0) (pv 1))), ?_⟩
    exact ⟨_, rfl, _, rfl, a, A.InvalidNumber, rfl, T.e_InvalidNumber.oex, T.f_InvalidNumber.nf, Or.inl ⟨ha, fun dx hdx ne => k dx hdx ne⟩⟩


theorem ok_InvalidRules (T : Txt K mg A)   : Okd P w K mg base CX0 1 A.i_InvalidRules P_InvalidRules (spInit A.InvalidRules "name") := by
  obtain ⟨fd, F⟩ := T.f_InvalidRules.fn

  refine ⟨fd, F.ok sc_InvalidRules (fun vs H Q E h => ?_) (fun cdv A' outer s H vs Q E hr h => ?_), F.binds fun _ _ _ _ _ _ us hl => match us, hl with | [_, _], _ => rfl⟩
  · obtain ⟨a, v, rfl, _⟩ := h
    rfl
  · obtain ⟨a, v, rfl, ha, k⟩ := h
    refine ⟨_, (pss_one (ps_ost (pv 0) (pv 1))), ?_⟩
    exact ⟨_, rfl, _, rfl, a, A.InvalidRules, rfl, T.e_InvalidRules.oex, T.f_InvalidRules.nf, Or.inl ⟨ha, fun dx hdx ne => k dx hdx ne⟩⟩

end

section
variable {P : Program} {w : World} {K : PySem.W.Frag} {mg : Str → Option Value} {base : Heap} {A : Ad}
theorem good_in {n w : Str} (h : n ∈ nm5) : goodF n w = (two n).contains w := by
  unfold goodF
  rw [List.contains_iff_mem.mpr h, Bool.true_and]
theorem good_out {n w : Str} (h : n ∉ nm5) : goodF n w = false := by
  unfold goodF
  rw [show nm5.contains n = false from by rw [Bool.eq_false_iff]; exact fun z => h (List.contains_iff_mem.mp z), Bool.false_and]
theorem nm5_nms {n : Str} (h : n ∈ nm5) : n ∈ nms := by
  unfold nm5 at h
  unfold nms
  simp only [List.mem_cons, List.not_mem_nil, or_false] at h ⊢
  rcases h with h | h | h | h | h
  · exact .inl h
  · exact .inr (.inl h)
  · exact .inr (.inr (.inl h))
  · exact .inr (.inr (.inr (.inl h)))
  · exact .inr (.inr (.inr (.inr (.inl h))))
theorem ok_m_change (T : Txt K mg A) (hW : WdK w K A.WORDS) (g_InvalidRules : Okd P w K mg base CX0 1 A.i_InvalidRules P_InvalidRules (spInit A.InvalidRules "name")) : Okd P w K mg base (L2N.CX P w) 3 A.m_change P_m_change (spCh A) := by
  obtain ⟨fd, F⟩ := T.d_m_change
  obtain ⟨fd_InvalidRules, G_InvalidRules, b_InvalidRules⟩ := g_InvalidRules
  refine ⟨fd, F.okN sc_m_change (fun vs H Q E h => ?_) (fun cdv A' outer s H vs Q E hr h => ?_), F.binds fun _ _ _ _ _ _ us hl => match us, hl with | [_, _, _], _ => rfl⟩
  · obtain ⟨a, c, dx, kvs, n, w1, rfl, _⟩ := h
    rfl
  · obtain ⟨a, c, dx, kvs, n, w1, rfl, hn, hw, ha, hc, hlen, k, kr⟩ := h
    refine ⟨_, (pss_cons (ps_if (PW.pt (pw_or (pt_cmpR (op_notIn_kd hW.kd) (pv 1) (pe_glob (v := .ref A.WORDS) rfl T.g_WORDS rfl) (by with_unfolding_all rfl)) (pw_or1 (pt_cmpR op_notIn_seq (pv 2) (pe_ix ix_kdict (pe_glob (v := .ref A.WORDS) rfl T.g_WORDS rfl) (pv 1) (fun _ _ => rfl)) (by with_unfolding_all rfl))))) (pss_one (L2N.ps_raise rfl (L2N.takes_of rfl rfl rfl rfl) (L2N.pmk_oexN T.e_InvalidRules.oex T.f_InvalidRules.i T.f_InvalidRules.t G_InvalidRules (hr.mono (by decide)) b_InvalidRules pass0 rfl T.e_InvalidRules.g (pa_cons (pv 1) pa_nil)))) pss_nil)
      (pss_one (ps_dput (hu_of hr) (pe_fld (pv 0) rfl) (pv 1) (pv 2) rfl))), ?_⟩
    have raise : goodF n w1 = false → ∀ (G : Hp), Ex H G → RzR A n G E := fun c G e => (kr c).mono e
    by_cases h5 : n ∈ nm5
    · obtain ⟨p, hp, hq⟩ := hW.yes n h5
      have kd : KDct K w A.WORDS n (.ref p) := ⟨hW.es, hW.n, _, hW.kd.at_, hW.kd.lit, hp, rfl⟩
      refine ⟨_, rfl, n, _, rfl, rfl, hp, _, rfl, ?_⟩
      refine iteF ?_
      refine ⟨_, rfl, _, rfl, A.WORDS, n, _, rfl, rfl, kd, p, _, rfl, Or.inr (hq _), rfl, flat_str _, _, rfl, ?_⟩
      show if (!inV (V.str w1) ((two n).map V.str)) = true then _ else _
      rw [inV_str, ← good_in h5]
      cases g : goodF n w1 with
      | true =>
        refine iteF ?_
        exact ⟨_, rfl, _, rfl, a, _, dx, _, _, rfl, ha, T.cR, T.nc, rfl, _, rfl, c, _, rfl, DPut.k (k := Sum.inr n) hc (small1000 (by omega)), k g⟩
      | false =>
        refine iteT ?_
        exact ⟨_, rfl, (by show 1 ≤ 1000; decide), mkO_go fun d G e hd => kr g d G e hd⟩
    · refine ⟨_, rfl, n, _, rfl, rfl, hW.no n hn h5, _, rfl, iteT ?_⟩
      refine iteT ?_
      exact ⟨_, rfl, (by show 1 ≤ 1000; decide), mkO_go fun d G e hd => kr (good_out h5) d G e hd⟩

end

section
variable {P : Program} {w : World} {K : PySem.W.Frag} {mg : Str → Option Value} {base : Heap} {A : Ad}
theorem pl_at {n : Str} (h : n ∈ nm5) : nm5.getD (pl n) "" = n := by
  have hi := List.idxOf_lt_length_of_mem h
  rw [List.getD_eq_getElem?_getD]
  unfold pl
  rw [List.getElem?_eq_getElem hi, Option.getD_some]
  exact List.getElem_idxOf hi
end

section
variable {P : Program} {w : World} {K : PySem.W.Frag} {mg : Str → Option Value} {base : Heap} {A : Ad}
theorem dec_str {x y : Str} : decide (V.str x = V.str y) = (x == y) := by
  rw [Bool.eq_iff_iff, decide_eq_true_eq, beq_iff_eq]
  exact ⟨fun z => V.str.inj z, fun z => congrArg V.str z⟩
def secB (bs : List Nat) (i : Nat) : List V := (List.range i).map fun j => V.bl (bs.getD j 0 == 1)
def powL (bs : List Nat) (i : Nat) : List Int := ((List.range i).filter fun j => bs.getD j 0 == 1).map fun j => (1 : Int) * 2 ^ j
theorem sec_eq : ∀ i, i < 5 → ∀ b, b < 2 → (wordF (nm5.getD i "") b == (two (nm5.getD i "")).getD 1 "") = (b == 1) := by decide
theorem two_len (n : Str) : (two n).length = 2 := by
  unfold two
  split
  · rfl
  split
  · rfl
  split <;> rfl
theorem pow_sum {bs : List Nat} (h : Bits bs) : (powL bs 5).sum = (numF bs : Nat) := by
  obtain ⟨b0, b1, b2, b3, b4, rfl, h0, h1, h2, h3, h4⟩ := h.ex5
  have c0 : b0 = 0 ∨ b0 = 1 := by omega
  have c1 : b1 = 0 ∨ b1 = 1 := by omega
  have c2 : b2 = 0 ∨ b2 = 1 := by omega
  have c3 : b3 = 0 ∨ b3 = 1 := by omega
  have c4 : b4 = 0 ∨ b4 = 1 := by omega
  rcases c0 with rfl | rfl <;> rcases c1 with rfl | rfl <;> rcases c2 with rfl | rfl <;> rcases c3 with rfl | rfl <;> rcases c4 with rfl | rfl <;> decide
theorem nm5_at {i : Nat} {x : V} (h : (nm5.map V.str)[i]? = some x) : i < 5 ∧ x = V.str (nm5.getD i "") := by
  rw [List.getElem?_map] at h
  cases e : nm5[i]? with
  | none =>
    rw [e] at h
    cases h
  | some z =>
    rw [e] at h
    refine ⟨(List.getElem?_eq_some_iff.mp e).1, ?_⟩
    rw [List.getD_eq_getElem?_getD, e]
    exact (Option.some.inj h).symm
theorem nm5_mem {i : Nat} (h : i < 5) : nm5.getD i "" ∈ nm5 := by
  rw [List.getD_eq_getElem?_getD, List.getElem?_eq_getElem (show i < nm5.length from h)]
  exact List.getElem_mem _
theorem two_at (n : Str) {b : Nat} (h : b < 2) : atI ((two n).map V.str) (b : Int) = some (V.str (wordF n b)) := by
  refine atI_nat ?_
  rw [List.getElem?_map]
  unfold wordF
  rw [List.getD_eq_getElem?_getD, List.getElem?_eq_getElem (by rw [two_len]; exact h)]
  rfl
theorem Bits.at {bs : List Nat} (h : Bits bs) {i : Nat} (hi : i < 5) : bs.getD i 0 < 2 := by
  rw [List.getD_eq_getElem?_getD, List.getElem?_eq_getElem (by rw [h.len]; exact hi)]
  exact h.two _ (List.getElem_mem _)
theorem ok_m_number (T : Txt K mg A) (hW : WdK w K A.WORDS)  : Okd P w K mg base CX0 1 A.m_number P_m_number (spNum A) := by
  obtain ⟨fd, F⟩ := T.d_m_number

  refine ⟨fd, F.ok sc_m_number (fun vs H Q E h => ?_) (fun cdv A' outer s H vs Q E hr h => ?_), F.binds fun _ _ _ _ _ _ us hl => match us, hl with | [_], _ => rfl⟩
  · obtain ⟨a, c, bs, rfl, _⟩ := h
    rfl
  · obtain ⟨a, c, bs, rfl, R, k⟩ := h
    refine ⟨_, (pss_cons (ps_setLc (i := 1) (own := [("name", 2)]) (tt := tYes) (by rfl) sc_m_number.nd rfl rfl (sw_true rfl rfl rfl (by decide +kernel)) (pi_tup (ClX.pe_cval (pe_glob (v := .ref A.Rules) rfl T.g_Rules rfl))) (blkOk_by (own := [("name", 2)]) (N := N_m_number) (sc := defScope s_m_number) (by decide +kernel)) (fun _ _ _ _ _ => (pg_name (i := 2) sc_m_number.nd rfl (Or.inl rfl))) (fun _ _ _ _ _ => pts_nil) (fun _ _ _ _ _ => (pe_cmpR op_eq (pe_dget (by exact hu_of hr) (pe_fldK (K := K) rfl (pv 0) (by rfl)) (pv 2) (fun _ _ => rfl)) (pe_ix (ix_tupK (K := K) rfl) (pe_ix (ix_kdictK (K := K) (w := w) rfl rfl) (pe_glob (v := .ref A.WORDS) rfl T.g_WORDS rfl) (pv 2) (fun _ _ => rfl)) pe_int (fun _ _ => rfl)) (nomark _))))
      (pss_one (ps_ret (pe_callB (cr_sum (by rfl)) (by rfl) T.n_sum (by decide +kernel) (pa_cons (pe_lc (own := [("at", 3), ("second", 4)]) (g := gTup K 2 (gCons (gName 3) (gCons (gName 4) gNil))) (tt := _) (by rfl) sc_m_number.nd (pi_enum (by rfl) T.n_enumerate (pa_cons (pv 1) pa_nil)) (blkOk_by (own := [("at", 3), ("second", 4)]) (N := N_m_number) (sc := defScope s_m_number) (by decide +kernel)) (fun _ _ _ _ _ => (pg_tup (by rfl) (pgs_cons (pg_name (i := 3) sc_m_number.nd rfl (Or.inl rfl)) (pgs_cons (pg_name (i := 4) sc_m_number.nd rfl (Or.inl rfl)) pgs_nil)))) (fun _ _ _ _ _ => (pts_one (pt_val (pv 4)))) (fun _ _ _ _ _ => (pe_op op_shl pe_int (pv 3)))) pa_nil))))), ?_⟩
    obtain ⟨dx, kvs, ha, hc, hl, hb, hv⟩ := R
    refine ⟨_, _, _, _, rfl, T.rd, T.cv_NAMES, _, rfl, ⟨_, T.tN H⟩, fun D hD => ?_⟩
    refine lc_tup (xs := nm5.map V.str) (fun i H' => Ex H H' ∧ H' D = some (.lst (secB bs i))) ⟨Ex.new hD, upd_same⟩ (fun i H' _ _ => T.tN H') ?_ ?_
    · rintro i x H' hx ⟨e, hd⟩
      obtain ⟨hi, rfl⟩ := nm5_at hx
      obtain ⟨p, hp, hq⟩ := hW.yes _ (nm5_mem hi)
      have kd : KDct K w A.WORDS (nm5.getD i "") (.ref p) := ⟨hW.es, hW.n, _, hW.kd.at_, hW.kd.lit, hp, rfl⟩
      refine ⟨rfl, ?_⟩
      refine ⟨_, rfl, a, _, dx, _, _, rfl, e _ _ ha, T.cR, T.nc, rfl, _, rfl, c, _, rfl, (hv i hi) ▸ DGet.k (k := Sum.inr (nm5.getD i "")) (e _ _ hc), ?_⟩
      refine ⟨_, rfl, A.WORDS, _, _, rfl, rfl, kd, p, _, _, _, rfl, rfl, hq _, two_at _ (show 1 < 2 by decide), rfl, ?_⟩
      rw [dec_str, show wordF (nm5.getD i "") 1 = (two (nm5.getD i "")).getD 1 "" from rfl, sec_eq i hi _ (hb.at hi)]
      refine ⟨_, hd, small1000 (by unfold secB; rw [List.length_map, List.length_range]; omega), ?_, ?_⟩
      · exact fun b o ho => by
          rw [upd_ne (ne_of_none ho hD)]
          exact e b o ho
      · rw [upd_same]
        unfold secB
        rw [List.range_succ, List.map_append]
        rfl
    · rintro H1 ⟨e, hd⟩
      refine ⟨_, rfl, D, _, rfl, SqL.of hd, fun D2 hD2 => ?_⟩
      have hs : ∀ G, Ex H1 G → SqL K G D (secB bs 5) := fun G x => SqL.of (x _ _ hd)
      refine lc_it walk_enum (fun i G => Ex H1 G ∧ G D2 = some (.lst ((powL bs i).map V.int))) ⟨Ex.new hD2, upd_same⟩ (fun i G _ p => hs G p.1) ?_ ?_
      · rintro i x G G2 hi ⟨e2, hd2⟩ ⟨T0, y1, y2, rfl, hT, rfl, q1, q2⟩
        have hi : i < 5 := hi
        cases q1
        have e3 : y2 = V.bl (bs.getD i 0 == 1) := by
          have q2 : (secB bs 5)[i]? = some y2 := q2
          unfold secB at q2
          rw [List.getElem?_map, List.getElem?_range hi] at q2
          exact (Option.some.inj q2).symm
        subst e3
        have nDT : D2 ≠ T0 := ne_of_none hd2 hT
        refine ⟨T0, _, rfl, SqT.of upd_same, rfl, _, _, rfl, _, _, rfl, rfl, rfl, ?_⟩
        have eT : Ex H1 (upd G T0 (.tup [.int (i : Nat), .bl (bs.getD i 0 == 1)])) := ex_new e2 hT
        have dT : ∀ o, upd G T0 o D2 = some (.lst ((powL bs i).map V.int)) := fun o => by rw [upd_ne nDT]; exact hd2
        have step : powL bs (i + 1) = powL bs i ++ if (bs.getD i 0 == 1) = true then [(1 : Int) * 2 ^ i] else [] := by
          unfold powL
          rw [List.range_succ, List.filter_append, List.map_append, List.filter_cons]
          split <;> rfl
        cases hbit : bs.getD i 0 == 1 with
        | true =>
          rw [hbit] at eT step
          refine ⟨_, rfl, _, rfl, iteT ?_⟩
          refine ⟨_, rfl, _, _, rfl, rfl, ⟨by omega, by omega, by decide⟩, _, dT _, small1000 ?_, ?_, ?_⟩
          · unfold powL
            rw [List.length_map, List.length_map]
            have := List.length_filter_le (fun j => bs.getD j 0 == 1) (List.range i)
            rw [List.length_range] at this
            omega
          · exact fun b o ho => by
              rw [upd_ne (ne_of_none ho hD2)]
              exact eT b o ho
          · rw [upd_same, step, if_pos rfl, List.map_append]
            rfl
        | false =>
          rw [hbit] at eT step
          refine ⟨_, rfl, _, rfl, iteF ⟨eT, ?_⟩⟩
          rw [dT, step, if_neg (by decide), List.append_nil]
      · rintro G ⟨e2, hd2⟩
        refine ⟨D2, powL bs 5, rfl, SqL.of hd2, ?_⟩
        rw [pow_sum hb]
        exact k G (e.trans e2)

end

section
variable {P : Program} {w : World} {K : PySem.W.Frag} {mg : Str → Option Value} {base : Heap} {A : Ad}
/-- self, and behind it each parameter's word: written, or the one that it has by itself -/
def pkV {α : Type} (o : List (Bool × Nat)) (us mv ws : List α) : List α := us ++ o.filterMap fun q => match q with
  | (true, i) => ws[i]?
  | (false, i) => mv[i]?
theorem pk_one {zs : List V} {ws : List Value} (c : Vals zs ws) (i : Nat) : (zs[i]? = none ∧ ws[i]? = none) ∨ ∃ z u, zs[i]? = some z ∧ ws[i]? = some u ∧ RelV z u := by
  cases e : zs[i]? with
  | none =>
    refine .inl ⟨rfl, ?_⟩
    rw [List.getElem?_eq_none_iff] at e ⊢
    rw [← c.length]
    exact e
  | some z =>
    obtain ⟨u, hu, r⟩ := c.get e
    exact .inr ⟨z, u, rfl, hu, r⟩
theorem pk_rel (o : List (Bool × Nat)) {vs mz zs : List V} {us mv ws : List Value} (a : Vals vs us) (b : Vals mz mv) (c : Vals zs ws) : Vals (pkV o vs mz zs) (pkV o us mv ws) := by
  refine Vals.append a ?_
  induction o with
  | nil => exact .nil
  | cons q o ih =>
    obtain ⟨f, i⟩ := q
    cases f with
    | true =>
      rcases pk_one c i with ⟨e1, e2⟩ | ⟨z, u, e1, e2, r⟩
      · rw [List.filterMap_cons_none (by exact e1), List.filterMap_cons_none (by exact e2)]
        exact ih
      · rw [List.filterMap_cons_some (by exact e1), List.filterMap_cons_some (by exact e2)]
        exact .cons r ih
    | false =>
      rcases pk_one b i with ⟨e1, e2⟩ | ⟨z, u, e1, e2, r⟩
      · rw [List.filterMap_cons_none (by exact e1), List.filterMap_cons_none (by exact e2)]
        exact ih
      · rw [List.filterMap_cons_some (by exact e1), List.filterMap_cons_some (by exact e2)]
        exact .cons r ih
abbrev oI_none : List (Bool × Nat) := [(false, 0), (false, 1), (false, 2), (false, 3), (false, 4)]
abbrev mI_none : List (Str × V) := [("hook", V.str "back"), ("relay", V.str "near"), ("clamp", V.str "inner"), ("trail", V.str "near"), ("wheel", V.str "even")]
abbrev oI_hook : List (Bool × Nat) := [(true, 0), (false, 0), (false, 1), (false, 2), (false, 3)]
abbrev mI_hook : List (Str × V) := [("relay", V.str "near"), ("clamp", V.str "inner"), ("trail", V.str "near"), ("wheel", V.str "even")]
abbrev oI_relay : List (Bool × Nat) := [(false, 0), (true, 0), (false, 1), (false, 2), (false, 3)]
abbrev mI_relay : List (Str × V) := [("hook", V.str "back"), ("clamp", V.str "inner"), ("trail", V.str "near"), ("wheel", V.str "even")]
abbrev oI_clamp : List (Bool × Nat) := [(false, 0), (false, 1), (true, 0), (false, 2), (false, 3)]
abbrev mI_clamp : List (Str × V) := [("hook", V.str "back"), ("relay", V.str "near"), ("trail", V.str "near"), ("wheel", V.str "even")]
abbrev oI_trail : List (Bool × Nat) := [(false, 0), (false, 1), (false, 2), (true, 0), (false, 3)]
abbrev mI_trail : List (Str × V) := [("hook", V.str "back"), ("relay", V.str "near"), ("clamp", V.str "inner"), ("wheel", V.str "even")]
abbrev oI_wheel : List (Bool × Nat) := [(false, 0), (false, 1), (false, 2), (false, 3), (true, 0)]
abbrev mI_wheel : List (Str × V) := [("hook", V.str "back"), ("relay", V.str "near"), ("clamp", V.str "inner"), ("trail", V.str "near")]
abbrev oI_wheel_trail_clamp_relay_hook : List (Bool × Nat) := [(true, 4), (true, 3), (true, 2), (true, 1), (true, 0)]
abbrev mI_wheel_trail_clamp_relay_hook : List (Str × V) := []
abbrev oI_trail_hook : List (Bool × Nat) := [(true, 1), (false, 0), (false, 1), (true, 0), (false, 2)]
abbrev mI_trail_hook : List (Str × V) := [("relay", V.str "near"), ("clamp", V.str "inner"), ("wheel", V.str "even")]
abbrev oI_hook_relay_clamp_trail_wheel : List (Bool × Nat) := [(true, 0), (true, 1), (true, 2), (true, 3), (true, 4)]
abbrev mI_hook_relay_clamp_trail_wheel : List (Str × V) := []
structure Ways (K : PySem.W.Frag) (fd : FuncData) : Prop where
  k_none : ∃ mv : List Value, KBn K fd P_m_init 1 [] (fun us ws => pkV oI_none us mv ws) (fun vs zs => pkV oI_none vs (mI_none.map (·.2)) zs)
  k_hook : ∃ mv : List Value, KBn K fd P_m_init 1 ["hook"] (fun us ws => pkV oI_hook us mv ws) (fun vs zs => pkV oI_hook vs (mI_hook.map (·.2)) zs)
  k_relay : ∃ mv : List Value, KBn K fd P_m_init 1 ["relay"] (fun us ws => pkV oI_relay us mv ws) (fun vs zs => pkV oI_relay vs (mI_relay.map (·.2)) zs)
  k_clamp : ∃ mv : List Value, KBn K fd P_m_init 1 ["clamp"] (fun us ws => pkV oI_clamp us mv ws) (fun vs zs => pkV oI_clamp vs (mI_clamp.map (·.2)) zs)
  k_trail : ∃ mv : List Value, KBn K fd P_m_init 1 ["trail"] (fun us ws => pkV oI_trail us mv ws) (fun vs zs => pkV oI_trail vs (mI_trail.map (·.2)) zs)
  k_wheel : ∃ mv : List Value, KBn K fd P_m_init 1 ["wheel"] (fun us ws => pkV oI_wheel us mv ws) (fun vs zs => pkV oI_wheel vs (mI_wheel.map (·.2)) zs)
  k_wheel_trail_clamp_relay_hook : ∃ mv : List Value, KBn K fd P_m_init 1 ["wheel", "trail", "clamp", "relay", "hook"] (fun us ws => pkV oI_wheel_trail_clamp_relay_hook us mv ws) (fun vs zs => pkV oI_wheel_trail_clamp_relay_hook vs (mI_wheel_trail_clamp_relay_hook.map (·.2)) zs)
  k_trail_hook : ∃ mv : List Value, KBn K fd P_m_init 1 ["trail", "hook"] (fun us ws => pkV oI_trail_hook us mv ws) (fun vs zs => pkV oI_trail_hook vs (mI_trail_hook.map (·.2)) zs)
  k_hook_relay_clamp_trail_wheel : ∃ mv : List Value, KBn K fd P_m_init 1 ["hook", "relay", "clamp", "trail", "wheel"] (fun us ws => pkV oI_hook_relay_clamp_trail_wheel us mv ws) (fun vs zs => pkV oI_hook_relay_clamp_trail_wheel vs (mI_hook_relay_clamp_trail_wheel.map (·.2)) zs)
theorem ways {K : PySem.W.Frag} {A : Ad} {fd : FuncData} (F : FunD K "__init__" "Rules.__init__" (defArgs s_m_init) (defBody s_m_init) (defScope s_m_init) [] kwsR A.m_init fd) : Ways K fd where
  k_none := by
    refine F.kbinds0 1 [] mI_none (fun us mv ws => pkV oI_none us mv ws) (by decide) (by decide) (fun a b c => pk_rel _ a b c) ?_
    intro D doc pm an cdv ct us mv ws l1 l2 l3
    match us, l1, mv, l2, ws, l3 with
    | [u], _, [m0, m1, m2, m3, m4], _, [], _ => exact ⟨_, _, _, _, _, _, rfl, rfl, ⟨_, _, _, _, _, _, rfl, rfl, ⟨_, _, _, _, _, _, rfl, rfl, ⟨_, _, _, _, _, _, rfl, rfl, ⟨_, _, _, _, _, _, rfl, rfl, rfl⟩⟩⟩⟩⟩
  k_hook := by
    refine F.kbinds0 1 ["hook"] mI_hook (fun us mv ws => pkV oI_hook us mv ws) (by decide) (by decide) (fun a b c => pk_rel _ a b c) ?_
    intro D doc pm an cdv ct us mv ws l1 l2 l3
    match us, l1, mv, l2, ws, l3 with
    | [u], _, [m0, m1, m2, m3], _, [w0], _ => exact ⟨_, _, _, _, _, _, rfl, rfl, ⟨_, _, _, _, _, _, rfl, rfl, ⟨_, _, _, _, _, _, rfl, rfl, ⟨_, _, _, _, _, _, rfl, rfl, rfl⟩⟩⟩⟩
  k_relay := by
    refine F.kbinds0 1 ["relay"] mI_relay (fun us mv ws => pkV oI_relay us mv ws) (by decide) (by decide) (fun a b c => pk_rel _ a b c) ?_
    intro D doc pm an cdv ct us mv ws l1 l2 l3
    match us, l1, mv, l2, ws, l3 with
    | [u], _, [m0, m1, m2, m3], _, [w0], _ => exact ⟨_, _, _, _, _, _, rfl, rfl, ⟨_, _, _, _, _, _, rfl, rfl, ⟨_, _, _, _, _, _, rfl, rfl, ⟨_, _, _, _, _, _, rfl, rfl, rfl⟩⟩⟩⟩
  k_clamp := by
    refine F.kbinds0 1 ["clamp"] mI_clamp (fun us mv ws => pkV oI_clamp us mv ws) (by decide) (by decide) (fun a b c => pk_rel _ a b c) ?_
    intro D doc pm an cdv ct us mv ws l1 l2 l3
    match us, l1, mv, l2, ws, l3 with
    | [u], _, [m0, m1, m2, m3], _, [w0], _ => exact ⟨_, _, _, _, _, _, rfl, rfl, ⟨_, _, _, _, _, _, rfl, rfl, ⟨_, _, _, _, _, _, rfl, rfl, ⟨_, _, _, _, _, _, rfl, rfl, rfl⟩⟩⟩⟩
  k_trail := by
    refine F.kbinds0 1 ["trail"] mI_trail (fun us mv ws => pkV oI_trail us mv ws) (by decide) (by decide) (fun a b c => pk_rel _ a b c) ?_
    intro D doc pm an cdv ct us mv ws l1 l2 l3
    match us, l1, mv, l2, ws, l3 with
    | [u], _, [m0, m1, m2, m3], _, [w0], _ => exact ⟨_, _, _, _, _, _, rfl, rfl, ⟨_, _, _, _, _, _, rfl, rfl, ⟨_, _, _, _, _, _, rfl, rfl, ⟨_, _, _, _, _, _, rfl, rfl, rfl⟩⟩⟩⟩
  k_wheel := by
    refine F.kbinds0 1 ["wheel"] mI_wheel (fun us mv ws => pkV oI_wheel us mv ws) (by decide) (by decide) (fun a b c => pk_rel _ a b c) ?_
    intro D doc pm an cdv ct us mv ws l1 l2 l3
    match us, l1, mv, l2, ws, l3 with
    | [u], _, [m0, m1, m2, m3], _, [w0], _ => exact ⟨_, _, _, _, _, _, rfl, rfl, ⟨_, _, _, _, _, _, rfl, rfl, ⟨_, _, _, _, _, _, rfl, rfl, ⟨_, _, _, _, _, _, rfl, rfl, rfl⟩⟩⟩⟩
  k_wheel_trail_clamp_relay_hook := by
    refine F.kbinds0 1 ["wheel", "trail", "clamp", "relay", "hook"] mI_wheel_trail_clamp_relay_hook (fun us mv ws => pkV oI_wheel_trail_clamp_relay_hook us mv ws) (by decide) (by decide) (fun a b c => pk_rel _ a b c) ?_
    intro D doc pm an cdv ct us mv ws l1 l2 l3
    match us, l1, mv, l2, ws, l3 with
    | [u], _, [], _, [w0, w1, w2, w3, w4], _ => exact rfl
  k_trail_hook := by
    refine F.kbinds0 1 ["trail", "hook"] mI_trail_hook (fun us mv ws => pkV oI_trail_hook us mv ws) (by decide) (by decide) (fun a b c => pk_rel _ a b c) ?_
    intro D doc pm an cdv ct us mv ws l1 l2 l3
    match us, l1, mv, l2, ws, l3 with
    | [u], _, [m0, m1, m2], _, [w0, w1], _ => exact ⟨_, _, _, _, _, _, rfl, rfl, ⟨_, _, _, _, _, _, rfl, rfl, ⟨_, _, _, _, _, _, rfl, rfl, rfl⟩⟩⟩
  k_hook_relay_clamp_trail_wheel := by
    refine F.kbinds0 1 ["hook", "relay", "clamp", "trail", "wheel"] mI_hook_relay_clamp_trail_wheel (fun us mv ws => pkV oI_hook_relay_clamp_trail_wheel us mv ws) (by decide) (by decide) (fun a b c => pk_rel _ a b c) ?_
    intro D doc pm an cdv ct us mv ws l1 l2 l3
    match us, l1, mv, l2, ws, l3 with
    | [u], _, [], _, [w0, w1, w2, w3, w4], _ => exact rfl
/-- __init__ of the class: as a def, and how its keywords bind -/
def OkI (P : Program) (w : World) (K : PySem.W.Frag) (mg : Str → Option Value) (base : Heap) (A : Ad) : Prop := ∃ fd, FnOk P w K mg base (L2N.CX P w) 4 A.m_init fd P_m_init (spIn A) ∧ Ways K fd
def dvR : List V := [.str "back", .str "near", .str "inner", .str "near", .str "even"]
/-- .. called where an exception is handled, without a word -/
def OkIH (P : Program) (w : World) (K : PySem.W.Frag) (mg : Str → Option Value) (base : Heap) (A : Ad) (sp : Sp) : Prop := ∃ fd, L2H.FnH P w K mg base CX0 4 A.m_init fd P_m_init sp ∧ ∃ ds, Vals dvR ds ∧ Binds K fd P_m_init ds
theorem Ways.none {K : PySem.W.Frag} {fd : FuncData} (W : Ways K fd) : ∃ ds, Vals dvR ds ∧ Binds K fd P_m_init ds := by
  obtain ⟨mv, b⟩ := W.k_none
  have r : Vals dvR (pkV oI_none [] mv []) := b.rel .nil .nil
  refine ⟨pkV oI_none [] mv [], r, b.binds (fun u => rfl) ?_⟩
  have := r.length
  show 6 = _
  rw [← this]
  rfl
end

section
variable {P : Program} {w : World} {K : PySem.W.Frag} {mg : Str → Option Value} {base : Heap} {A : Ad}
theorem num_eq {bs cs : List Nat} (hb : Bits bs) (hc : Bits cs) : decide (V.int (numF bs : Nat) = V.int (numF cs : Nat)) = decide (bs = cs) := by
  rw [dec_int, Bool.eq_iff_iff, beq_iff_eq, decide_eq_true_eq]
  refine ⟨fun z => ?_, fun z => by rw [z]⟩
  rw [← bitsOf_num hb, ← bitsOf_num hc, show numF bs = numF cs by omega]
theorem Ru.at {A : Ad} {H : Hp} {a c : Addr} {bs : List Nat} (R : Ru A H a c bs) : ∃ dx, H a = some (.ins A.Rules dx [("_choices", .ref c)]) := by
  obtain ⟨dx, kvs, ha, r⟩ := R
  exact ⟨dx, ha⟩
theorem Ru.bits {A : Ad} {H : Hp} {a c : Addr} {bs : List Nat} (R : Ru A H a c bs) : Bits bs := by
  obtain ⟨dx, kvs, ha, hc, hl, hb, r⟩ := R
  exact hb
theorem rep_len : ∀ n, n < 32 → ((Str.empty ++ ("Rules(" : Str)) ++ (toString ((n : Nat) : Int) : String)).length ≤ 1000 ∧ (((Str.empty ++ ("Rules(" : Str)) ++ (toString ((n : Nat) : Int) : String)) ++ (")" : Str)).length ≤ 1000 := by decide +kernel
theorem rep_is : ∀ n, n < 32 → ((Str.empty ++ ("Rules(" : Str)) ++ (toString ((n : Nat) : Int) : String)) ++ (")" : Str) = repF n := by decide +kernel
end

section
variable {P : Program} {w : World} {K : PySem.W.Frag} {mg : Str → Option Value} {base : Heap} {A : Ad}
theorem badF_eq (w0 w1 w2 w3 w4 : Str) : badF [w0, w1, w2, w3, w4] = match (!goodF "hook" w0) with
  | true => some 0
  | false => match (!goodF "relay" w1) with
    | true => some 1
    | false => match (!goodF "clamp" w2) with
      | true => some 2
      | false => match (!goodF "trail" w3) with
        | true => some 3
        | false => match (!goodF "wheel" w4) with
          | true => some 4
          | false => none := rfl
theorem bitsF_eq (w0 w1 w2 w3 w4 : Str) : bitsF [w0, w1, w2, w3, w4] = [bitF "hook" w0, bitF "relay" w1, bitF "clamp" w2, bitF "trail" w3, bitF "wheel" w4] := rfl
/-- within __init__: what the new object holds -/
structure Mid (A : Ad) (H : Hp) (a c dx : Addr) (kvs : List (Key × V)) (G : Hp) : Prop where
  at_ : G a = some (.ins A.Rules dx [("_choices", .ref c)])
  dk : G c = some (.dK kvs)
  old : ∀ b o, b ≠ a → H b = some o → G b = some o
theorem Mid.put {A : Ad} {H : Hp} {a c dx : Addr} {kvs ls : List (Key × V)} {G : Hp} (m : Mid A H a c dx kvs G) (nac : a ≠ c) (hc : H c = none) : Mid A H a c dx ls (upd G c (.dK ls)) :=
  ⟨by rw [upd_ne nac]; exact m.at_, upd_same, fun b o hb hH => by rw [upd_ne (ne_of_none hH hc)]; exact m.old b o hb hH⟩
def KS (s : Str) : Key := Sum.inr s
theorem put5 (v0 v1 v2 v3 v4 : V) : putK (putK (putK (putK (putK ([] : List (Key × V)) (KS "hook") v0) (KS "relay") v1) (KS "clamp") v2) (KS "trail") v3) (KS "wheel") v4 = [(KS "hook", v0), (KS "relay", v1), (KS "clamp", v2), (KS "trail", v3), (KS "wheel", v4)] := rfl
theorem put_len (k : Key) (v : V) (kvs : List (Key × V)) : (putK kvs k v).length ≤ kvs.length + 1 := by
  unfold putK
  split
  · rw [List.length_map]
    omega
  · rw [List.length_append]
    exact Nat.le_refl _
theorem good_word {n w : Str} (h : goodF n w = true) : wordF n (bitF n w) = w ∧ bitF n w < 2 := by
  unfold goodF at h
  rw [Bool.and_eq_true, List.contains_iff_mem, List.contains_iff_mem] at h
  have hi := List.idxOf_lt_length_of_mem h.2
  refine ⟨?_, by rw [two_len] at hi; exact hi⟩
  unfold wordF bitF
  rw [List.getD_eq_getElem?_getD, List.getElem?_eq_getElem hi, Option.getD_some]
  exact List.getElem_idxOf hi
theorem ok_m_init (T : Txt K mg A)  (g_m_change : Okd P w K mg base (L2N.CX P w) 3 A.m_change P_m_change (spCh A)) : OkI P w K mg base A := by
  obtain ⟨fd, F⟩ := T.d_m_init
  obtain ⟨fd_m_change, G_m_change, b_m_change⟩ := g_m_change
  refine ⟨fd, F.ok sc_m_init (fun vs H Q E h => ?_) (fun cdv A' outer s H vs Q E hr h => ?_), ways F⟩
  · obtain ⟨a, dx, w0, w1, w2, w3, w4, rfl, _⟩ := h
    rfl
  · obtain ⟨a, dx, w0, w1, w2, w3, w4, rfl, hw, ha, k, kr⟩ := h
    refine ⟨_, (pss_cons (ps_fld (pv 0) pe_dnewK rfl)
      (pss_cons (ps_expr (MkS.pe_methS (pv 0) T.cR T.mt_change G_m_change (hr.mono (by decide)) b_m_change (fun σ => L2N.passAt (L2N.takes_of rfl rfl rfl rfl) σ) (pa_cons pe_str (pa_cons (pv 1) pa_nil))))
      (pss_cons (ps_expr (MkS.pe_methS (pv 0) T.cR T.mt_change G_m_change (hr.mono (by decide)) b_m_change (fun σ => L2N.passAt (L2N.takes_of rfl rfl rfl rfl) σ) (pa_cons pe_str (pa_cons (pv 2) pa_nil))))
      (pss_cons (ps_expr (MkS.pe_methS (pv 0) T.cR T.mt_change G_m_change (hr.mono (by decide)) b_m_change (fun σ => L2N.passAt (L2N.takes_of rfl rfl rfl rfl) σ) (pa_cons pe_str (pa_cons (pv 3) pa_nil))))
      (pss_cons (ps_expr (MkS.pe_methS (pv 0) T.cR T.mt_change G_m_change (hr.mono (by decide)) b_m_change (fun σ => L2N.passAt (L2N.takes_of rfl rfl rfl rfl) σ) (pa_cons pe_str (pa_cons (pv 4) pa_nil))))
      (pss_one (ps_expr (MkS.pe_methS (pv 0) T.cR T.mt_change G_m_change (hr.mono (by decide)) b_m_change (fun σ => L2N.passAt (L2N.takes_of rfl rfl rfl rfl) σ) (pa_cons pe_str (pa_cons (pv 5) pa_nil)))))))))), ?_⟩
    refine fun c hc => ?_
    have nac : a ≠ c := ne_of_none ha hc
    refine ⟨_, rfl, a, _, dx, _, rfl, (by rw [upd_ne nac]; exact ha), T.cR, T.nc, (by decide), ?_⟩
    have M0 : Mid A H a c dx [] (upd (upd H c (.dK [])) a (.ins A.Rules dx (putF "_choices" (.ref c) []))) := by
      refine ⟨upd_same, by rw [upd_ne nac.symm, upd_same], fun b o hb hH => ?_⟩
      rw [upd_ne hb, upd_ne (ne_of_none hH hc)]
      exact hH
    generalize L2.upd (L2.upd H c (.dK [])) a _ = G0 at M0 ⊢
    refine ⟨_, rfl, a, dx, _, rfl, M0.at_, rfl, _, rfl, a, c, dx, _, "hook", w0, rfl, (by decide), hw _ (by simp), M0.at_, M0.dk, (Nat.le_of_ble_eq_true rfl), fun g0 => ?_, fun g d G e hd => kr 0 (by rw [badF_eq]; simp only [g]; rfl) d G (fun b o hb hH => e _ _ (M0.old b o hb hH)) hd⟩
    have M1 := M0.put (ls := putK ([] : List (Key × V)) (Sum.inr "hook") (.str w0)) nac hc
    generalize L2.upd _ c (.dK (putK ([] : List (Key × V)) (Sum.inr "hook") (.str w0))) = G1 at M1 ⊢
    refine ⟨_, rfl, a, dx, _, rfl, M1.at_, rfl, _, rfl, a, c, dx, _, "relay", w1, rfl, (by decide), hw _ (by simp), M1.at_, M1.dk, (Nat.le_of_ble_eq_true rfl), fun g1 => ?_, fun g d G e hd => kr 1 (by rw [badF_eq]; simp only [g0, g]; rfl) d G (fun b o hb hH => e _ _ (M1.old b o hb hH)) hd⟩
    have M2 := M1.put (ls := putK ((putK [] (Sum.inr "hook") (.str w0)) : List (Key × V)) (Sum.inr "relay") (.str w1)) nac hc
    generalize L2.upd _ c (.dK (putK ((putK [] (Sum.inr "hook") (.str w0)) : List (Key × V)) (Sum.inr "relay") (.str w1))) = G2 at M2 ⊢
    refine ⟨_, rfl, a, dx, _, rfl, M2.at_, rfl, _, rfl, a, c, dx, _, "clamp", w2, rfl, (by decide), hw _ (by simp), M2.at_, M2.dk, (Nat.le_of_ble_eq_true rfl), fun g2 => ?_, fun g d G e hd => kr 2 (by rw [badF_eq]; simp only [g0, g1, g]; rfl) d G (fun b o hb hH => e _ _ (M2.old b o hb hH)) hd⟩
    have M3 := M2.put (ls := putK ((putK (putK [] (Sum.inr "hook") (.str w0)) (Sum.inr "relay") (.str w1)) : List (Key × V)) (Sum.inr "clamp") (.str w2)) nac hc
    generalize L2.upd _ c (.dK (putK ((putK (putK [] (Sum.inr "hook") (.str w0)) (Sum.inr "relay") (.str w1)) : List (Key × V)) (Sum.inr "clamp") (.str w2))) = G3 at M3 ⊢
    refine ⟨_, rfl, a, dx, _, rfl, M3.at_, rfl, _, rfl, a, c, dx, _, "trail", w3, rfl, (by decide), hw _ (by simp), M3.at_, M3.dk, (Nat.le_of_ble_eq_true rfl), fun g3 => ?_, fun g d G e hd => kr 3 (by rw [badF_eq]; simp only [g0, g1, g2, g]; rfl) d G (fun b o hb hH => e _ _ (M3.old b o hb hH)) hd⟩
    have M4 := M3.put (ls := putK ((putK (putK (putK [] (Sum.inr "hook") (.str w0)) (Sum.inr "relay") (.str w1)) (Sum.inr "clamp") (.str w2)) : List (Key × V)) (Sum.inr "trail") (.str w3)) nac hc
    generalize L2.upd _ c (.dK (putK ((putK (putK (putK [] (Sum.inr "hook") (.str w0)) (Sum.inr "relay") (.str w1)) (Sum.inr "clamp") (.str w2)) : List (Key × V)) (Sum.inr "trail") (.str w3))) = G4 at M4 ⊢
    refine ⟨_, rfl, a, dx, _, rfl, M4.at_, rfl, _, rfl, a, c, dx, _, "wheel", w4, rfl, (by decide), hw _ (by simp), M4.at_, M4.dk, (Nat.le_of_ble_eq_true rfl), fun g4 => ?_, fun g d G e hd => kr 4 (by rw [badF_eq]; simp only [g0, g1, g2, g3, g]; rfl) d G (fun b o hb hH => e _ _ (M4.old b o hb hH)) hd⟩
    have M5 := M4.put (ls := putK ((putK (putK (putK (putK [] (Sum.inr "hook") (.str w0)) (Sum.inr "relay") (.str w1)) (Sum.inr "clamp") (.str w2)) (Sum.inr "trail") (.str w3)) : List (Key × V)) (Sum.inr "wheel") (.str w4)) nac hc
    generalize L2.upd _ c (.dK (putK ((putK (putK (putK (putK [] (Sum.inr "hook") (.str w0)) (Sum.inr "relay") (.str w1)) (Sum.inr "clamp") (.str w2)) (Sum.inr "trail") (.str w3)) : List (Key × V)) (Sum.inr "wheel") (.str w4))) = G5 at M5 ⊢
    refine k (by rw [badF_eq]; simp only [g0, g1, g2, g3, g4]; rfl) c G5 hc nac.symm M5.old ⟨dx, _, M5.at_, M5.dk, (Nat.le_of_ble_eq_true rfl), ⟨rfl, fun b hb => ?_⟩, fun i hi => ?_⟩
    · rw [bitsF_eq] at hb
      simp only [List.mem_cons, List.not_mem_nil, or_false] at hb
      rcases hb with rfl | rfl | rfl | rfl | rfl
      · exact (good_word g0).2
      · exact (good_word g1).2
      · exact (good_word g2).2
      · exact (good_word g3).2
      · exact (good_word g4).2
    · rw [bitsF_eq]
      match i, hi with
      | 0, _ => exact congrArg (fun z => some (V.str z)) (good_word g0).1.symm
      | 1, _ => exact congrArg (fun z => some (V.str z)) (good_word g1).1.symm
      | 2, _ => exact congrArg (fun z => some (V.str z)) (good_word g2).1.symm
      | 3, _ => exact congrArg (fun z => some (V.str z)) (good_word g3).1.symm
      | 4, _ => exact congrArg (fun z => some (V.str z)) (good_word g4).1.symm

end

section
variable {P : Program} {w : World} {K : PySem.W.Frag} {mg : Str → Option Value} {base : Heap} {A : Ad}
theorem upd_none {H : Hp} {p q : Addr} {o : HO} (h : upd H p o q = none) : q ≠ p ∧ H q = none := by
  have ne : q ≠ p := fun e => by
    rw [e, upd_same] at h
    cases h
  rw [upd_ne ne] at h
  exact ⟨ne, h⟩
theorem new_of {A : Ad} {H G H' : Hp} {c dx cc : Addr} {bs : List Nat} {Q : VK} (k : New A H bs Q) (e : Ex H G) (hc : G c = none) (hdx : G dx = none) (hcc : upd (upd G dx (.own c)) c (.ins A.Rules dx []) cc = none)
    (old : ∀ b o, b ≠ c → upd (upd G dx (.own c)) c (.ins A.Rules dx []) b = some o → H' b = some o) (R : Ru A H' c cc bs) : Q (.ref c) H' := by
  have z := upd_none (upd_none hcc).2
  refine k c cc H' (back_none e hc) (back_none e z.2) (fun b o hb => ?_) R
  have hg := e b o hb
  refine old b o (ne_of_none hg hc) ?_
  rw [upd_ne (ne_of_none hg hc), upd_ne (ne_of_none hg hdx)]
  exact hg
theorem old_ex {A : Ad} {G H' : Hp} {c dx : Addr} (hc : G c = none) (hdx : G dx = none) (old : ∀ b o, b ≠ c → upd (upd G dx (.own c)) c (.ins A.Rules dx []) b = some o → H' b = some o) : Ex G H' := fun b o hg => by
  refine old b o (ne_of_none hg hc) ?_
  rw [upd_ne (ne_of_none hg hc), upd_ne (ne_of_none hg hdx)]
  exact hg
def wordsOf (bs : List Nat) : List Str := (List.range 5).map fun i => wordF (nm5.getD i "") (bs.getD i 0)
theorem words_of {bs : List Nat} (h : Bits bs) : badF (wordsOf bs) = none ∧ bitsF (wordsOf bs) = bs ∧ ∀ w ∈ wordsOf bs, w ∈ wds := by
  obtain ⟨b0, b1, b2, b3, b4, rfl, h0, h1, h2, h3, h4⟩ := h.ex5
  have c0 : b0 = 0 ∨ b0 = 1 := by omega
  have c1 : b1 = 0 ∨ b1 = 1 := by omega
  have c2 : b2 = 0 ∨ b2 = 1 := by omega
  have c3 : b3 = 0 ∨ b3 = 1 := by omega
  have c4 : b4 = 0 ∨ b4 = 1 := by omega
  rcases c0 with rfl | rfl <;> rcases c1 with rfl | rfl <;> rcases c2 with rfl | rfl <;> rcases c3 with rfl | rfl <;> rcases c4 with rfl | rfl <;> decide +kernel
theorem and_bit : ∀ v, v < 32 → ∀ i, i < 5 → Builtin.bitAnd (((v : Nat) : Int) / 2 ^ ((i : Nat) : Int).toNat) 1 = (((bitsOf v).getD i 0 : Nat) : Int) := by decide +kernel
theorem ok_m_numbered (T : Txt K mg A) (hW : WdK w K A.WORDS) (g_m_init : OkI P w K mg base A) (g_InvalidNumber : Okd P w K mg base CX0 1 A.i_InvalidNumber P_InvalidNumber (spInit A.InvalidNumber "value")) : Okd P w K mg base (L2N.CX P w) 6 A.m_numbered P_m_numbered (spNd A) := by
  obtain ⟨fd, F⟩ := T.d_m_numbered
  obtain ⟨fd_InvalidNumber, G_InvalidNumber, b_InvalidNumber⟩ := g_InvalidNumber
  obtain ⟨fd_m_init, G_m_init, WY⟩ := g_m_init
  obtain ⟨mv_hook_relay_clamp_trail_wheel, kb_hook_relay_clamp_trail_wheel⟩ := WY.k_hook_relay_clamp_trail_wheel
  refine ⟨fd, F.okN sc_m_numbered (fun vs H Q E h => ?_) (fun cdv A' outer s H vs Q E hr h => ?_), F.binds fun _ _ _ _ _ _ us hl => match us, hl with | [_, _], _ => rfl⟩
  · obtain ⟨v, rfl, _⟩ := h
    rfl
  · obtain ⟨v, rfl, k, kr⟩ := h
    refine ⟨_, (pss_cons (ps_if (PW.pt (pw_or (pt_cmpR op_lt (pv 1) pe_int (nomark _)) (pw_or1 (pt_cmpR op_ge (pv 1) (ClX.pe_cval (pe_glob (v := .ref A.Rules) rfl T.g_Rules rfl)) (nomark _))))) (pss_one (L2N.ps_raise rfl (L2N.takes_of rfl rfl rfl rfl) (L2N.pmk_oexN T.e_InvalidNumber.oex T.f_InvalidNumber.i T.f_InvalidNumber.t G_InvalidNumber (hr.mono (by decide)) b_InvalidNumber pass0 rfl T.e_InvalidNumber.g (pa_cons (pv 1) pa_nil)))) pss_nil)
      (pss_cons (ps_setLc (i := 2) (own := [("at", 3), ("name", 4)]) (g := gTup K 2 (gCons (gName 3) (gCons (gName 4) gNil))) (tt := tYes) (by rfl) sc_m_numbered.nd rfl rfl (sw_true rfl rfl rfl (by decide +kernel)) (EnT.pi_enumT (by rfl) T.n_enumerate (pa_cons (ClX.pe_cval (pe_glob (v := .ref A.Rules) rfl T.g_Rules rfl)) pa_nil)) (blkOk_by (own := [("at", 3), ("name", 4)]) (N := N_m_numbered) (sc := defScope s_m_numbered) (by decide +kernel)) (fun _ _ _ _ _ => (pg_tup (by rfl) (pgs_cons (pg_name (i := 3) sc_m_numbered.nd rfl (Or.inl rfl)) (pgs_cons (pg_name (i := 4) sc_m_numbered.nd rfl (Or.inl rfl)) pgs_nil)))) (fun _ _ _ _ _ => pts_nil) (fun _ _ _ _ _ => (pe_ix (ix_tupK (K := K) rfl) (pe_ix (ix_kdictK (K := K) (w := w) rfl rfl) (pe_glob (v := .ref A.WORDS) rfl T.g_WORDS rfl) (pv 4) (fun _ _ => rfl)) (pe_op op_and (pe_op op_shr (pv 1) (pv 3)) pe_int) (fun _ _ => rfl))))
      (pss_one (ps_ret (MkS.pe_makeLS (i := 0) T.mkR G_m_init (hr.mono (by decide)) rfl (by first | exact Or.inl rfl | exact Or.inr (Or.inl rfl)) kb_hook_relay_clamp_trail_wheel (fun σ => L2N.passAt (L2N.takes_of rfl rfl rfl rfl) σ) (pk_cons (pe_ix ix_list (pv 2) pe_int (fun _ _ => rfl)) (pk_cons (pe_ix ix_list (pv 2) pe_int (fun _ _ => rfl)) (pk_cons (pe_ix ix_list (pv 2) pe_int (fun _ _ => rfl)) (pk_cons (pe_ix ix_list (pv 2) pe_int (fun _ _ => rfl)) (pk_cons (pe_ix ix_list (pv 2) pe_int (fun _ _ => rfl)) pk_nil)))))))))), ?_⟩
    refine ⟨_, rfl, _, _, rfl, rfl, _, rfl, ?_⟩
    have raise : ¬ (0 ≤ v ∧ v < 32) → RzN A v H E := kr
    refine ite_b (fun c1 => ?_) (fun c1 => ?_)
    · refine iteT ?_
      have c1 := of_decide_eq_true c1
      exact ⟨_, rfl, (by show 1 ≤ 1000; decide), mkO_go fun d G e hd => raise (fun z => by omega) d G e hd⟩
    have c1 := of_decide_eq_false c1
    obtain ⟨uc, cv⟩ := T.cv_COUNT
    refine ⟨_, rfl, A.Rules, _, _, _, rfl, T.rd, cv, _, _, rfl, rfl, _, rfl, ?_⟩
    refine ite_b (fun c2 => ?_) (fun c2 => ?_)
    · have c2 := of_decide_eq_true c2
      exact ⟨_, rfl, (by show 1 ≤ 1000; decide), mkO_go fun d G e hd => raise (fun z => by omega) d G e hd⟩
    have c2 := of_decide_eq_false c2
    obtain ⟨n, rfl⟩ := Int.eq_ofNat_of_zero_le (show 0 ≤ v by omega)
    have hn : n < 32 := by omega
    have k := k (by omega) (by omega)
    rw [Int.toNat_natCast] at k
    have hB := bits_of n
    refine ⟨_, _, _, _, rfl, T.rd, T.cv_NAMES, _, _, rfl, T.tN H, fun D hD => ?_⟩
    refine lc_it (EnT.walk_enumT (xs := nm5.map V.str)) (fun i H' => Ex H H' ∧ H' D = some (.lst (((wordsOf (bitsOf n)).take i).map V.str))) ⟨Ex.new hD, upd_same⟩ (fun i H' _ _ => T.tN H') ?_ ?_
    · rintro i x H' H2 hi ⟨e, hd⟩ ⟨T0, y1, y2, rfl, hT, rfl, q1, q2⟩
      cases q1
      obtain ⟨hi5, rfl⟩ := nm5_at q2
      obtain ⟨p, hp, hq⟩ := hW.yes _ (nm5_mem hi5)
      have kd : KDct K w A.WORDS (nm5.getD i "") (.ref p) := ⟨hW.es, hW.n, _, hW.kd.at_, hW.kd.lit, hp, rfl⟩
      have nDT : D ≠ T0 := ne_of_none hd hT
      refine ⟨T0, _, rfl, SqT.of upd_same, rfl, _, _, rfl, _, _, rfl, rfl, rfl, ?_⟩
      refine ⟨_, rfl, A.WORDS, _, _, rfl, rfl, kd, _, rfl, _, rfl, _, _, rfl, rfl, by omega, _, _, rfl, rfl, ?_⟩
      rw [show (fun i j : Int => V.int (Builtin.bitAnd i j)) (((n : Nat) : Int) / 2 ^ ((i : Nat) : Int).toNat) 1 = V.int (((bitsOf n).getD i 0 : Nat) : Int) from congrArg V.int (and_bit n hn i hi5)]
      refine ⟨p, _, _, _, rfl, rfl, hq _, two_at _ (hB.at hi5), ?_⟩
      refine ⟨_, (by rw [upd_ne nDT]; exact hd), small1000 (by rw [List.length_map, List.length_take]; omega), ?_, ?_⟩
      · exact fun b o ho => by
          rw [upd_ne (ne_of_none ho hD), upd_ne (ne_of_none (e b o ho) hT)]
          exact e b o ho
      · rw [upd_same, List.take_add_one, List.map_append]
        have z : (wordsOf (bitsOf n))[i]? = some (wordF (nm5.getD i "") ((bitsOf n).getD i 0)) := by
          unfold wordsOf
          rw [List.getElem?_map, List.getElem?_range hi5]
          rfl
        rw [z]
        rfl
    · rintro H1 ⟨e, hd⟩
      have hd : H1 D = some (.lst ((wordsOf (bitsOf n)).map V.str)) := hd
      obtain ⟨w1, w2, w3⟩ := words_of hB
      have sz : SqL K H1 D ((wordsOf (bitsOf n)).map V.str) := SqL.of hd
      refine ⟨rfl, ?_⟩
      refine ⟨_, rfl, D, _, _, _, rfl, rfl, sz, rfl, ?_⟩
      refine ⟨_, rfl, D, _, _, _, rfl, rfl, sz, rfl, ?_⟩
      refine ⟨_, rfl, D, _, _, _, rfl, rfl, sz, rfl, ?_⟩
      refine ⟨_, rfl, D, _, _, _, rfl, rfl, sz, rfl, ?_⟩
      refine ⟨_, rfl, D, _, _, _, rfl, rfl, sz, rfl, ?_⟩
      refine ⟨rfl, fun c dx hc hdx ndx => ?_⟩
      refine ⟨c, dx, _, _, _, _, _, rfl, w3, upd_same, fun _ cc H' hcc ncc old R => ⟨rfl, ?_⟩, fun i hi => ?_⟩
      · refine new_of k e hc hdx hcc old ?_
        have z : bitsF (wordsOf (bitsOf n)) = bitsOf n := w2
        rw [← z]
        exact R
      · have z : badF (wordsOf (bitsOf n)) = some i := hi
        rw [w1] at z
        cases z

end

section
variable {P : Program} {w : World} {K : PySem.W.Frag} {mg : Str → Option Value} {base : Heap} {A : Ad}
theorem ok_m_copy (T : Txt K mg A)  (g_m_numbered : Okd P w K mg base (L2N.CX P w) 6 A.m_numbered P_m_numbered (spNd A)) (g_m_number : Okd P w K mg base CX0 1 A.m_number P_m_number (spNum A)) : Okd P w K mg base (L2N.CX P w) 7 A.m_copy P_m_copy (spCp A) := by
  obtain ⟨fd, F⟩ := T.d_m_copy
  obtain ⟨fd_m_numbered, G_m_numbered, b_m_numbered⟩ := g_m_numbered
  obtain ⟨fd_m_number, G_m_number, b_m_number⟩ := g_m_number
  refine ⟨fd, F.okN sc_m_copy (fun vs H Q E h => ?_) (fun cdv A' outer s H vs Q E hr h => ?_), F.binds fun _ _ _ _ _ _ us hl => match us, hl with | [_], _ => rfl⟩
  · obtain ⟨a, c, bs, rfl, _⟩ := h
    rfl
  · obtain ⟨a, c, bs, rfl, R, k⟩ := h
    refine ⟨_, (pss_one (ps_ret (MkS.pe_cmethS (pe_glob (v := .ref A.Rules) rfl T.g_Rules rfl) T.rd T.cm G_m_numbered (hr.mono (by decide)) b_m_numbered (fun σ => L2N.passAt (L2N.takes_of rfl rfl rfl rfl) σ) (pa_cons (pe_prop (pv 0) T.cR T.pp_number G_m_number (hr.mono (by decide)) b_m_number .nil pass0 rfl) pa_nil)))), ?_⟩
    obtain ⟨dx, ha⟩ := R.at
    have n32 := num_lt R.bits
    refine ⟨rfl, _, rfl, a, dx, _, rfl, ha, a, c, bs, rfl, R, fun H1 e1 => ?_⟩
    refine ⟨_, rfl, fun _ _ => ?_, fun z => absurd (show 0 ≤ ((numF bs : Nat) : Int) ∧ ((numF bs : Nat) : Int) < 32 by omega) z⟩
    rw [Int.toNat_natCast, bitsOf_num R.bits]
    exact k.mono e1

end

section
variable {P : Program} {w : World} {K : PySem.W.Frag} {mg : Str → Option Value} {base : Heap} {A : Ad}
theorem ok_law_integer (T : Txt K mg A)   : Okd P w K mg base CX0 1 A.law_integer P_law_integer spInt := by
  obtain ⟨fd, F⟩ := T.d_law_integer

  refine ⟨fd, F.ok sc_law_integer (fun vs H Q E h => ?_) (fun cdv A' outer s H vs Q E hr h => ?_), F.binds fun _ _ _ _ _ _ us hl => match us, hl with | [_], _ => rfl⟩
  · obtain ⟨i, rfl, _⟩ := h
    rfl
  · obtain ⟨i, rfl, k⟩ := h
    refine ⟨_, (pss_one (ps_ret (pe_and (pe_callB call_isi (by rfl) T.n_isinstance (by decide +kernel) (pa_cons (pv 0) (pa_cons (pe_bltn (v := .ty "int") (u := .type "int") (by rfl) T.n_int (by decide +kernel) rfl) pa_nil))) (pe_one (pe_not (pe_callB call_isi (by rfl) T.n_isinstance (by decide +kernel) (pa_cons (pv 0) (pa_cons (pe_bltn (v := .ty "bool") (u := .type "bool") (by rfl) T.n_bool (by decide +kernel) rfl) pa_nil)))))))), ?_⟩
    refine ⟨_, rfl, _, _, _, _, true, rfl, ClsV.ty "int", TyX.base (TyOf.int _), kit_ty (by decide +kernel), ?_⟩
    refine ⟨true, rfl, ?_⟩
    refine iteT ?_
    refine ⟨_, rfl, _, _, _, _, false, rfl, ClsV.ty "bool", TyX.base (TyOf.int _), kit_ty (by decide +kernel), ?_⟩
    exact ⟨false, rfl, k⟩

end

section
variable {P : Program} {w : World} {K : PySem.W.Frag} {mg : Str → Option Value} {base : Heap} {A : Ad}
theorem ok_law_cell (T : Txt K mg A)   : Okd P w K mg base CX0 1 A.law_cell P_law_cell (spCell K) := by
  obtain ⟨fd, F⟩ := T.d_law_cell

  refine ⟨fd, F.ok sc_law_cell (fun vs H Q E h => ?_) (fun cdv A' outer s H vs Q E hr h => ?_), F.binds fun _ _ _ _ _ _ us hl => match us, hl with | [_, _], _ => rfl⟩
  · obtain ⟨a, ns, k1, rfl, _⟩ := h
    rfl
  · obtain ⟨a, ns, k1, rfl, hk100, hs, k⟩ := h
    refine ⟨_, (pss_cons (ps_if (pt_cmpR op_lt (pv 1) (pe_callB call_len_seq (by rfl) T.n_len PySem.boot_len (pa_cons (pv 0) pa_nil)) (nomark _)) (pss_one (ps_ret (pe_callTy call_int1 (by rfl) T.n_int (by decide +kernel) (pa_cons (pe_ix ix_list (pv 0) (pv 1) (fun _ _ => rfl)) pa_nil)))) pss_nil)
      (pss_cons (ps_set (i := 2) sc_law_cell.nd rfl (Or.inl rfl) pe_int)
      (pss_cons (ps_for PassesOwn.never rfl (pi_list (pv 0)) (pg_name (i := 3) sc_law_cell.nd rfl (Or.inl rfl)) (pss_one (ps_set (i := 2) sc_law_cell.nd rfl (Or.inl rfl) (pe_op op_mod (pe_callTy call_int1 (by rfl) T.n_int (by decide +kernel) (pa_cons (pe_op op_add (pe_op op_mul (pv 2) pe_int) (pe_callTy call_int1 (by rfl) T.n_int (by decide +kernel) (pa_cons (pv 3) pa_nil))) pa_nil)) pe_int))))
      (pss_one (ps_ret (pe_op op_add (pe_op op_add (pe_op op_mul (pv 2) pe_int) (pe_op op_mul (pv 1) pe_int)) pe_int)))))), ?_⟩
    walk_at "r"
    refine ⟨a, _, rfl, Or.inl hs, ?_⟩
    rw [List.length_map]
    walk_at "r"
    refine ite_b (fun c => ?_) (fun c => ?_)
    · have c := of_decide_eq_true c
      have hk : k1 < ns.length := by omega
      walk_at "r"
      refine ⟨a, _, _, _, rfl, rfl, hs, at_map hk, ?_⟩
      walk_at "r"
      exact k _
    · walk_at "r"
      refine ⟨⟨_, hs⟩, ?_⟩
      refine for_list (K := K) (a := a) (xs := ns.map V.int) (fun i σ H' => H' = H ∧ ∃ (g : Int) (v : Option V), σ = [some (.ref a), some (.int (k1 : Int)), some (.int g), v]) ⟨rfl, 0, none, rfl⟩ (fun i σ H' _ ⟨e, _⟩ => e ▸ hs) ?_ ?_
      · rintro i y σ H' hi ⟨rfl, g, v, rfl⟩
        obtain ⟨z, hz, rfl⟩ := int_at hi
        walk_at "r"
        exact ⟨_, _, rfl⟩
      · rintro σ H' ⟨rfl, g, v, rfl⟩
        walk_at "r"
        exact k _

end

section
variable {P : Program} {w : World} {K : PySem.W.Frag} {mg : Str → Option Value} {base : Heap} {A : Ad}
theorem ok_law_stream (T : Txt K mg A)  (g_law_cell : Okd P w K mg base CX0 1 A.law_cell P_law_cell (spCell K)) : Okd P w K mg base CX0 2 A.law_stream P_law_stream (spStrm K) := by
  obtain ⟨fd, F⟩ := T.d_law_stream
  obtain ⟨fd_law_cell, G_law_cell, b_law_cell⟩ := g_law_cell
  refine ⟨fd, F.ok sc_law_stream (fun vs H Q E h => ?_) (fun cdv A' outer s H vs Q E hr h => ?_), F.binds fun _ _ _ _ _ _ us hl => match us, hl with | [_, _], _ => rfl⟩
  · obtain ⟨a, ns, k1, rfl, _⟩ := h
    rfl
  · obtain ⟨a, ns, k1, rfl, hk, hs, k⟩ := h
    refine ⟨_, (pss_cons (ps_set (i := 2) sc_law_stream.nd rfl (Or.inl rfl) (pe_call G_law_cell (hr.mono (by decide)) (by rfl) T.g_law_cell T.k_law_cell b_law_cell .nil pass0 (pa_cons (pv 0) (pa_cons (pv 1) pa_nil))))
      (pss_cons (ps_set (i := 3) sc_law_stream.nd rfl (Or.inl rfl) pe_int)
      (pss_cons (ps_if (pt_cmpR op_ge (pv 2) (pe_op op_pow pe_int pe_int) (nomark _)) (pss_one (ps_set (i := 3) sc_law_stream.nd rfl (Or.inl rfl) (pv 2))) pss_nil)
      (pss_one (ps_ret (pe_lst (pa_cons (pv 3) (pa_cons (pe_op op_mod (pe_callTy call_int1 (by rfl) T.n_int (by decide +kernel) (pa_cons (pv 2) pa_nil)) pe_int) (pa_cons pe_int pa_nil))))))))), ?_⟩
    refine ⟨_, rfl, _, rfl, a, ns, k1, rfl, hk, hs, fun z => ?_⟩
    walk_at "r"
    refine ite_b (fun c => ?_) (fun c => ?_)
    · have c := of_decide_eq_true c
      walk_at "r"
      refine ⟨(by show 3 ≤ sizeLine; decide), fun b hb => ?_⟩
      exact k b _ hb (Ex.new hb) ⟨_, _, _, upd_same, Int.le_trans (by decide) c, Int.emod_nonneg _ (by decide), Int.emod_lt_of_pos _ (by decide), by decide⟩
    · walk_at "r"
      refine ⟨(by show 3 ≤ sizeLine; decide), fun b hb => ?_⟩
      exact k b _ hb (Ex.new hb) ⟨_, _, _, upd_same, by omega, Int.emod_nonneg _ (by decide), Int.emod_lt_of_pos _ (by decide), by decide⟩

end

section
variable {P : Program} {w : World} {K : PySem.W.Frag} {mg : Str → Option Value} {base : Heap} {A : Ad}
theorem ok_law_draw (T : Txt K mg A)   : Okd P w K mg base CX0 1 A.law_draw P_law_draw spDraw := by
  obtain ⟨fd, F⟩ := T.d_law_draw

  refine ⟨fd, F.ok sc_law_draw (fun vs H Q E h => ?_) (fun cdv A' outer s H vs Q E hr h => ?_), F.binds fun _ _ _ _ _ _ us hl => match us, hl with | [_, _], _ => rfl⟩
  · obtain ⟨b, n, rfl, _⟩ := h
    rfl
  · obtain ⟨b, n, rfl, n0, n1, B, k⟩ := h
    refine ⟨_, (pss_cons (ps_if (pt_cmpR op_gt (pe_ix ix_list (pv 0) pe_int (fun _ _ => rfl)) pe_int (nomark _)) (pss_cons (ps_set (i := 2) sc_law_draw.nd rfl (Or.inl rfl) (pe_op op_mod (pe_callTy call_int1 (by rfl) T.n_int (by decide +kernel) (pa_cons (pe_ix ix_list (pv 0) pe_int (fun _ _ => rfl)) pa_nil)) (pv 1)))
      (pss_cons (ps_asg (pe_op op_fdivW (pe_callTy call_int1 (by rfl) T.n_int (by decide +kernel) (pa_cons (pe_ix ix_list (pv 0) pe_int (fun _ _ => rfl)) pa_nil)) (pv 1)) (pg_sub (pv 0) pe_int set_list))
      (pss_one (ps_ret (pv 2))))) pss_nil)
      (pss_cons (ps_asg (pe_op op_add (pe_ix ix_list (pv 0) pe_int (fun _ _ => rfl)) pe_int) (pg_sub (pv 0) pe_int set_list))
      (pss_cons (ps_set (i := 3) sc_law_draw.nd rfl (Or.inl rfl) (pe_op op_mod (pe_callTy call_int1 (by rfl) T.n_int (by decide +kernel) (pa_cons (pe_op op_add (pe_op op_add (pe_op op_mul (pe_ix ix_list (pv 0) pe_int (fun _ _ => rfl)) pe_int) (pe_op op_mul (pe_ix ix_list (pv 0) pe_int (fun _ _ => rfl)) pe_int)) pe_int) pa_nil)) pe_int))
      (pss_cons (ps_set (i := 4) sc_law_draw.nd rfl (Or.inl rfl) (pe_op op_mod (pe_callTy call_int1 (by rfl) T.n_int (by decide +kernel) (pa_cons (pe_op op_add (pe_op op_add (pe_op op_mul (pv 3) (pv 3)) (pe_op op_mul (pe_ix ix_list (pv 0) pe_int (fun _ _ => rfl)) pe_int)) (pe_op op_fdivW (pv 3) pe_int)) pa_nil)) pe_int))
      (pss_one (ps_ret (pe_op op_mod (pe_callTy call_int1 (by rfl) T.n_int (by decide +kernel) (pa_cons (pe_op op_fdivW (pv 4) pe_int) pa_nil)) (pv 1)))))))), ?_⟩
    obtain ⟨r, s0, t0, hb, r0, s1, s2, t1⟩ := B
    walk_at "r"
    refine ite_b (fun c => ?_) (fun c => ?_)
    · have c := of_decide_eq_true c
      walk_at "r"
      exact k _ _ (Int.emod_nonneg _ (by omega)) (Int.emod_lt_of_pos _ n0) ⟨_, _, _, upd_same, Int.ediv_nonneg (by omega) (by omega), s1, s2, t1⟩ (Mut.upd (Mut.refl _ _))
    · walk_at "r"
      exact k _ _ (Int.emod_nonneg _ (by omega)) (Int.emod_lt_of_pos _ n0) ⟨r, s0, t0 + 1, upd_same, r0, s1, s2, by omega⟩ (Mut.upd (Mut.refl _ _))

end

section
variable {P : Program} {w : World} {K : PySem.W.Frag} {mg : Str → Option Value} {base : Heap} {A : Ad}
theorem ok_or_standard (T : Txt K mg A) (g_m_init : OkI P w K mg base A)  : Okd P w K mg base CX0 6 A.or_standard P_or_standard (spOrS A) := by
  obtain ⟨fd, F⟩ := T.d_or_standard
  obtain ⟨fd_m_init, G_m_init, WY⟩ := g_m_init
  obtain ⟨mv_none, kb_none⟩ := WY.k_none

  refine ⟨fd, F.ok sc_or_standard (fun vs H Q E h => ?_) (fun cdv A' outer s H vs Q E hr h => ?_), F.binds fun _ _ _ _ _ _ us hl => match us, hl with | [_], _ => rfl⟩
  · obtain ⟨v, bs, rfl, _⟩ := h
    rfl
  · obtain ⟨v, bs, rfl, RV, k⟩ := h
    refine ⟨_, (pss_one (ps_ret (pe_ifExp (pt_cmpR op_isN (pv 0) pe_non (nomark _)) (MkS.pe_makeS T.mkR G_m_init (hr.mono (by decide)) (by rfl) T.g_Rules kb_none (fun σ => L2N.passAt L2N.takes0N σ) pk_nil) (pv 0)))), ?_⟩
    rcases RV with ⟨rfl, rfl⟩ | ⟨a, c, rfl, R⟩
    · refine ⟨_, rfl, rfl, _, rfl, ?_⟩
      refine ⟨rfl, fun c dx hc hdx ndx => ?_⟩
      refine ⟨c, dx, _, _, _, _, _, rfl, (by decide), upd_same, fun _ cc H' hcc ncc old R => ⟨rfl, ?_⟩, fun i hi => ?_⟩
      · refine k c cc H' (fun b o ho => old b o (ne_of_none ho hc) ?_) R
        rw [upd_ne (ne_of_none ho hc), upd_ne (ne_of_none ho hdx)]
        exact ho
      · cases hi
    · refine ⟨_, rfl, rfl, _, rfl, ?_⟩
      exact ⟨_, rfl, k a c H (Ex.refl _) R⟩

end

section
variable {P : Program} {w : World} {K : PySem.W.Frag} {mg : Str → Option Value} {base : Heap} {A : Ad}
theorem bit_all : ((List.range 32).all fun v => (List.range 5).all fun i => Builtin.bitAnd (((v : Nat) : Int) / 2 ^ ((i : Nat) : Int).toNat) 1 == (((bitsOf v).getD i 0 : Nat) : Int)) = true := by decide +kernel
theorem bit_of {bs : List Nat} (B : Bits bs) (i : Nat) (hi : i < 5) : Builtin.bitAnd (((numF bs : Nat) : Int) / 2 ^ ((i : Nat) : Int).toNat) 1 = ((bs.getD i 0 : Nat) : Int) := by
  have := bit_all
  rw [List.all_eq_true] at this
  have := this _ (List.mem_range.mpr (num_lt B))
  rw [List.all_eq_true] at this
  have := this i (List.mem_range.mpr hi)
  rw [beq_iff_eq, bitsOf_num B] at this
  exact this
theorem ok_chosen (T : Txt K mg A)  (g_m_number : Okd P w K mg base CX0 1 A.m_number P_m_number (spNum A)) : Okd P w K mg base CX0 4 A.chosen P_chosen (spCho A) := by
  obtain ⟨fd, F⟩ := T.d_chosen
  obtain ⟨fd_m_number, G_m_number, b_m_number⟩ := g_m_number
  refine ⟨fd, F.ok sc_chosen (fun vs H Q E h => ?_) (fun cdv A' outer s H vs Q E hr h => ?_), F.binds fun _ _ _ _ _ _ us hl => match us, hl with | [_, _], _ => rfl⟩
  · obtain ⟨a, c, bs, i, rfl, _⟩ := h
    rfl
  · obtain ⟨a, c, bs, i, rfl, R, h1, h8, k⟩ := h
    refine ⟨_, (pss_cons (ps_if (pt_cmpR op_notIn_seq (pv 1) (ClX.pe_cval (pe_glob (v := .ref A.Rules) rfl T.g_Rules rfl)) (by with_unfolding_all rfl)) (pss_one (ps_ret pe_int)) pss_nil)
      (pss_one (ps_ret (pe_op op_and (pe_op op_shr (pe_prop (pv 0) T.cR T.pp_number G_m_number (hr.mono (by decide)) b_m_number .nil pass0 rfl) (pe_bm PySem.F.plainAttrs_tuple PySem.F.slot_tuple_index PySem.F.type_tuple_index mt_tup_index (ClX.pe_cval (pe_glob (v := .ref A.Rules) rfl T.g_Rules rfl)) (pa_cons (pv 1) pa_nil))) pe_int)))), ?_⟩
    have nm := T.tN
    have ix : ∀ j, j < 5 → (nm5[j]? = some (nm5.getD j "")) ∧ (∀ m, m < j → nm5[m]? ≠ some (nm5.getD j "")) := by decide
    refine ⟨_, rfl, A.Rules, _, _, _, rfl, T.rd, T.cv_NAMES, _, _, rfl, Or.inr (nm _), rfl, (by decide), _, rfl, ?_⟩
    have B := R.bits
    obtain ⟨o, l1, l2, l3⟩ := T.lN
    obtain ⟨dx, ha⟩ := R.at
    match i, h1, h8 with
    | 2, _, _ =>
      exact k H (Ex.refl _)
    | 3, _, _ =>
      refine ⟨_, rfl, a, dx, _, rfl, ha, a, c, bs, rfl, R, fun H1 e1 => ?_⟩
      refine ⟨A.Rules, _, _, _, rfl, T.rd, T.cv_NAMES, Or.inr (Or.inl ⟨rfl, o, l1, l2, l3⟩), ?_⟩
      refine ⟨_, rfl, A.NAMES, nm5, _, 0, rfl, rfl, nm _, (ix 0 (by decide)).1, (ix 0 (by decide)).2, ?_⟩
      refine ⟨_, _, rfl, rfl, (by show (0 : Int) ≤ ((0 : Nat) : Int); omega), _, _, rfl, rfl, ?_⟩
      have := k H1 e1
      show Q (V.int (Builtin.bitAnd (((numF bs : Nat) : Int) / 2 ^ ((0 : Nat) : Int).toNat) 1)) H1
      rw [bit_of B 0 (by decide)]
      exact this
    | 4, _, _ =>
      refine ⟨_, rfl, a, dx, _, rfl, ha, a, c, bs, rfl, R, fun H1 e1 => ?_⟩
      refine ⟨A.Rules, _, _, _, rfl, T.rd, T.cv_NAMES, Or.inr (Or.inl ⟨rfl, o, l1, l2, l3⟩), ?_⟩
      refine ⟨_, rfl, A.NAMES, nm5, _, 1, rfl, rfl, nm _, (ix 1 (by decide)).1, (ix 1 (by decide)).2, ?_⟩
      refine ⟨_, _, rfl, rfl, (by show (0 : Int) ≤ ((1 : Nat) : Int); omega), _, _, rfl, rfl, ?_⟩
      have := k H1 e1
      show Q (V.int (Builtin.bitAnd (((numF bs : Nat) : Int) / 2 ^ ((1 : Nat) : Int).toNat) 1)) H1
      rw [bit_of B 1 (by decide)]
      exact this
    | 5, _, _ =>
      refine ⟨_, rfl, a, dx, _, rfl, ha, a, c, bs, rfl, R, fun H1 e1 => ?_⟩
      refine ⟨A.Rules, _, _, _, rfl, T.rd, T.cv_NAMES, Or.inr (Or.inl ⟨rfl, o, l1, l2, l3⟩), ?_⟩
      refine ⟨_, rfl, A.NAMES, nm5, _, 2, rfl, rfl, nm _, (ix 2 (by decide)).1, (ix 2 (by decide)).2, ?_⟩
      refine ⟨_, _, rfl, rfl, (by show (0 : Int) ≤ ((2 : Nat) : Int); omega), _, _, rfl, rfl, ?_⟩
      have := k H1 e1
      show Q (V.int (Builtin.bitAnd (((numF bs : Nat) : Int) / 2 ^ ((2 : Nat) : Int).toNat) 1)) H1
      rw [bit_of B 2 (by decide)]
      exact this
    | 6, _, _ =>
      refine ⟨_, rfl, a, dx, _, rfl, ha, a, c, bs, rfl, R, fun H1 e1 => ?_⟩
      refine ⟨A.Rules, _, _, _, rfl, T.rd, T.cv_NAMES, Or.inr (Or.inl ⟨rfl, o, l1, l2, l3⟩), ?_⟩
      refine ⟨_, rfl, A.NAMES, nm5, _, 3, rfl, rfl, nm _, (ix 3 (by decide)).1, (ix 3 (by decide)).2, ?_⟩
      refine ⟨_, _, rfl, rfl, (by show (0 : Int) ≤ ((3 : Nat) : Int); omega), _, _, rfl, rfl, ?_⟩
      have := k H1 e1
      show Q (V.int (Builtin.bitAnd (((numF bs : Nat) : Int) / 2 ^ ((3 : Nat) : Int).toNat) 1)) H1
      rw [bit_of B 3 (by decide)]
      exact this
    | 7, _, _ =>
      refine ⟨_, rfl, a, dx, _, rfl, ha, a, c, bs, rfl, R, fun H1 e1 => ?_⟩
      refine ⟨A.Rules, _, _, _, rfl, T.rd, T.cv_NAMES, Or.inr (Or.inl ⟨rfl, o, l1, l2, l3⟩), ?_⟩
      refine ⟨_, rfl, A.NAMES, nm5, _, 4, rfl, rfl, nm _, (ix 4 (by decide)).1, (ix 4 (by decide)).2, ?_⟩
      refine ⟨_, _, rfl, rfl, (by show (0 : Int) ≤ ((4 : Nat) : Int); omega), _, _, rfl, rfl, ?_⟩
      have := k H1 e1
      show Q (V.int (Builtin.bitAnd (((numF bs : Nat) : Int) / 2 ^ ((4 : Nat) : Int).toNat) 1)) H1
      rw [bit_of B 4 (by decide)]
      exact this

end

section
variable {P : Program} {w : World} {K : PySem.W.Frag} {mg : Str → Option Value} {base : Heap} {A : Ad}
theorem ok_choices (T : Txt K mg A) (hC : ChK w K A.CHOICES)  : Okd P w K mg base CX0 1 A.choices P_choices spChs := by
  obtain ⟨fd, F⟩ := T.d_choices

  refine ⟨fd, F.ok sc_choices (fun vs H Q E h => ?_) (fun cdv A' outer s H vs Q E hr h => ?_), F.binds fun _ _ _ _ _ _ us hl => match us, hl with | [_, _], _ => rfl⟩
  · obtain ⟨t, i, ms, rfl, _⟩ := h
    rfl
  · obtain ⟨t, i, ms, rfl, h1, h8, ht, hl, k⟩ := h
    refine ⟨_, (pss_cons (ps_set (i := 2) sc_choices.nd rfl (Or.inl rfl) (pe_lst pa_nil))
      (pss_cons (ps_for PassesOwn.never rfl (pi_tup (pe_ix ix_kdict (pe_glob (v := .ref A.CHOICES) rfl T.g_CHOICES rfl) (pv 0) (fun _ _ => rfl))) (pg_name (i := 3) sc_choices.nd rfl (Or.inl rfl)) (pss_one (ps_expr (pe_bm PySem.F.plainAttrs_list PySem.F.slot_list_append PySem.F.type_list_append mt_append (pv 2) (pa_cons (pe_lc (own := [("record", 5), ("place", 4)]) (g := gTup K 2 (gCons (gName 5) (gCons (gName 4) gNil))) (tt := tYes) (by rfl) sc_choices.nd (RZ.pi_zipA (by rfl) T.n_zip (pa_cons (pv 1) (pa_cons (pv 3) pa_nil))) (blkOk_by (own := [("record", 5), ("place", 4)]) (N := N_choices) (sc := defScope s_choices) (by decide +kernel)) (fun _ _ _ _ _ => (pg_tup (by rfl) (pgs_cons (pg_name (i := 5) sc_choices.nd rfl (Or.inl rfl)) (pgs_cons (pg_name (i := 4) sc_choices.nd rfl (Or.inl rfl)) pgs_nil)))) (fun _ _ _ _ _ => pts_nil) (fun _ _ _ _ _ => (pe_tup (pa_cons (pv 5) (pa_cons (pe_ix (ix_tupK (K := K) rfl) (pv 1) (pv 4) (fun _ _ => rfl)) pa_nil))))) pa_nil)))))
      (pss_one (ps_ret (pv 2))))), ?_⟩
    obtain ⟨pp, p0, p1, hp, hv, h0, hq1⟩ := hC.yes i h1 h8
    have kd : KDct K w A.CHOICES (word i) (.ref pp) := ⟨hC.es, hC.n, _, hC.kd.at_, hC.kd.lit, hp, rfl⟩
    have F2 := (pm_facts h8 h1).2
    have hm4 : ms.length ≤ 4 := by rw [hl]; exact fl_le
    refine ⟨Nat.zero_le _, fun D hD => ?_⟩
    refine ⟨_, rfl, A.CHOICES, _, _, rfl, rfl, kd, ?_⟩
    refine ⟨pp, rfl, ⟨_, hv _⟩, for_tup (K := K) (a := pp) (xs := [.ref p0, .ref p1]) (fun j σ G => ∃ (v3 v4 v5 : Option V) (qs : List Addr), σ = [some (.str (word i)), some (.ref t), some (.ref D), v3, v4, v5] ∧ Ex H G ∧ G D = some (.lst (qs.map V.ref)) ∧ qs.length = j ∧ ∀ u q, qs[u]? = some q → Prs G q ms (chF i u)) ⟨none, none, none, [], rfl, Ex.new hD, upd_same, rfl, fun u q z => by cases z⟩ (fun j σ G _ _ => hv _) ?_ ?_⟩
    · rintro j x σ G hj ⟨v3, v4, v5, qs, rfl, e, hd, hq, hP⟩
      have hx : j < 2 ∧ ∃ pj, x = .ref pj ∧ ∀ G, SqT K G pj (nI (chF i j)) := by
        match j, hj with
        | 0, hj => exact ⟨by omega, p0, (Option.some.inj hj).symm, h0⟩
        | 1, hj => exact ⟨by omega, p1, (Option.some.inj hj).symm, hq1⟩
      obtain ⟨hj2, pj, rfl, hpj⟩ := hx
      obtain ⟨L1, L2⟩ := F2 j hj2
      have hz : ms.length = min (nI ms).length (nI (chF i j)).length := by rw [nI_len, nI_len]; omega
      have nDt : D ≠ t := fun z => by rw [z, ht] at hD; cases hD
      refine ⟨_, rfl, Or.inl ⟨rfl, _, SqL.of hd⟩, ?_⟩
      refine ⟨_, rfl, _, rfl, t, pj, _, _, rfl, Or.inr ⟨SqT.of (e _ _ ht), hpj _, fun D1 hD1 => ?_⟩⟩
      have nD1 : D1 ≠ D := fun z => by rw [z, hd] at hD1; cases hD1
      have hD1H := back_none e hD1
      refine lc_it (RZ.walk_zipT hz) (fun j H' => Ex G H' ∧ ∃ ts : List Addr, H' D1 = some (.lst (ts.map V.ref)) ∧ ts.length = j ∧ ∀ u a, ts[u]? = some a → H' a = some (.tup [.int (ms.getD u 0 : Nat), .int (ms.getD ((chF i (qs.length)).getD u 0) 0 : Nat)])) ⟨Ex.new hD1, [], upd_same, rfl, fun u a z => by cases z⟩ (fun j H' _ z => ⟨SqT.of (z.1 _ _ (e _ _ ht)), hpj _⟩) ?_ ?_
      · rintro u x H' H2 hu ⟨e1, ts, hDl, htl, hts⟩ ⟨T0, y1, y2, rfl, hT, rfl, q1, q2⟩
        obtain ⟨hu1, rfl⟩ := nat_at q1
        obtain ⟨hu2, rfl⟩ := nat_at q2
        rw [hq]
        refine ⟨T0, _, rfl, SqT.of upd_same, rfl, _, _, rfl, _, _, rfl, rfl, ?_⟩
        refine ⟨rfl, _, rfl, ?_⟩
        have hlt : (chF i j).getD u 0 < ms.length := by rw [hl]; exact L2 _ (getD_mem hu2)
        have eT := Ex.new (o := .tup [V.int ((ms.getD u 0 : Nat) : Int), V.int (((chF i j).getD u 0 : Nat) : Int)]) hT
        refine ⟨_, rfl, _, rfl, t, _, _, _, rfl, rfl, SqT.of (eT _ _ (e1 _ _ (e _ _ ht))), atN hlt, ?_⟩
        refine ⟨(by show 2 ≤ sizeLine; decide), fun p hp => ?_⟩
        have eP := Ex.new (o := .tup [V.int ((ms.getD u 0 : Nat) : Int), V.int ((ms.getD ((chF i j).getD u 0) 0 : Nat) : Int)]) hp
        have npD : p ≠ D1 := Ne.symm (ne_of_none (eT _ _ hDl) hp)
        refine ⟨_, eP _ _ (eT _ _ hDl), small1000 (by rw [List.length_map]; omega), ?_, ts ++ [p], by rw [upd_same, List.map_append]; rfl, by rw [List.length_append, htl]; rfl, fun z a hz2 => ?_⟩
        · exact fun b o ho => by
            rw [upd_ne (ne_of_none ho hD1)]
            exact eP _ _ (eT _ _ (e1 _ _ ho))
        by_cases hlt2 : z < u
        · rw [List.getElem?_append_left (by omega)] at hz2
          have hu := hts z a hz2
          rw [hq] at hu
          have nu : a ≠ D1 := fun zz => by rw [zz, hDl] at hu; cases hu
          rw [upd_ne nu]
          exact eP _ _ (eT _ _ hu)
        · by_cases hji : z = u
          · subst hji
            rw [List.getElem?_append_right (by omega), htl, Nat.sub_self] at hz2
            have hz2 := Option.some.inj hz2
            subst hz2
            rw [upd_ne npD, upd_same]
          · rw [List.getElem?_eq_none (by rw [List.length_append, htl]; simp; omega)] at hz2
            cases hz2
      · rintro H1 ⟨e1, ts, hDl, htl, hts⟩
        have hd1 := e1 _ _ hd
        refine ⟨_, _, _, rfl, rfl, hd1, small1000 (by rw [List.length_map]; omega), ?_⟩
        refine ⟨_, _, _, qs ++ [D1], rfl, ?_, by rw [upd_same, List.map_append]; rfl, by rw [List.length_append, hq]; rfl, fun u q hu => ?_⟩
        · exact fun b o ho => by
            rw [upd_ne (ne_of_none ho hD)]
            exact e1 _ _ (e _ _ ho)
        · have keep : ∀ a o, a ≠ D → H1 a = some o → upd H1 D (.lst (List.map V.ref qs ++ [V.ref D1])) a = some o := fun a o na ho => by rw [upd_ne na]; exact ho
          have prs : ∀ q' c, q' ≠ D → Prs H1 q' ms c → Prs (upd H1 D (.lst (List.map V.ref qs ++ [V.ref D1]))) q' ms c := fun q' c nq ⟨ts, a1, a2, a3⟩ => ⟨ts, keep _ _ nq a1, a2, fun i t z => keep _ _ (fun zz => by
            have := a3 i t z
            rw [zz, hd1] at this
            cases this) (a3 i t z)⟩
          by_cases hlt2 : u < j
          · rw [List.getElem?_append_left (by omega)] at hu
            have hp1 := hP u q hu
            have nq : q ≠ D := fun zz => by
              obtain ⟨ts, a1, a2, a3⟩ := hp1
              subst zz
              rw [hd] at a1
              have a1 : qs = ts := by
                have := HO.lst.inj (Option.some.inj a1)
                exact List.map_inj_right (fun _ _ z => V.ref.inj z) |>.mp this
              subst a1
              have := a3 u q hu
              rw [hd] at this
              cases this
            exact prs q _ nq (hp1.ex e1)
          · by_cases hji : u = j
            · subst hji
              rw [List.getElem?_append_right (by omega), hq, Nat.sub_self] at hu
              have hu := Option.some.inj hu
              subst hu
              rw [hq] at hts
              exact prs _ _ nD1 ⟨ts, hDl, htl, hts⟩
            · rw [List.getElem?_eq_none (by rw [List.length_append, hq]; simp; omega)] at hu
              cases hu
    · rintro σ G ⟨v3, v4, v5, qs, rfl, e, hd, hq, hP⟩
      match qs, hq with
      | [q0, q1], _ =>
        exact ⟨_, rfl, k D q0 q1 G hD e hd (hP 0 q0 rfl) (hP 1 q1 rfl)⟩

end

section
variable {P : Program} {w : World} {K : PySem.W.Frag} {mg : Str → Option Value} {base : Heap} {A : Ad}
theorem mend_nil {f : Nat → Nat} {ys : List Nat} : Mend f ys [] ys := ⟨rfl, fun b hb => by (cases hb), fun _ _ => rfl⟩
theorem mend_step {f : Nat → Nat} {ys zs : List Nat} {bs : List Bk} {b : Bk} (M : Mend f ys bs zs) (nd : b.2.Nodup) (lt : ∀ x ∈ b.2, x < ys.length) (dis : ∀ c ∈ bs, ∀ x ∈ c.2, x ∉ b.2) (ht : torn b = true) : Mend f ys (bs ++ [b]) (fill zs b.2 (chF b.1 (f b.1)) b.2.length) := by
  have hl := M.len
  refine ⟨by rw [fill_len]; exact hl, fun c hc tc j hj => ?_, fun x hx => ?_⟩
  · rcases List.mem_append.mp hc with hc | hc
    · rw [fill_out (dis c hc _ (getD_mem hj)) _ (Nat.le_refl _)]
      exact M.at_ c hc tc j hj
    · rw [List.mem_singleton.mp hc] at hj ⊢
      exact fill_in nd (fun x hx => by rw [hl]; exact lt x hx) _ (Nat.le_refl _) j hj
  · rw [fill_out (hx b (List.mem_append_right _ (List.mem_singleton.mpr rfl)) ht) _ (Nat.le_refl _)]
    exact M.out x fun c hc tc => hx c (List.mem_append_left _ hc) tc
theorem mend_all {f : Nat → Nat} {ys zs : List Nat} {bs : List Bk} (M : Mend f ys (bs.filter torn) zs) : Mend f ys bs zs :=
  ⟨M.len, fun b hb ht => M.at_ b (List.mem_filter.mpr ⟨hb, ht⟩) ht, fun x hx => M.out x fun b hb ht => hx b (List.mem_filter.mp hb).1 ht⟩
theorem dis_take {bs : List Bk} (nd : (bs.flatMap (·.2)).Nodup) {i : Nat} (hi : i < bs.length) : ∀ c ∈ bs.take i, ∀ x ∈ c.2, x ∉ bs[i].2 := by
  intro c hc x hx hb
  have d := disj_of nd
  obtain ⟨j, hj, rfl⟩ := List.getElem_of_mem hc
  rw [List.length_take] at hj
  rw [List.getElem_take] at hx
  exact List.pairwise_iff_getElem.mp d j i (by omega) hi (by omega) x hx x hb rfl
theorem chB_lt {bs : List Nat} (B : Bits bs) (w : Nat) : chB bs w < 2 := by
  have g : ∀ i, i < 5 → bs.getD i 0 < 2 := fun i hi => B.two _ (getD_mem (by rw [B.len]; exact hi))
  unfold chB
  split
  all_goals first | exact g _ (by decide) | decide
theorem fill_ge {ys seg f : List Nat} : ∀ k, (fill ys seg f k).length = ys.length := fill_len
theorem flat_sub {bs cs : List Bk} (h : bs.Sublist cs) : (bs.flatMap (·.2)).Sublist (cs.flatMap (·.2)) := by
  induction h with
  | slnil => exact List.Sublist.refl _
  | cons a _ ih =>
    rw [List.flatMap_cons]
    exact ih.trans (List.sublist_append_right _ _)
  | cons_cons a _ ih =>
    rw [List.flatMap_cons, List.flatMap_cons]
    exact List.Sublist.append (List.Sublist.refl _) ih
def OkdR (P : Program) (w : World) (K : PySem.W.Frag) (mg : Str → Option Value) (base : Heap) (A : Ad) : Prop :=
  ∃ fd, FnOk P w K mg base CX0 7 A.repair fd P_repair (spRpr A) ∧ (∃ ds, Vals [V.non] ds ∧ Binds K fd P_repair ds) ∧ ∃ ds, Vals [] ds ∧ Binds K fd P_repair ds
theorem rep_ways {K : PySem.W.Frag} {f : Addr} {fd : FuncData} (F : FunD K "repair" "repair" (defArgs s_repair) (defBody s_repair) (defScope s_repair) [V.non] [] f fd) :
    (∃ ds, Vals [V.non] ds ∧ Binds K fd P_repair ds) ∧ ∃ ds, Vals [] ds ∧ Binds K fd P_repair ds := by
  refine ⟨F.binds1 1 0 (by simp) rfl ?_, F.binds1 2 1 (by simp) rfl ?_⟩
  · intro T kV doc pm an cdv ct us its l1 l2
    match us, l1, its, l2 with
    | [u], _, [v], _ => exact ⟨_, rfl, rfl⟩
  · intro T kV doc pm an cdv ct us its l1 l2
    match us, l1, its, l2 with
    | [u, u2], _, [v], _ => exact ⟨_, rfl, rfl⟩
theorem ok_repair (T : Txt K mg A)  (g_or_standard : Okd P w K mg base CX0 6 A.or_standard P_or_standard (spOrS A)) (g_torn_pieces : Okd P w K mg base CX0 4 A.torn_pieces P_torn_pieces spTorn) (g_choices : Okd P w K mg base CX0 1 A.choices P_choices spChs) (g_chosen : Okd P w K mg base CX0 4 A.chosen P_chosen (spCho A)) : OkdR P w K mg base A := by
  obtain ⟨fd, F⟩ := T.d_repair
  obtain ⟨fd_or_standard, G_or_standard, b_or_standard⟩ := g_or_standard
  obtain ⟨fd_torn_pieces, G_torn_pieces, b_torn_pieces⟩ := g_torn_pieces
  obtain ⟨fd_choices, G_choices, b_choices⟩ := g_choices
  obtain ⟨fd_chosen, G_chosen, b_chosen⟩ := g_chosen
  refine ⟨fd, F.ok sc_repair (fun vs H Q E h => ?_) (fun cdv A' outer s H vs Q E hr h => ?_), rep_ways F⟩
  · obtain ⟨a, v, ys, rb, bs, rfl, _⟩ := h
    rfl
  · obtain ⟨a, v, ys, rb, bs, rfl, hx, hG, RV, k⟩ := h
    refine ⟨_, PSs.nox (pss_cons (ps_set (i := 1) sc_repair.nd rfl (Or.inl rfl) (pe_call G_or_standard (hr.mono (by decide)) (by rfl) T.g_or_standard T.k_or_standard b_or_standard .nil pass0 (pa_cons (pv 1) pa_nil)))
      (pss_cons (ps_set (i := 2) sc_repair.nd rfl (Or.inl rfl) (pe_callTy call_list_of (by rfl) T.n_list (by decide +kernel) (pa_cons (pv 0) pa_nil)))
      (pss_cons (ps_for PassesOwn.never rfl (pi_list (pe_call G_torn_pieces (hr.mono (by decide)) (by rfl) T.g_torn_pieces T.k_torn_pieces b_torn_pieces .nil pass0 (pa_cons (pv 0) pa_nil))) (pg_tup (by rfl) (pgs_cons (pg_name (i := 3) sc_repair.nd rfl (Or.inl rfl)) (pgs_cons (pg_name (i := 4) sc_repair.nd rfl (Or.inl rfl)) pgs_nil))) (pss_one (ps_for PassesOwn.never rfl (pi_list (pe_ix ix_list (pe_call G_choices (hr.mono (by decide)) (by rfl) T.g_choices T.k_choices b_choices .nil pass0 (pa_cons (pv 3) (pa_cons (pv 4) pa_nil))) (pe_call G_chosen (hr.mono (by decide)) (by rfl) T.g_chosen T.k_chosen b_chosen .nil pass0 (pa_cons (pv 1) (pa_cons (pv 3) pa_nil))) (fun _ _ => rfl))) (pg_tup (by rfl) (pgs_cons (pg_name (i := 5) sc_repair.nd rfl (Or.inl rfl)) (pgs_cons (pg_name (i := 6) sc_repair.nd rfl (Or.inl rfl)) pgs_nil))) (pss_one (ps_asg (pv 6) (pg_sub (pv 2) (pv 5) set_list))))))
      (pss_one (ps_ret (pv 2)))))), ?_⟩
    have hB := hG.built
    have h64 := hG.few
    refine ⟨_, rfl, v, rb, rfl, RV, fun ra rc H1 e1 R1 => ?_⟩
    have B := R1.bits
    refine ⟨_, rfl, a, _, rfl, Or.inl (hx.ex e1).sz, fun p hp => ?_⟩
    have hx1 : ListN (upd H1 p (.lst (nI ys))) a ys := (hx.ex e1).ex (Ex.new hp)
    have hpp : ListN (upd H1 p (.lst (nI ys))) p ys := upd_same
    have eH1 : Ex H1 (upd H1 p (.lst (nI ys))) := Ex.new hp
    generalize upd H1 p (.lst (nI ys)) = H2 at hx1 hpp eH1 ⊢
    refine ⟨_, rfl, a, ys, bs, rfl, hx1, hG, fun q H3 hq e3 ⟨qs, hQ, hql, hqa⟩ => ?_⟩
    have hp3 := hpp.ex e3
    have e13 := eH1.trans e3
    have R3 := R1.ex e13
    have nqp : q ≠ p := fun z => by rw [z, hpp] at hq; cases hq
    have hpH : H p = none := back_none e1 hp
    refine ⟨q, rfl, ⟨_, SqL.of hQ⟩, for_list (K := K) (a := q) (xs := qs.map V.ref) (fun i σ G => ∃ (v3 v4 v5 v6 : Option V) (zs : List Nat), σ = [some (.ref a), some (.ref ra), some (.ref p), v3, v4, v5, v6] ∧ Mut p H3 G ∧ ListN G p zs ∧ Mend (chB rb) ys ((bs.filter torn).take i) zs)
      ⟨none, none, none, none, ys, rfl, Mut.refl p H3, hp3, mend_nil⟩ (fun i σ G _ ⟨_, _, _, _, _, _, M, _⟩ => SqL.of (M q _ nqp hQ)) ?_ ?_⟩
    · rintro i x σ G hi ⟨v3, v4, v5, v6, zs, rfl, M, hz, MM⟩
      rw [List.getElem?_map] at hi
      cases hgi : qs[i]? with
      | none => rw [hgi] at hi; cases hi
      | some qi =>
      rw [hgi] at hi
      injection hi with hi
      subst hi
      have hib : i < (bs.filter torn).length := by
        have : qs.length = (bs.filter torn).length := hql
        rw [← this]
        exact (List.getElem?_eq_some_iff.mp hgi).1
      have hbi : (bs.filter torn)[i]? = some (bs.filter torn)[i] := List.getElem?_eq_getElem hib
      obtain ⟨t, hq1, hq2⟩ := hqa i qi _ hgi hbi
      have ndt : ((bs.filter torn).flatMap (·.2)).Nodup := hB.nd.sublist (flat_sub List.filter_sublist)
      have hmem : (bs.filter torn)[i] ∈ bs.filter torn := List.getElem_mem hib
      have dis := dis_take ndt hib
      have tk : (bs.filter torn).take (i + 1) = (bs.filter torn).take i ++ [(bs.filter torn)[i]] := takeB hbi
      rw [tk]
      generalize (bs.filter torn)[i] = b at hq1 hq2 hmem dis ⊢
      obtain ⟨hbb, htb⟩ := List.mem_filter.mp hmem
      have Q1 := hB.blk b hbb
      have h1 : 1 < b.1 := of_decide_eq_true htb
      have h8 := Q1.w
      have nqi : qi ≠ p := fun z => by rw [z, hp3] at hq1; cases hq1
      have ntp : t ≠ p := fun z => by rw [z, hp3] at hq2; cases hq2
      refine ⟨qi, _, rfl, SqT.of (M qi _ nqi hq1), rfl, _, _, rfl, _, _, rfl, rfl, ?_⟩
      have RG : Ru A G ra rc rb := R3.keep (fun o ho => M ra o (fun z => by
        obtain ⟨dx, kvs, g1, g2, _⟩ := R3
        rw [z, hp3] at g1
        cases g1) ho) (fun o ho => M rc o (fun z => by
        obtain ⟨dx, kvs, g1, g2, _⟩ := R3
        rw [z, hp3] at g2
        cases g2) ho)
      refine ⟨_, rfl, _, rfl, t, b.1, b.2, rfl, h1, h8, M t _ ntp hq2, Q1.len, fun c c0 c1 H4 hc e4 hcl P0 P1 => ?_⟩
      refine ⟨_, rfl, _, rfl, ra, rc, rb, b.1, rfl, RG.ex e4, h1, h8, fun H5 e5 => ?_⟩
      have e45 := e4.trans e5
      have hc2 := chB_lt B b.1
      have hcc : ∃ cc, atI [V.ref c0, V.ref c1] ((chB rb b.1 : Nat) : Int) = some (.ref cc) ∧ Prs H5 cc b.2 (chF b.1 (chB rb b.1)) := by
        have : chB rb b.1 = 0 ∨ chB rb b.1 = 1 := by omega
        rcases this with z | z
        · rw [z]
          exact ⟨c0, rfl, P0.ex e5⟩
        · rw [z]
          exact ⟨c1, rfl, P1.ex e5⟩
      obtain ⟨cc, hat, us, hu1, hu2, hu3⟩ := hcc
      have hz5 := hz.ex e45
      have ncp : cc ≠ p := fun z => by
        subst z
        rw [hz5] at hu1
        have hu1 := HO.lst.inj (Option.some.inj hu1)
        match zs, us, hu1 with
        | [], [], _ =>
          have h3 : b.2.length = (form b.1).length := Q1.len
          have := form_len b.1
          simp at hu2
          omega
        | z1 :: _, u1 :: _, h => cases h
      refine ⟨c, _, _, _, rfl, rfl, SqL.of (e5 _ _ hcl), hat, ?_⟩
      refine ⟨cc, rfl, ⟨_, SqL.of hu1⟩, for_list (K := K) (a := cc) (xs := us.map V.ref) (fun j σ G' => ∃ (v5 v6 : Option V), σ = [some (.ref a), some (.ref ra), some (.ref p), some (.str (word b.1)), some (.ref t), v5, v6] ∧ Mut p H5 G' ∧ ListN G' p (fill zs b.2 (chF b.1 (chB rb b.1)) j))
        ⟨_, _, rfl, Mut.refl p H5, hz5⟩ (fun j σ G' _ ⟨_, _, _, M', _⟩ => SqL.of (M' cc _ ncp hu1)) ?_ ?_⟩
      · rintro j x σ G' hj ⟨v5, v6, rfl, M', hz'⟩
        rw [List.getElem?_map] at hj
        cases hgj : us[j]? with
        | none => rw [hgj] at hj; cases hj
        | some u =>
        rw [hgj] at hj
        injection hj with hj
        subst hj
        have hju : j < b.2.length := by rw [← hu2]; exact (List.getElem?_eq_some_iff.mp hgj).1
        have hu := hu3 j u hgj
        have nup : u ≠ p := fun z => by rw [z, hz5] at hu; cases hu
        refine ⟨u, _, rfl, SqT.of (M' u _ nup hu), rfl, _, _, rfl, _, _, rfl, rfl, ?_⟩
        have hlt : b.2.getD j 0 < (nI (fill zs b.2 (chF b.1 (chB rb b.1)) j)).length := by
          rw [nI_len, fill_len, MM.len]
          exact hB.lt hbb (getD_mem hju)
        refine ⟨_, rfl, _, rfl, _, rfl, p, _, _, b.2.getD j 0, rfl, rfl, hz', Evl.ixN_nat hlt, ?_⟩
        refine ⟨_, _, rfl, ?_, ?_⟩
        · intro d o hd ho
          rw [upd_ne hd]
          exact M' d o hd ho
        · show upd G' p _ p = _
          rw [upd_same]
          show _ = some (HO.lst (nI ((fill zs b.2 (chF b.1 (chB rb b.1)) j).set (b.2.getD j 0) (b.2.getD ((chF b.1 (chB rb b.1)).getD j 0) 0))))
          unfold nI
          rw [List.map_set]
      · rintro σ G' ⟨v5, v6, rfl, M', hz'⟩
        rw [List.length_map, hu2] at hz'
        refine ⟨_, _, _, _, _, rfl, fun d o hd ho => M' d o hd (e45 d o (M d o hd ho)), hz', ?_⟩
        exact mend_step MM (nd_of hB.nd hbb) (fun x hx => hB.lt hbb hx) dis htb
    · rintro σ G ⟨v3, v4, v5, v6, zs, rfl, M, hz, MM⟩
      rw [List.length_map, hql] at MM
      have MM : Mend (chB rb) ys ((bs.filter torn).take (bs.filter torn).length) zs := MM
      rw [List.take_length] at MM
      refine ⟨_, rfl, k p zs G hpH (fun d o ho => M d o (ne_of_none ho hpH) (e13 d o (e1 d o ho))) hz (mend_all MM)⟩

end

section
variable {P : Program} {w : World} {K : PySem.W.Frag} {mg : Str → Option Value} {base : Heap} {A : Ad}
theorem ok_law_same (T : Txt K mg A)  (g_law_integer : Okd P w K mg base CX0 1 A.law_integer P_law_integer spInt) : Okd P w K mg base CX0 2 A.law_same P_law_same spSm := by
  obtain ⟨fd, F⟩ := T.d_law_same
  obtain ⟨fd_law_integer, G_law_integer, b_law_integer⟩ := g_law_integer
  refine ⟨fd, F.ok sc_law_same (fun vs H Q E h => ?_) (fun cdv A' outer s H vs Q E hr h => ?_), F.binds fun _ _ _ _ _ _ us hl => match us, hl with | [_, _], _ => rfl⟩
  · obtain ⟨t, d, xs, rfl, _⟩ := h
    rfl
  · obtain ⟨t, d, xs, rfl, ht, hd, h64, k⟩ := h
    refine ⟨_, (pss_cons (ps_if (PW.pt (pw_or (pt_not (pt_val (pe_callB call_isi (by rfl) T.n_isinstance (by decide +kernel) (pa_cons (pv 0) (pa_cons (pe_bltn (v := .ty "list") (u := .type "list") (by rfl) T.n_list (by decide +kernel) rfl) pa_nil))))) (pw_or1 (pt_cmpR op_ne (pe_callB call_len_seq (by rfl) T.n_len PySem.boot_len (pa_cons (pv 0) pa_nil)) (pe_callB call_len_seq (by rfl) T.n_len PySem.boot_len (pa_cons (pv 1) pa_nil)) (nomark _))))) (pss_one (ps_ret pe_bl)) pss_nil)
      (pss_cons (ps_for PassesOwn.never rfl (pi_range1 (by rfl) T.n_range (pa_cons (pe_callB call_len_seq (by rfl) T.n_len PySem.boot_len (pa_cons (pv 1) pa_nil)) pa_nil)) (pg_name (i := 2) sc_law_same.nd rfl (Or.inl rfl)) (pss_one (ps_if (PW.pt (pw_or (pt_not (pt_val (pe_call G_law_integer (hr.mono (by decide)) (by rfl) T.g_law_integer T.k_law_integer b_law_integer .nil pass0 (pa_cons (pe_ix ix_list (pv 0) (pv 2) (fun _ _ => rfl)) pa_nil)))) (pw_or1 (pt_cmpR op_ne (pe_ix ix_list (pv 0) (pv 2) (fun _ _ => rfl)) (pe_ix ix_list (pv 1) (pv 2) (fun _ _ => rfl)) (nomark _))))) (pss_one (ps_ret pe_bl)) pss_nil)))
      (pss_one (ps_ret pe_bl)))), ?_⟩
    refine ⟨_, rfl, _, _, _, _, true, rfl, ClsV.ty "list", TyX.base (TyOf.lst ht), kit_ty (by decide +kernel), ?_⟩
    refine ⟨true, rfl, ?_⟩
    refine ⟨_, rfl, t, _, rfl, .inl ht.sz, _, rfl, d, _, rfl, .inl hd.sz, rfl, _, rfl, ?_⟩
    rw [show (!decide (V.int ((nI xs).length : Nat) = V.int ((nI xs).length : Nat))) = false from by simp]
    refine ⟨_, rfl, d, _, rfl, .inl hd.sz, _, rfl, by rw [nI_len]; omega, by rw [nI_len]; omega, ?_⟩
    rw [nI_len, Int.toNat_natCast]
    refine for_range (lo := 0) (n := xs.length) (fun i σ G => ∃ v2, σ = [some (.ref t), some (.ref d), v2] ∧ Ex H G) ⟨none, rfl, Ex.refl H⟩ ?_ ?_
    · rintro i σ G hi ⟨v2, rfl, e⟩
      rw [Int.zero_add]
      refine ⟨_, rfl, _, rfl, t, _, _, _, rfl, rfl, (ht.ex e).sz, atN hi, _, rfl, ?_⟩
      refine ⟨true, rfl, ?_⟩
      refine ⟨_, rfl, _, rfl, t, _, _, _, rfl, rfl, (ht.ex e).sz, atN hi, _, rfl, _, rfl, d, _, _, _, rfl, rfl, (hd.ex e).sz, atN hi, rfl, _, rfl, ?_⟩
      rw [show (!decide (V.int ((xs.getD i 0 : Nat) : Int) = V.int ((xs.getD i 0 : Nat) : Int))) = false from by simp]
      exact ⟨_, rfl, e⟩
    · rintro σ G ⟨v2, rfl, e⟩
      exact k G e

end

section
variable {P : Program} {w : World} {K : PySem.W.Frag} {mg : Str → Option Value} {base : Heap} {A : Ad}
theorem rgN17 (n : Nat) : rgV 0 (n : Int) = nI (List.range n) := by
  rw [rgV_map, List.map_map]
  rfl
theorem labG_len (ys : List Nat) : ∀ i, (labG ys i).length = ys.length
  | 0 => List.length_range
  | i + 1 => by
    show ((labG ys i).map _).length = _
    rw [List.length_map, labG_len ys i]
theorem labG_step (ys : List Nat) (i : Nat) : labG ys (i + 1) = (labG ys i).map fun l => if l = (labG ys i).getD i 0 then (labG ys i).getD (ys.getD i 0) 0 else l := rfl
theorem grp_self {ys : List Nat} {x : Nat} (h : x < ys.length) : x ∈ grpG ys x := List.mem_filter.mpr ⟨List.mem_range.mpr h, by simp⟩
theorem dec_nat17 {a b : Nat} : decide (V.int (a : Int) = V.int (b : Int)) = decide (a = b) := by
  rw [Bool.eq_iff_iff, decide_eq_true_eq, decide_eq_true_eq]
  exact ⟨fun z => by injection z with z; omega, fun z => by rw [z]⟩
theorem map_take {f : Nat → Nat} {L : List Nat} {j : Nat} (h : j < L.length) : (L.take (j + 1)).map f = (L.take j).map f ++ [f (L.getD j 0)] := by
  rw [List.take_add_one, List.getElem?_eq_getElem h, List.map_append, List.getD_eq_getElem?_getD, List.getElem?_eq_getElem h]
  rfl
def rootsN (ys : List Nat) (i : Nat) : List Nat := (List.range i).filter fun x => decide ((grpG ys x).getD 0 0 = x)
theorem rootsN_step (ys : List Nat) (i : Nat) : rootsN ys (i + 1) = rootsN ys i ++ (if decide ((grpG ys i).getD 0 0 = i) = true then [i] else []) := by
  unfold rootsN
  rw [List.range_succ, List.filter_append, List.filter_cons]
  rfl
def grpN (ys : List Nat) (x i : Nat) : List Nat := (List.range i).filter fun y => decide ((labG ys ys.length).getD y 0 = (labG ys ys.length).getD x 0)
theorem grpN_step (ys : List Nat) (x i : Nat) : grpN ys x (i + 1) = grpN ys x i ++ (if decide ((labG ys ys.length).getD i 0 = (labG ys ys.length).getD x 0) = true then [i] else []) := by
  unfold grpN
  rw [List.range_succ, List.filter_append, List.filter_cons]
  rfl
end

section
variable {P : Program} {w : World} {K : PySem.W.Frag} {mg : Str → Option Value} {base : Heap} {A : Ad}
theorem OptB.keep {H0 H H' : Hp} {v : V} {o : Option Bk} (h : OptB H0 H v o) (k : ∀ a u, H0 a = none → H a = some u → H' a = some u) : OptB H0 H' v o := h.imp id fun ⟨t, b, h1, h2, h3, l, h4, h5, h6⟩ => ⟨t, b, h1, h2, h3, l, h4, k _ _ h3 h5, k _ _ h4 h6⟩
theorem OptB.back {H0 H1 H : Hp} {v : V} {o : Option Bk} (e : Ex H0 H1) (h : OptB H1 H v o) : OptB H0 H v o := h.imp id fun ⟨t, b, h1, h2, h3, l, h4, h5⟩ => ⟨t, b, h1, h2, back_none e h3, l, back_none e h4, h5⟩
def dN (ls : List Nat) : PyData := .list (ls.map fun x : Nat => PyData.int (x : Int))
def dB (b : Bk) : PyData := .tuple [.str (word b.1), dN b.2]
theorem dpAll_N {K : PySem.W.Frag} {H : Hp} : ∀ xs : List Nat, DpAll K H (nI xs) (xs.map fun x : Nat => PyData.int (x : Int))
  | [] => .nil
  | x :: xs => .cons (.int x) (dpAll_N xs)
theorem dp_B {K : PySem.W.Frag} {H : Hp} {t : Addr} {b : Bk} (h : BlkAt H t b) : Dp K H (.ref t) (dB b) := by
  obtain ⟨l, h1, h2⟩ := h
  exact .tup (SqT.of h1) (.cons (.str _) (.cons (.lst h2.sz (dpAll_N _)) .nil))
theorem lay_N : ∀ xs : List Nat, PyData.canLayAll0 (xs.map fun x : Nat => PyData.int (x : Int)) = true
  | [] => by simp [PyData.canLayAll0]
  | x :: xs => by
    simp only [List.map_cons, PyData.canLayAll0, PyData.canLay0, lay_N xs]
    rfl
theorem deep_N : ∀ xs : List Nat, PyData.depthAll (xs.map fun x : Nat => PyData.int (x : Int)) ≤ 1
  | [] => by simp [PyData.depthAll]
  | x :: xs => by
    have := deep_N xs
    simp only [List.map_cons, PyData.depthAll, PyData.depth]
    omega
theorem word_ok (n : Nat) : PyData.strOk (word n) = true := by
  unfold word
  split <;> decide +kernel
theorem lay_B : ∀ bs : List Bk, PyData.canLayAll0 (bs.map dB) = true
  | [] => by simp [PyData.canLayAll0]
  | b :: bs => by
    simp only [List.map_cons, PyData.canLayAll0, lay_B bs, dB, dN, PyData.canLay0, lay_N, word_ok]
    rfl
theorem deep_B : ∀ bs : List Bk, PyData.depthAll (bs.map dB) ≤ 4
  | [] => by simp [PyData.depthAll]
  | b :: bs => by
    have h1 := deep_B bs
    have h2 := deep_N b.2
    simp only [List.map_cons, PyData.depthAll, dB, dN, PyData.depth]
    omega
theorem shaped_B (bs : List Bk) : SeqAt.shaped (.list (bs.map dB)) = true := by
  have h2 : PyData.depth (.list (bs.map dB)) ≤ 64 := by
    have := deep_B bs
    simp only [PyData.depth]
    omega
  unfold SeqAt.shaped
  rw [decide_eq_true h2, show PyData.canLay0 (.list (bs.map dB)) = true from by simp only [PyData.canLay0]; exact lay_B bs]
  rfl
theorem eqv_B (bs : List Bk) : PyData.eqv (.list (bs.map dB)) (.list []) = bs.isEmpty := by
  cases bs with
  | nil => rfl
  | cons b bs => rfl
theorem tk1 {α : Type} {l : List α} {i : Nat} {x : α} (h : l[i]? = some x) : l.take (i + 1) = l.take i ++ [x] := by
  rw [List.take_add_one, h]
  rfl
theorem img_le {ys : List Nat} (h : Img ys) : ys.length ≤ 4 ∧ ∀ i, i < ys.length → ys.getD i 0 < ys.length := by
  have e : (all4.all fun ys => decide (ys.length ≤ 4) && (List.range ys.length).all fun i => decide (ys.getD i 0 < ys.length)) = true := by decide +kernel
  rw [List.all_eq_true] at e
  have e := e ys h
  rw [Bool.and_eq_true, List.all_eq_true] at e
  exact ⟨of_decide_eq_true e.1, fun i hi => of_decide_eq_true (e.2 i (List.mem_range.mpr hi))⟩
theorem grp_le {ys g : List Nat} (h : Img ys) (hg : g ∈ groupsG ys) : g.length ≤ 4 := by
  have e : (all4.all fun ys => (groupsG ys).all fun g => decide (g.length ≤ 4)) = true := by decide +kernel
  rw [List.all_eq_true] at e
  have e := e ys h
  rw [List.all_eq_true] at e
  exact of_decide_eq_true (e g hg)
theorem grps_le {ys : List Nat} (h : Img ys) : (groupsG ys).length ≤ 4 := by
  have e : (all4.all fun ys => decide ((groupsG ys).length ≤ 4)) = true := by decide +kernel
  rw [List.all_eq_true] at e
  exact of_decide_eq_true (e ys h)
/-- a list of references to blocks -/
def Refs (H : Hp) (vs : List V) (bs : List Bk) : Prop := vs.length = bs.length ∧ ∀ (j : Nat) (v : V) (b : Bk), vs[j]? = some v → bs[j]? = some b → ∃ t, v = .ref t ∧ BlkAt H t b
theorem Refs.ex {H H' : Hp} {vs : List V} {bs : List Bk} (e : Ex H H') (h : Refs H vs bs) : Refs H' vs bs := ⟨h.1, fun j v b a c => by
  obtain ⟨t, h1, h2⟩ := h.2 j v b a c
  exact ⟨t, h1, h2.ex e⟩⟩
theorem Refs.snoc {H : Hp} {vs : List V} {bs : List Bk} {t : Addr} {b : Bk} (h : Refs H vs bs) (hb : BlkAt H t b) : Refs H (vs ++ [.ref t]) (bs ++ [b]) := by
  refine ⟨by rw [List.length_append, List.length_append, h.1]; rfl, fun j v c h1 h2 => ?_⟩
  have hl := h.1
  by_cases hj : j < vs.length
  · rw [List.getElem?_append_left hj] at h1
    rw [List.getElem?_append_left (by omega)] at h2
    exact h.2 j v c h1 h2
  · rw [List.getElem?_append_right (by omega)] at h1
    rw [List.getElem?_append_right (by omega), ← hl] at h2
    match hz : j - vs.length with
    | 0 =>
      rw [hz] at h1 h2
      have h1 := Option.some.inj h1
      have h2 := Option.some.inj h2
      subst h1
      subst h2
      exact ⟨t, rfl, hb⟩
    | z + 1 =>
      rw [hz] at h1
      cases h1
theorem Refs.dp {K : PySem.W.Frag} {H : Hp} : ∀ {vs : List V} {bs : List Bk}, Refs H vs bs → DpAll K H vs (bs.map dB)
  | [], [], _ => .nil
  | v :: vs, b :: bs, h => by
    obtain ⟨t, h1, h2⟩ := h.2 0 v b rfl rfl
    subst h1
    refine .cons (dp_B h2) (Refs.dp ⟨by have := h.1; simpa using this, fun j v b h3 h4 => h.2 (j + 1) v b h3 h4⟩)
  | [], b :: bs, h => by have := h.1; simp at this
  | v :: vs, [], h => by have := h.1; simp at this
theorem Refs.upd {H : Hp} {B : Addr} {vs : List V} {bs : List Bk} {o : HO} (hB : H B = some (.lst vs)) (h : Refs H vs bs) : Refs (L2.upd H B o) vs bs := ⟨h.1, fun j v b h1 h2 => by
  obtain ⟨t, h3, l, h4, h5⟩ := h.2 j v b h1 h2
  refine ⟨t, h3, l, ?_, ?_⟩
  · rw [upd_ne (fun z => by rw [z, hB] at h4; cases h4)]
    exact h4
  · show L2.upd H B o l = _
    rw [upd_ne (fun z => by
      have h5 : H l = some (.lst (nI b.2)) := h5
      rw [z, hB] at h5
      have h5 := HO.lst.inj (Option.some.inj h5)
      have : v ∈ nI b.2 := by rw [← h5]; exact List.mem_of_getElem? h1
      unfold nI at this
      obtain ⟨x, _, hx⟩ := List.mem_map.mp this
      rw [h3] at hx
      cases hx)]
    exact h5⟩
theorem refs_ex {H : Hp} : ∀ (vs : List V) (bs : List Bk), Refs H vs bs → ∃ qs : List Addr, vs = qs.map V.ref
  | [], _, _ => ⟨[], rfl⟩
  | v :: vs, [], h => by have := h.1; simp at this
  | v :: vs, b :: bs, h => by
    obtain ⟨t, h1, h2⟩ := h.2 0 v b rfl rfl
    obtain ⟨qs, hq⟩ := refs_ex vs bs ⟨by have := h.1; simpa using this, fun j v b h3 h4 => h.2 (j + 1) v b h3 h4⟩
    exact ⟨t :: qs, by rw [h1, hq]; rfl⟩
theorem all2_of {H : Hp} {p : Addr} {vs : List V} {bs : List Bk} (hp : H p = some (.lst vs)) (h : Refs H vs bs) : All2 BlkAt H p bs := by
  obtain ⟨qs, rfl⟩ := refs_ex vs bs h
  have hl := h.1
  rw [List.length_map] at hl
  refine ⟨qs, hp, hl, fun i q b h1 h2 => ?_⟩
  obtain ⟨t, h3, h4⟩ := h.2 i (.ref q) b (by rw [List.getElem?_map, h1]; rfl) h2
  injection h3 with h3
  rw [h3]
  exact h4
end

section
variable {P : Program} {w : World} {K : PySem.W.Frag} {mg : Str → Option Value} {base : Heap} {A : Ad}
theorem idxS {xs : List Str} {x : Str} (h : x ∈ xs) : (xs.map V.str)[xs.idxOf x]? = some (V.str x) := by
  have hi := List.idxOf_lt_length_of_mem h
  rw [List.getElem?_map, List.getElem?_eq_getElem hi]
  exact congrArg (fun z => some (V.str z)) (List.getElem_idxOf hi)
theorem idxN {xs : List Str} {x : Str} (m : Nat) (z : V) (hm : m < xs.idxOf x) (hz : (xs.map V.str)[m]? = some z) : eqV z (V.str x) = false := by
  rw [List.getElem?_map] at hz
  cases e : xs[m]? with
  | none =>
    rw [e] at hz
    cases hz
  | some y =>
    rw [e] at hz
    have hz := Option.some.inj hz
    subst hz
    show (y == x) = false
    rw [Bool.eq_false_iff]
    intro c
    have w : (xs[m]'(Nat.lt_of_lt_of_le hm (List.idxOf_le_length ..)) == x) = false := List.not_of_lt_findIdx (p := (· == x)) (xs := xs) hm
    obtain ⟨hl, rfl⟩ := List.getElem?_eq_some_iff.mp e
    rw [c] at w
    cases w
theorem eqS (x : Str) : eqV (V.str x) (V.str x) = true := by
  show (x == x) = true
  exact beq_self_eq_true x
theorem ok_law_mended (T : Txt K mg A)   : Okd P w K mg base CX0 1 A.law_mended P_law_mended spMnd := by
  obtain ⟨fd, F⟩ := T.d_law_mended

  refine ⟨fd, F.ok sc_law_mended (fun vs H Q E h => ?_) (fun cdv A' outer s H vs Q E hr h => ?_), F.binds fun _ _ _ _ _ _ us hl => match us, hl with | [_, _, _], _ => rfl⟩
  · obtain ⟨p, c, b, bits, rfl, _⟩ := h
    rfl
  · obtain ⟨p, c, b, bits, rfl, h8, hp, hl, hc, h5, k⟩ := h
    refine ⟨_, (pss_cons (ps_if (pt_cmpR op_eq (pv 0) pe_str (nomark _)) (pss_one (ps_ret (pe_lst (pa_cons (pe_ix ix_list (pv 1) pe_int (fun _ _ => rfl)) pa_nil)))) pss_nil)
      (pss_cons (ps_if (pt_cmpR op_in_seq (pv 0) (pe_tup (pa_cons pe_str (pa_cons pe_str pa_nil))) (by with_unfolding_all rfl)) (pss_one (ps_ret (pe_lst (pa_cons (pe_ix ix_list (pv 1) pe_int (fun _ _ => rfl)) (pa_cons (pe_ix ix_list (pv 1) pe_int (fun _ _ => rfl)) pa_nil))))) pss_nil)
      (pss_cons (ps_set (i := 3) sc_law_mended.nd rfl (Or.inl rfl) (pe_cmpR op_eq (pe_ix ix_list (pv 2) (pe_bm PySem.F.plainAttrs_list PySem.F.slot_list_index PySem.F.type_list_index mt_index (pe_lst (pa_cons pe_str (pa_cons pe_str (pa_cons pe_str (pa_cons pe_str (pa_cons pe_str pa_nil)))))) (pa_cons (pv 0) pa_nil)) (fun _ _ => rfl)) pe_int (nomark _)))
      (pss_cons (ps_if (PW.pt (pw_or (PW.pt (pw_and (pt_cmpR op_eq (pv 0) pe_str (nomark _)) (pw_and1 (pt_val (pv 3))))) (pw_or1 (PW.pt (pw_and (pt_cmpR op_eq (pv 0) pe_str (nomark _)) (pw_and1 (pt_not (pt_val (pv 3))))))))) (pss_one (ps_ret (pe_lst (pa_cons (pe_ix ix_list (pv 1) pe_int (fun _ _ => rfl)) (pa_cons (pe_ix ix_list (pv 1) pe_int (fun _ _ => rfl)) (pa_cons (pe_ix ix_list (pv 1) pe_int (fun _ _ => rfl)) pa_nil)))))) pss_nil)
      (pss_cons (ps_if (pt_cmpR op_in_seq (pv 0) (pe_tup (pa_cons pe_str (pa_cons pe_str pa_nil))) (by with_unfolding_all rfl)) (pss_one (ps_ret (pe_lst (pa_cons (pe_ix ix_list (pv 1) pe_int (fun _ _ => rfl)) (pa_cons (pe_ix ix_list (pv 1) pe_int (fun _ _ => rfl)) (pa_cons (pe_ix ix_list (pv 1) pe_int (fun _ _ => rfl)) pa_nil)))))) pss_nil)
      (pss_cons (ps_if (pt_val (pv 3)) (pss_one (ps_ret (pe_lst (pa_cons (pe_ix ix_list (pv 1) pe_int (fun _ _ => rfl)) (pa_cons (pe_ix ix_list (pv 1) pe_int (fun _ _ => rfl)) (pa_cons (pe_ix ix_list (pv 1) pe_int (fun _ _ => rfl)) (pa_cons (pe_ix ix_list (pv 1) pe_int (fun _ _ => rfl)) pa_nil))))))) pss_nil)
      (pss_one (ps_ret (pe_lst (pa_cons (pe_ix ix_list (pv 1) pe_int (fun _ _ => rfl)) (pa_cons (pe_ix ix_list (pv 1) pe_int (fun _ _ => rfl)) (pa_cons (pe_ix ix_list (pv 1) pe_int (fun _ _ => rfl)) (pa_cons (pe_ix ix_list (pv 1) pe_int (fun _ _ => rfl)) pa_nil))))))))))))), ?_⟩
    obtain ⟨w0, ms⟩ := b
    have hc5 : ∀ j, j < 5 → j < bits.length := fun j hj => by omega
    match w0, h8, ms, hl with
    | 0, _, [x0], _ =>
      walk_at "r"
      refine ⟨(by show 1 ≤ sizeLine; decide), fun q hq => ?_⟩
      exact k q _ hq (Ex.new hq) upd_same
    | 1, _, [x0, x1], _ =>
      walk_at "r"
      refine ⟨(by show 2 ≤ sizeLine; decide), fun T0 hT0 => ?_⟩
      have e1 := Ex.new (o := .tup [V.str "pair", V.str "claim"]) hT0
      refine ⟨T0, _, rfl, Or.inr (SqT.of upd_same), rfl, (by decide), ?_⟩
      have hp1 := hp.ex e1
      have hc1 := hc.ex e1
      refine ⟨_, rfl, ?_⟩
      walk_at "r"
      refine ⟨(by show 2 ≤ sizeLine; decide), fun q hq => ?_⟩
      exact k q _ (back_none e1 hq) (e1.trans (Ex.new hq)) upd_same
    | 2, _, [x0, x1], _ =>
      walk_at "r"
      refine ⟨(by show 2 ≤ sizeLine; decide), fun T0 hT0 => ?_⟩
      have e1 := Ex.new (o := .tup [V.str "pair", V.str "claim"]) hT0
      refine ⟨T0, _, rfl, Or.inr (SqT.of upd_same), rfl, (by decide), ?_⟩
      have hp1 := hp.ex e1
      have hc1 := hc.ex e1
      refine ⟨_, rfl, ?_⟩
      walk_at "r"
      refine ⟨(by show 2 ≤ sizeLine; decide), fun q hq => ?_⟩
      exact k q _ (back_none e1 hq) (e1.trans (Ex.new hq)) upd_same
    | 3, _, [x0, x1, x2], _ =>
      walk_at "r"
      refine ⟨(by show 2 ≤ sizeLine; decide), fun T0 hT0 => ?_⟩
      have e1 := Ex.new (o := .tup [V.str "pair", V.str "claim"]) hT0
      refine ⟨T0, _, rfl, Or.inr (SqT.of upd_same), rfl, (by decide), ?_⟩
      have hp1 := hp.ex e1
      have hc1 := hc.ex e1
      refine ⟨_, rfl, ?_⟩
      refine ⟨_, rfl, (by show 5 ≤ sizeLine; decide), fun q0 hq0 => ?_⟩
      have e2 := Ex.new (o := .lst (nm5.map V.str)) hq0
      have hl3 : ListS (upd (upd H T0 (.tup [V.str "pair", V.str "claim"])) q0 (.lst (nm5.map V.str))) q0 nm5 := upd_same
      have hin : word 3 ∈ nm5 := by decide
      refine ⟨.inl ⟨rfl, _, hl3.sz⟩, _, rfl, q0, _, _, nm5.idxOf (word 3), _, rfl, rfl, hl3.sz, rfl, flat_str _, idxS hin, eqS _, idxN, ?_⟩
      have hp2 := hp1.ex e2
      have hc2 := hc1.ex e2
      have e12 := e1.trans e2
      refine ⟨c, _, _, _, rfl, rfl, hc2.sz, atN (j := 0) (hc5 0 (by decide)), rfl, _, rfl, ?_⟩
      rw [show decide (V.int ((bits.getD 0 0 : Nat) : Int) = V.int 1) = decide (bits.getD 0 0 = 1) from dec_nat17 (b := 1)]
      by_cases zb : bits.getD 0 0 = 1
      · rw [decide_eq_true zb]
        walk_at "r"
        refine ⟨(by show 3 ≤ sizeLine; decide), fun q hq => ?_⟩
        have hm : mendG bits (3, [x0, x1, x2]) = [x1, x0, x2] := by
          have zb' := zb
          rw [List.getD_eq_getElem?_getD] at zb'
          unfold mendG
          simp [zb']
        refine k q _ (back_none e12 hq) (e12.trans (Ex.new hq)) ?_
        rw [hm]
        exact upd_same

      · rw [decide_eq_false zb]
        walk_at "r"
        refine ⟨(by show 2 ≤ sizeLine; decide), fun T1 hT1 => ?_⟩
        have e3 := e12.trans (Ex.new (o := .tup [V.str "hook", V.str "relay"]) hT1)
        refine ⟨T1, _, rfl, Or.inr (SqT.of upd_same), rfl, (by decide), ?_⟩
        have hp3 := hp.ex e3
        refine ⟨_, rfl, ?_⟩
        walk_at "r"
        refine ⟨(by show 3 ≤ sizeLine; decide), fun q hq => ?_⟩
        have hm : mendG bits (3, [x0, x1, x2]) = [x0, x2, x1] := by
          have zb' := zb
          rw [List.getD_eq_getElem?_getD] at zb'
          unfold mendG
          simp [zb']
        refine k q _ (back_none e3 hq) (e3.trans (Ex.new hq)) ?_
        rw [hm]
        exact upd_same

    | 4, _, [x0, x1, x2], _ =>
      walk_at "r"
      refine ⟨(by show 2 ≤ sizeLine; decide), fun T0 hT0 => ?_⟩
      have e1 := Ex.new (o := .tup [V.str "pair", V.str "claim"]) hT0
      refine ⟨T0, _, rfl, Or.inr (SqT.of upd_same), rfl, (by decide), ?_⟩
      have hp1 := hp.ex e1
      have hc1 := hc.ex e1
      refine ⟨_, rfl, ?_⟩
      refine ⟨_, rfl, (by show 5 ≤ sizeLine; decide), fun q0 hq0 => ?_⟩
      have e2 := Ex.new (o := .lst (nm5.map V.str)) hq0
      have hl3 : ListS (upd (upd H T0 (.tup [V.str "pair", V.str "claim"])) q0 (.lst (nm5.map V.str))) q0 nm5 := upd_same
      have hin : word 4 ∈ nm5 := by decide
      refine ⟨.inl ⟨rfl, _, hl3.sz⟩, _, rfl, q0, _, _, nm5.idxOf (word 4), _, rfl, rfl, hl3.sz, rfl, flat_str _, idxS hin, eqS _, idxN, ?_⟩
      have hp2 := hp1.ex e2
      have hc2 := hc1.ex e2
      have e12 := e1.trans e2
      refine ⟨c, _, _, _, rfl, rfl, hc2.sz, atN (j := 1) (hc5 1 (by decide)), rfl, _, rfl, ?_⟩
      rw [show decide (V.int ((bits.getD 1 0 : Nat) : Int) = V.int 1) = decide (bits.getD 1 0 = 1) from dec_nat17 (b := 1)]
      by_cases zb : bits.getD 1 0 = 1
      · rw [decide_eq_true zb]
        walk_at "r"
        refine ⟨(by show 2 ≤ sizeLine; decide), fun T1 hT1 => ?_⟩
        have e3 := e12.trans (Ex.new (o := .tup [V.str "hook", V.str "relay"]) hT1)
        refine ⟨T1, _, rfl, Or.inr (SqT.of upd_same), rfl, (by decide), ?_⟩
        have hp3 := hp.ex e3
        refine ⟨_, rfl, ?_⟩
        walk_at "r"
        refine ⟨(by show 3 ≤ sizeLine; decide), fun q hq => ?_⟩
        have hm : mendG bits (4, [x0, x1, x2]) = [x0, x2, x1] := by
          have zb' := zb
          rw [List.getD_eq_getElem?_getD] at zb'
          unfold mendG
          simp [zb']
        refine k q _ (back_none e3 hq) (e3.trans (Ex.new hq)) ?_
        rw [hm]
        exact upd_same

      · rw [decide_eq_false zb]
        walk_at "r"
        refine ⟨(by show 3 ≤ sizeLine; decide), fun q hq => ?_⟩
        have hm : mendG bits (4, [x0, x1, x2]) = [x1, x0, x2] := by
          have zb' := zb
          rw [List.getD_eq_getElem?_getD] at zb'
          unfold mendG
          simp [zb']
        refine k q _ (back_none e12 hq) (e12.trans (Ex.new hq)) ?_
        rw [hm]
        exact upd_same

    | 5, _, [x0, x1, x2, x3], _ =>
      walk_at "r"
      refine ⟨(by show 2 ≤ sizeLine; decide), fun T0 hT0 => ?_⟩
      have e1 := Ex.new (o := .tup [V.str "pair", V.str "claim"]) hT0
      refine ⟨T0, _, rfl, Or.inr (SqT.of upd_same), rfl, (by decide), ?_⟩
      have hp1 := hp.ex e1
      have hc1 := hc.ex e1
      refine ⟨_, rfl, ?_⟩
      refine ⟨_, rfl, (by show 5 ≤ sizeLine; decide), fun q0 hq0 => ?_⟩
      have e2 := Ex.new (o := .lst (nm5.map V.str)) hq0
      have hl3 : ListS (upd (upd H T0 (.tup [V.str "pair", V.str "claim"])) q0 (.lst (nm5.map V.str))) q0 nm5 := upd_same
      have hin : word 5 ∈ nm5 := by decide
      refine ⟨.inl ⟨rfl, _, hl3.sz⟩, _, rfl, q0, _, _, nm5.idxOf (word 5), _, rfl, rfl, hl3.sz, rfl, flat_str _, idxS hin, eqS _, idxN, ?_⟩
      have hp2 := hp1.ex e2
      have hc2 := hc1.ex e2
      have e12 := e1.trans e2
      refine ⟨c, _, _, _, rfl, rfl, hc2.sz, atN (j := 2) (hc5 2 (by decide)), rfl, _, rfl, ?_⟩
      rw [show decide (V.int ((bits.getD 2 0 : Nat) : Int) = V.int 1) = decide (bits.getD 2 0 = 1) from dec_nat17 (b := 1)]
      by_cases zb : bits.getD 2 0 = 1
      · rw [decide_eq_true zb]
        walk_at "r"
        refine ⟨(by show 2 ≤ sizeLine; decide), fun T1 hT1 => ?_⟩
        have e3 := e12.trans (Ex.new (o := .tup [V.str "hook", V.str "relay"]) hT1)
        refine ⟨T1, _, rfl, Or.inr (SqT.of upd_same), rfl, (by decide), ?_⟩
        have hp3 := hp.ex e3
        refine ⟨_, rfl, ?_⟩
        walk_at "r"
        refine ⟨(by show 4 ≤ sizeLine; decide), fun q hq => ?_⟩
        have hm : mendG bits (5, [x0, x1, x2, x3]) = [x3, x2, x1, x0] := by
          have zb' := zb
          rw [List.getD_eq_getElem?_getD] at zb'
          unfold mendG
          simp [zb']
        refine k q _ (back_none e3 hq) (e3.trans (Ex.new hq)) ?_
        rw [hm]
        exact upd_same

      · rw [decide_eq_false zb]
        walk_at "r"
        refine ⟨(by show 2 ≤ sizeLine; decide), fun T1 hT1 => ?_⟩
        have e3 := e12.trans (Ex.new (o := .tup [V.str "hook", V.str "relay"]) hT1)
        refine ⟨T1, _, rfl, Or.inr (SqT.of upd_same), rfl, (by decide), ?_⟩
        have hp3 := hp.ex e3
        refine ⟨_, rfl, ?_⟩
        walk_at "r"
        refine ⟨(by show 4 ≤ sizeLine; decide), fun q hq => ?_⟩
        have hm : mendG bits (5, [x0, x1, x2, x3]) = [x1, x0, x3, x2] := by
          have zb' := zb
          rw [List.getD_eq_getElem?_getD] at zb'
          unfold mendG
          simp [zb']
        refine k q _ (back_none e3 hq) (e3.trans (Ex.new hq)) ?_
        rw [hm]
        exact upd_same

    | 6, _, [x0, x1, x2, x3], _ =>
      walk_at "r"
      refine ⟨(by show 2 ≤ sizeLine; decide), fun T0 hT0 => ?_⟩
      have e1 := Ex.new (o := .tup [V.str "pair", V.str "claim"]) hT0
      refine ⟨T0, _, rfl, Or.inr (SqT.of upd_same), rfl, (by decide), ?_⟩
      have hp1 := hp.ex e1
      have hc1 := hc.ex e1
      refine ⟨_, rfl, ?_⟩
      refine ⟨_, rfl, (by show 5 ≤ sizeLine; decide), fun q0 hq0 => ?_⟩
      have e2 := Ex.new (o := .lst (nm5.map V.str)) hq0
      have hl3 : ListS (upd (upd H T0 (.tup [V.str "pair", V.str "claim"])) q0 (.lst (nm5.map V.str))) q0 nm5 := upd_same
      have hin : word 6 ∈ nm5 := by decide
      refine ⟨.inl ⟨rfl, _, hl3.sz⟩, _, rfl, q0, _, _, nm5.idxOf (word 6), _, rfl, rfl, hl3.sz, rfl, flat_str _, idxS hin, eqS _, idxN, ?_⟩
      have hp2 := hp1.ex e2
      have hc2 := hc1.ex e2
      have e12 := e1.trans e2
      refine ⟨c, _, _, _, rfl, rfl, hc2.sz, atN (j := 3) (hc5 3 (by decide)), rfl, _, rfl, ?_⟩
      rw [show decide (V.int ((bits.getD 3 0 : Nat) : Int) = V.int 1) = decide (bits.getD 3 0 = 1) from dec_nat17 (b := 1)]
      by_cases zb : bits.getD 3 0 = 1
      · rw [decide_eq_true zb]
        walk_at "r"
        refine ⟨(by show 2 ≤ sizeLine; decide), fun T1 hT1 => ?_⟩
        have e3 := e12.trans (Ex.new (o := .tup [V.str "hook", V.str "relay"]) hT1)
        refine ⟨T1, _, rfl, Or.inr (SqT.of upd_same), rfl, (by decide), ?_⟩
        have hp3 := hp.ex e3
        refine ⟨_, rfl, ?_⟩
        walk_at "r"
        refine ⟨(by show 4 ≤ sizeLine; decide), fun q hq => ?_⟩
        have hm : mendG bits (6, [x0, x1, x2, x3]) = [x3, x2, x1, x0] := by
          have zb' := zb
          rw [List.getD_eq_getElem?_getD] at zb'
          unfold mendG
          simp [zb']
        refine k q _ (back_none e3 hq) (e3.trans (Ex.new hq)) ?_
        rw [hm]
        exact upd_same

      · rw [decide_eq_false zb]
        walk_at "r"
        refine ⟨(by show 2 ≤ sizeLine; decide), fun T1 hT1 => ?_⟩
        have e3 := e12.trans (Ex.new (o := .tup [V.str "hook", V.str "relay"]) hT1)
        refine ⟨T1, _, rfl, Or.inr (SqT.of upd_same), rfl, (by decide), ?_⟩
        have hp3 := hp.ex e3
        refine ⟨_, rfl, ?_⟩
        walk_at "r"
        refine ⟨(by show 4 ≤ sizeLine; decide), fun q hq => ?_⟩
        have hm : mendG bits (6, [x0, x1, x2, x3]) = [x1, x0, x3, x2] := by
          have zb' := zb
          rw [List.getD_eq_getElem?_getD] at zb'
          unfold mendG
          simp [zb']
        refine k q _ (back_none e3 hq) (e3.trans (Ex.new hq)) ?_
        rw [hm]
        exact upd_same

    | 7, _, [x0, x1, x2, x3], _ =>
      walk_at "r"
      refine ⟨(by show 2 ≤ sizeLine; decide), fun T0 hT0 => ?_⟩
      have e1 := Ex.new (o := .tup [V.str "pair", V.str "claim"]) hT0
      refine ⟨T0, _, rfl, Or.inr (SqT.of upd_same), rfl, (by decide), ?_⟩
      have hp1 := hp.ex e1
      have hc1 := hc.ex e1
      refine ⟨_, rfl, ?_⟩
      refine ⟨_, rfl, (by show 5 ≤ sizeLine; decide), fun q0 hq0 => ?_⟩
      have e2 := Ex.new (o := .lst (nm5.map V.str)) hq0
      have hl3 : ListS (upd (upd H T0 (.tup [V.str "pair", V.str "claim"])) q0 (.lst (nm5.map V.str))) q0 nm5 := upd_same
      have hin : word 7 ∈ nm5 := by decide
      refine ⟨.inl ⟨rfl, _, hl3.sz⟩, _, rfl, q0, _, _, nm5.idxOf (word 7), _, rfl, rfl, hl3.sz, rfl, flat_str _, idxS hin, eqS _, idxN, ?_⟩
      have hp2 := hp1.ex e2
      have hc2 := hc1.ex e2
      have e12 := e1.trans e2
      refine ⟨c, _, _, _, rfl, rfl, hc2.sz, atN (j := 4) (hc5 4 (by decide)), rfl, _, rfl, ?_⟩
      rw [show decide (V.int ((bits.getD 4 0 : Nat) : Int) = V.int 1) = decide (bits.getD 4 0 = 1) from dec_nat17 (b := 1)]
      by_cases zb : bits.getD 4 0 = 1
      · rw [decide_eq_true zb]
        walk_at "r"
        refine ⟨(by show 2 ≤ sizeLine; decide), fun T1 hT1 => ?_⟩
        have e3 := e12.trans (Ex.new (o := .tup [V.str "hook", V.str "relay"]) hT1)
        refine ⟨T1, _, rfl, Or.inr (SqT.of upd_same), rfl, (by decide), ?_⟩
        have hp3 := hp.ex e3
        refine ⟨_, rfl, ?_⟩
        walk_at "r"
        refine ⟨(by show 4 ≤ sizeLine; decide), fun q hq => ?_⟩
        have hm : mendG bits (7, [x0, x1, x2, x3]) = [x3, x2, x1, x0] := by
          have zb' := zb
          rw [List.getD_eq_getElem?_getD] at zb'
          unfold mendG
          simp [zb']
        refine k q _ (back_none e3 hq) (e3.trans (Ex.new hq)) ?_
        rw [hm]
        exact upd_same

      · rw [decide_eq_false zb]
        walk_at "r"
        refine ⟨(by show 2 ≤ sizeLine; decide), fun T1 hT1 => ?_⟩
        have e3 := e12.trans (Ex.new (o := .tup [V.str "hook", V.str "relay"]) hT1)
        refine ⟨T1, _, rfl, Or.inr (SqT.of upd_same), rfl, (by decide), ?_⟩
        have hp3 := hp.ex e3
        refine ⟨_, rfl, ?_⟩
        walk_at "r"
        refine ⟨(by show 4 ≤ sizeLine; decide), fun q hq => ?_⟩
        have hm : mendG bits (7, [x0, x1, x2, x3]) = [x1, x0, x3, x2] := by
          have zb' := zb
          rw [List.getD_eq_getElem?_getD] at zb'
          unfold mendG
          simp [zb']
        refine k q _ (back_none e3 hq) (e3.trans (Ex.new hq)) ?_
        rw [hm]
        exact upd_same


end

section
variable {P : Program} {w : World} {K : PySem.W.Frag} {mg : Str → Option Value} {base : Heap} {A : Ad}
theorem putL_len {ys p q : List Nat} : ∀ k, (putL ys p q k).length = ys.length
  | 0 => rfl
  | k + 1 => by
    unfold putL
    rw [List.length_set, putL_len k]
def stG (bits zs : List Nat) (b : Bk) : List Nat := putL zs b.2 (mendG bits b) b.2.length
theorem goal_len {bits : List Nat} : ∀ (bs : List Bk) (ys : List Nat), (bs.foldl (stG bits) ys).length = ys.length
  | [], _ => rfl
  | b :: bs, ys => by
    rw [List.foldl_cons, goal_len bs]
    exact putL_len _
theorem mendG_len {bits : List Nat} {b : Bk} (h8 : b.1 < 8) (hl : b.2.length = (form b.1).length) : (mendG bits b).length = b.2.length := by
  obtain ⟨w, ms⟩ := b
  match w, h8, ms, hl with
  | 0, _, [x0], _ => rfl
  | 1, _, [x0, x1], _ => rfl
  | 2, _, [x0, x1], _ => rfl
  | 3, _, [x0, x1, x2], _ => unfold mendG; dsimp only; (repeat' split) <;> first | rfl | (exfalso; omega)
  | 4, _, [x0, x1, x2], _ => unfold mendG; dsimp only; (repeat' split) <;> first | rfl | (exfalso; omega)
  | 5, _, [x0, x1, x2, x3], _ => unfold mendG; dsimp only; (repeat' split) <;> first | rfl | (exfalso; omega)
  | 6, _, [x0, x1, x2, x3], _ => unfold mendG; dsimp only; (repeat' split) <;> first | rfl | (exfalso; omega)
  | 7, _, [x0, x1, x2, x3], _ => unfold mendG; dsimp only; (repeat' split) <;> first | rfl | (exfalso; omega)
def spGoalB : Sp := fun vs H Q _ => ∃ (a p c : Addr) (ys bits : List Nat) (bs : List Bk), vs = [.ref a, .ref p, .ref c] ∧ ListN H a ys ∧ (∀ b ∈ bs, b.1 < 8 ∧ b.2.length = (form b.1).length ∧ ∀ x ∈ b.2, x < ys.length) ∧ BksAt H p bs ∧ ListN H c bits ∧ bits.length = 5 ∧ ∀ q H', H q = none → Ex H H' → ListN H' q (goalG ys bits bs) → Q (.ref q) H'
theorem ok_law_goal (T : Txt K mg A)  (g_law_mended : Okd P w K mg base CX0 1 A.law_mended P_law_mended spMnd) : Okd P w K mg base CX0 2 A.law_goal P_law_goal spGoalB := by
  obtain ⟨fd, F⟩ := T.d_law_goal
  obtain ⟨fd_law_mended, G_law_mended, b_law_mended⟩ := g_law_mended
  refine ⟨fd, F.ok sc_law_goal (fun vs H Q E h => ?_) (fun cdv A' outer s H vs Q E hr h => ?_), F.binds fun _ _ _ _ _ _ us hl => match us, hl with | [_, _, _], _ => rfl⟩
  · obtain ⟨a, p, c, ys, bits, bs, rfl, _⟩ := h
    rfl
  · obtain ⟨a, p, c, ys, bits, bs, rfl, ha, hb, hp, hc, h5, k⟩ := h
    refine ⟨_, (pss_cons (ps_set (i := 3) sc_law_goal.nd rfl (Or.inl rfl) (pe_callTy call_list_of (by rfl) T.n_list (by decide +kernel) (pa_cons (pv 0) pa_nil)))
      (pss_cons (ps_for PassesOwn.never rfl (pi_list (pv 1)) (pg_tup (by rfl) (pgs_cons (pg_name (i := 4) sc_law_goal.nd rfl (Or.inl rfl)) (pgs_cons (pg_name (i := 5) sc_law_goal.nd rfl (Or.inl rfl)) pgs_nil))) (pss_cons (ps_set (i := 6) sc_law_goal.nd rfl (Or.inl rfl) (pe_call G_law_mended (hr.mono (by decide)) (by rfl) T.g_law_mended T.k_law_mended b_law_mended .nil pass0 (pa_cons (pv 4) (pa_cons (pv 5) (pa_cons (pv 2) pa_nil)))))
      (pss_one (ps_for PassesOwn.never rfl (pi_range1 (by rfl) T.n_range (pa_cons (pe_callB call_len_seq (by rfl) T.n_len PySem.boot_len (pa_cons (pv 5) pa_nil)) pa_nil)) (pg_name (i := 7) sc_law_goal.nd rfl (Or.inl rfl)) (pss_one (ps_asg (pe_ix ix_list (pv 6) (pv 7) (fun _ _ => rfl)) (pg_sub (pv 3) (pe_ix ix_list (pv 5) (pv 7) (fun _ _ => rfl)) set_list)))))))
      (pss_one (ps_ret (pv 3))))), ?_⟩
    obtain ⟨qs, hQ, hql, hqa⟩ := hp
    refine ⟨_, rfl, a, _, rfl, Or.inl ha.sz, fun gq hgq => ?_⟩
    have gg : ListN (upd H gq (.lst (nI ys))) gq ys := upd_same
    have eG := Ex.new (o := .lst (nI ys)) hgq
    generalize upd H gq (.lst (nI ys)) = H1 at gg eG ⊢
    have npq : p ≠ gq := ne_of_none hQ hgq
    have ncq : c ≠ gq := ne_of_none hc hgq
    refine ⟨_, rfl, p, rfl, ⟨_, SqL.of (eG _ _ hQ)⟩, for_list (K := K) (a := p) (xs := qs.map V.ref) (fun i σ G => ∃ (v4 v5 v6 v7 : Option V), σ = [some (.ref a), some (.ref p), some (.ref c), some (.ref gq), v4, v5, v6, v7] ∧ Mut gq H1 G ∧ ListN G gq ((bs.take i).foldl (stG bits) ys)) ⟨none, none, none, none, rfl, Mut.refl gq H1, gg⟩ (fun i σ G _ ⟨_, _, _, _, _, M, _⟩ => SqL.of (M _ _ npq (eG _ _ hQ))) ?_ ?_⟩
    · rintro i x σ G hi ⟨v4, v5, v6, v7, rfl, M, hz⟩
      rw [List.getElem?_map] at hi
      cases hgi : qs[i]? with
      | none => rw [hgi] at hi; cases hi
      | some q =>
      rw [hgi] at hi
      injection hi with hi
      subst hi
      have hib : i < bs.length := by rw [← hql]; exact (List.getElem?_eq_some_iff.mp hgi).1
      have hbi : bs[i]? = some bs[i] := List.getElem?_eq_getElem hib
      obtain ⟨l, hq1, hq2⟩ := hqa i q _ hgi hbi
      obtain ⟨b8, bl, blt⟩ := hb _ (List.getElem_mem hib)
      rw [tk1 hbi, List.foldl_append, List.foldl_cons, List.foldl_nil]
      generalize bs[i] = b at hq1 hq2 b8 bl blt ⊢
      have nq : q ≠ gq := ne_of_none hq1 hgq
      have nl : l ≠ gq := ne_of_none hq2 hgq
      have hl4 : b.2.length ≤ 4 := by rw [bl]; exact fl_le
      have zl := goal_len (bits := bits) (bs.take i) ys
      generalize (bs.take i).foldl (stG bits) ys = zs at hz zl ⊢
      refine ⟨q, _, rfl, SqT.of (M _ _ nq (eG _ _ hq1)), rfl, _, _, rfl, _, _, rfl, rfl, ?_⟩
      have hlG : ListN G l b.2 := M _ _ nl (eG _ _ hq2)
      have hcG : ListN G c bits := M _ _ ncq (eG _ _ hc)
      refine ⟨_, rfl, _, rfl, _, rfl, l, c, b, bits, rfl, b8, hlG, bl, hcG, h5, fun nm G2 hnm e2 hn => ?_⟩
      have hz2 := hz.ex e2
      have nnm : nm ≠ gq := fun z => by rw [z, hz] at hnm; cases hnm
      have hl2 := hlG.ex e2
      refine ⟨_, rfl, l, _, rfl, .inl hl2.sz, _, rfl, by rw [nI_len]; omega, by rw [nI_len]; omega, ?_⟩
      rw [nI_len, Int.toNat_natCast]
      refine for_range (lo := 0) (n := b.2.length) (fun j σ G' => ∃ v7 : Option V, σ = [some (.ref a), some (.ref p), some (.ref c), some (.ref gq), some (.str (word b.1)), some (.ref l), some (.ref nm), v7] ∧ Mut gq G2 G' ∧ ListN G' gq (putL zs b.2 (mendG bits b) j)) ⟨_, rfl, Mut.refl gq G2, hz2⟩ ?_ ?_
      · rintro j σ G' hj ⟨v7', rfl, M', hz'⟩
        rw [Int.zero_add]
        have hl' : ListN G' l b.2 := M' _ _ nl hl2
        have hn' : ListN G' nm (mendG bits b) := M' _ _ nnm hn
        refine ⟨_, rfl, _, rfl, nm, _, _, _, rfl, rfl, hn'.sz, atN (by rw [mendG_len b8 bl]; exact hj), ?_⟩
        refine ⟨_, rfl, _, rfl, _, rfl, l, _, _, _, rfl, rfl, hl'.sz, atN hj, gq, _, _, b.2.getD j 0, rfl, rfl, hz', Evl.ixN_nat (by rw [nI_len, putL_len, zl]; exact blt _ (getD_mem hj)), ?_⟩
        refine ⟨_, rfl, fun d o hd ho => by rw [upd_ne hd]; exact M' d o hd ho, ?_⟩
        show upd G' gq _ gq = _
        rw [upd_same]
        show _ = some (HO.lst (nI ((putL zs b.2 (mendG bits b) j).set (b.2.getD j 0) ((mendG bits b).getD j 0))))
        unfold nI
        rw [List.map_set]
      · rintro σ G' ⟨v7', rfl, M', hz'⟩
        exact ⟨_, _, _, _, rfl, fun d o hd ho => M' d o hd (e2 d o (M d o hd ho)), hz'⟩
    · rintro σ G ⟨v4, v5, v6, v7, rfl, M, hz⟩
      rw [List.length_map, hql, List.take_length] at hz
      exact ⟨_, rfl, k gq G hgq (fun d o h => M d o (ne_of_none h hgq) (eG d o h)) hz⟩

end

section
variable {P : Program} {w : World} {K : PySem.W.Frag} {mg : Str → Option Value} {base : Heap} {A : Ad}
theorem Mend.uniq {f : Nat → Nat} {ys zs zs' : List Nat} {bs : List Bk} (M : Mend f ys bs zs) (M' : Mend f ys bs zs') : zs = zs' := by
  apply List.ext_getElem?
  intro x
  by_cases hx : x < ys.length
  · have g : ∀ l : List Nat, l.length = ys.length → l[x]? = some (l.getD x 0) := fun l hl => by
      rw [List.getD_eq_getElem?_getD, List.getElem?_eq_getElem (by omega)]
      rfl
    rw [g _ M.len, g _ M'.len]
    congr 1
    by_cases c : ∃ b ∈ bs, torn b = true ∧ x ∈ b.2
    · obtain ⟨b, hb, tb, hxb⟩ := c
      obtain ⟨j, hj, rfl⟩ := mem_getD hxb
      rw [M.at_ b hb tb j hj, M'.at_ b hb tb j hj]
    · have nx : ∀ b ∈ bs, torn b = true → x ∉ b.2 := fun b hb tb hxb => c ⟨b, hb, tb, hxb⟩
      rw [M.out x nx, M'.out x nx]
  · rw [List.getElem?_eq_none (by rw [M.len]; omega), List.getElem?_eq_none (by rw [M'.len]; omega)]
theorem op_inK {X : Cx} {K : PySem.W.Frag} (h : X.K = K) : OpR X (compareOp .In) (rIn K false) := by
  subst h
  exact op_in_seq
/-- the records whose names differ -/
def difF (ys zs : List Nat) (i : Nat) : List Nat := (List.range i).filter fun x => decide (ys.getD x 0 ≠ zs.getD x 0)
theorem dif_step {ys zs : List Nat} {i : Nat} : difF ys zs (i + 1) = difF ys zs i ++ (if decide (ys.getD i 0 ≠ zs.getD i 0) = true then [i] else []) := by
  unfold difF
  rw [List.range_succ, List.filter_append, List.filter_cons]
  split <;> rfl
theorem dif_len {ys zs : List Nat} {i : Nat} : (difF ys zs i).length ≤ i := by
  have := List.length_filter_le (fun x => decide (ys.getD x 0 ≠ zs.getD x 0)) (List.range i)
  rw [List.length_range] at this
  exact this
end

section
variable {P : Program} {w : World} {K : PySem.W.Frag} {mg : Str → Option Value} {base : Heap} {A : Ad}
/-! ### a torn piece, some of its names written -/
def stB : List (List Nat) := [[0, 0, 0, 0, 0], [0, 1, 0, 0, 0], [0, 0, 1, 0, 0], [0, 1, 1, 0, 0], [0, 0, 0, 0, 1], [0, 1, 0, 0, 1], [0, 0, 1, 0, 1], [0, 1, 1, 0, 1]]
def masks : Nat → List (List Bool)
  | 0 => [[]]
  | n + 1 => (masks n).flatMap fun m => [false :: m, true :: m]
theorem masks_mem : ∀ (m : List Bool), m ∈ masks m.length
  | [] => List.mem_singleton.mpr rfl
  | b :: m => List.mem_flatMap.mpr ⟨m, masks_mem m, by cases b <;> simp⟩
/-- the piece's own image, the marked places already as they are to be -/
def locF (w c : Nat) (m : List Bool) : List Nat := (List.range (form w).length).map fun j => if m.getD j false then (chF w c).getD j 0 else (form w).getD j 0
def subL (w c : Nat) (m : List Bool) : List Bk := (readG (locF w c m)).getD []
def okS (w c : Nat) (m : List Bool) : Bool := (List.range (form w).length).all fun j => !m.getD j false || !((form w).getD j 0 == (chF w c).getD j 0)
def stS (bits : List Nat) (w : Nat) (m : List Bool) : Bool :=
  !okS w (chB bits w) m ||
    ((((subL w (chB bits w) m).flatMap (·.2)).isPerm (List.range (form w).length)) &&
    (subL w (chB bits w) m).all (fun b => decide (b.1 < 8) && (b.2.length == (form b.1).length) && ((List.range b.2.length).all fun j => (locF w (chB bits w) m).getD (b.2.getD j 0) 0 == b.2.getD ((form b.1).getD j 0) 0)
      && (!torn b || (List.range b.2.length).all fun j => (chF w (chB bits w)).getD (b.2.getD j 0) 0 == b.2.getD ((chF b.1 (chB bits b.1)).getD j 0) 0)
      && (torn b || b.2.all fun x => (chF w (chB bits w)).getD x 0 == (locF w (chB bits w) m).getD x 0)
      && (b.1 != 7 || (subL w (chB bits w) m == [(w, List.range (form w).length)])))
    && (((List.range (form w).length).any fun j => !m.getD j false && !((form w).getD j 0 == (chF w (chB bits w)).getD j 0)) || (subL w (chB bits w) m).all fun b => decide (b.1 < 2)))
theorem st_all : (stB.all fun bits => (List.range 8).all fun w => decide (w < 2) || (masks (form w).length).all fun m => stS bits w m) = true := by decide +kernel
theorem chF_len : ((List.range 8).all fun w => decide (w < 2) || (List.range 2).all fun c => (chF w c).length == (form w).length) = true := by decide +kernel
structure Sub (bits : List Nat) (w : Nat) (m : List Bool) (cs : List Bk) : Prop where
  perm : (cs.flatMap (·.2)).Perm (List.range (form w).length)
  w8 : ∀ b ∈ cs, b.1 < 8
  len : ∀ b ∈ cs, b.2.length = (form b.1).length
  at_ : ∀ b ∈ cs, ∀ j, j < b.2.length → (locF w (chB bits w) m).getD (b.2.getD j 0) 0 = b.2.getD ((form b.1).getD j 0) 0
  tn : ∀ b ∈ cs, torn b = true → ∀ j, j < b.2.length → (chF w (chB bits w)).getD (b.2.getD j 0) 0 = b.2.getD ((chF b.1 (chB bits b.1)).getD j 0) 0
  wh : ∀ b ∈ cs, torn b = false → ∀ x ∈ b.2, (chF w (chB bits w)).getD x 0 = (locF w (chB bits w) m).getD x 0
  sv : ∀ b ∈ cs, b.1 = 7 → cs = [(w, List.range (form w).length)]
  all : (∀ j, j < (form w).length → (form w).getD j 0 ≠ (chF w (chB bits w)).getD j 0 → m.getD j false = true) → ∀ b ∈ cs, b.1 < 2
theorem sub_of {bits : List Nat} (hb : bits ∈ stB) {w : Nat} (h1 : 1 < w) (h8 : w < 8) {m : List Bool} (hm : m.length = (form w).length) (ok : ∀ j, j < (form w).length → m.getD j false = true → (form w).getD j 0 ≠ (chF w (chB bits w)).getD j 0) : Sub bits w m (subL w (chB bits w) m) := by
  have h := st_all
  rw [List.all_eq_true] at h
  have h := h bits hb
  rw [List.all_eq_true] at h
  have h := h w (List.mem_range.mpr h8)
  rw [decide_eq_false (by omega), Bool.false_or, List.all_eq_true] at h
  have h := h m (hm ▸ masks_mem m)
  have hok : okS w (chB bits w) m = true := by
    unfold okS
    rw [List.all_eq_true]
    intro j hj
    have hj := List.mem_range.mp hj
    cases c : m.getD j false with
    | false => rfl
    | true =>
      have := ok j hj c
      rw [Bool.not_true, Bool.false_or, Bool.not_eq_true', beq_eq_false_iff_ne]
      exact this
  unfold stS at h
  rw [hok, Bool.not_true, Bool.false_or, Bool.and_eq_true, Bool.and_eq_true] at h
  obtain ⟨⟨h1', h2⟩, h3⟩ := h
  have key : ∀ b ∈ subL w (chB bits w) m, b.1 < 8 ∧ b.2.length = (form b.1).length ∧ (∀ j, j < b.2.length → (locF w (chB bits w) m).getD (b.2.getD j 0) 0 = b.2.getD ((form b.1).getD j 0) 0) ∧
      (torn b = true → ∀ j, j < b.2.length → (chF w (chB bits w)).getD (b.2.getD j 0) 0 = b.2.getD ((chF b.1 (chB bits b.1)).getD j 0) 0) ∧ (torn b = false → ∀ x ∈ b.2, (chF w (chB bits w)).getD x 0 = (locF w (chB bits w) m).getD x 0) ∧
      (b.1 = 7 → subL w (chB bits w) m = [(w, List.range (form w).length)]) := fun b hb => by
    have := List.all_eq_true.mp h2 b hb
    simp only [Bool.and_eq_true, decide_eq_true_eq, beq_iff_eq] at this
    obtain ⟨⟨⟨⟨⟨x1, x2⟩, x3⟩, x4⟩, x5⟩, x6⟩ := this
    refine ⟨x1, x2, fun j hj => beq_iff_eq.mp (List.all_eq_true.mp x3 j (List.mem_range.mpr hj)), fun t j hj => ?_, fun t x hx => ?_, fun e => ?_⟩
    · rw [t, Bool.not_true, Bool.false_or] at x4
      exact beq_iff_eq.mp (List.all_eq_true.mp x4 j (List.mem_range.mpr hj))
    · rw [t, Bool.false_or] at x5
      exact beq_iff_eq.mp (List.all_eq_true.mp x5 x hx)
    · rw [e] at x6
      simpa using x6
  refine ⟨List.isPerm_iff.mp h1', fun b hb => (key b hb).1, fun b hb => (key b hb).2.1, fun b hb => (key b hb).2.2.1, fun b hb => (key b hb).2.2.2.1, fun b hb => (key b hb).2.2.2.2.1, fun b hb => (key b hb).2.2.2.2.2, fun al b hb => ?_⟩
  rw [Bool.or_eq_true] at h3
  rcases h3 with h3 | h3
  · obtain ⟨j, hj, h3⟩ := List.any_eq_true.mp h3
    rw [Bool.and_eq_true] at h3
    have := al j (List.mem_range.mp hj) (by simpa using h3.2)
    rw [this] at h3
    exact absurd h3.1 (by decide)
  · exact of_decide_eq_true (List.all_eq_true.mp h3 b hb)
/-! ### all pieces -/
theorem getD_mapf {α : Type} {l : List α} {f : α → Nat} {d : α} {j : Nat} (h : j < l.length) : (l.map f).getD j 0 = f (l.getD j d) := by
  rw [List.getD_eq_getElem?_getD, List.getElem?_map, List.getD_eq_getElem?_getD, List.getElem?_eq_getElem h]
  rfl
theorem getD_mapb {l : List Nat} {f : Nat → Bool} {j : Nat} (h : j < l.length) : (l.map f).getD j false = f (l.getD j 0) := by
  rw [List.getD_eq_getElem?_getD, List.getElem?_map, List.getD_eq_getElem?_getD, List.getElem?_eq_getElem h]
  rfl
theorem getD_rangef {n j : Nat} {f : Nat → Nat} (h : j < n) : ((List.range n).map f).getD j 0 = f j := by
  rw [List.getD_eq_getElem?_getD, List.getElem?_map, List.getElem?_range h]
  rfl
def mrk (ds ms : List Nat) : List Bool := ms.map fun x => decide (x ∈ ds)
def subG (bits ds : List Nat) (b : Bk) : List Bk := if b.1 < 2 then [b] else (subL b.1 (chB bits b.1) (mrk ds b.2)).map fun c => (c.1, c.2.map fun i => b.2.getD i 0)
def rowT (ys zs ds : List Nat) : List Nat := (List.range ys.length).map fun x => if x ∈ ds then zs.getD x 0 else ys.getD x 0
structure Row (bits ys zs ds : List Nat) (bs : List Bk) : Prop where
  hb : bits ∈ stB
  G : Good ys bs
  M : Mend (chB bits) ys bs zs
  d : ∀ x ∈ ds, x < ys.length ∧ ys.getD x 0 ≠ zs.getD x 0
theorem chB_st {bits : List Nat} (hb : bits ∈ stB) (w : Nat) : chB bits w < 2 := by
  have : (stB.all fun bits => (List.range 8).all fun w => decide (chB bits w < 2)) = true := by decide
  rw [List.all_eq_true] at this
  have := this bits hb
  rw [List.all_eq_true] at this
  by_cases h : w < 8
  · exact of_decide_eq_true (this w (List.mem_range.mpr h))
  · unfold chB
    split <;> first | (exfalso; omega) | decide
theorem chF_lenw {bits : List Nat} (hb : bits ∈ stB) {w : Nat} (h1 : 1 < w) (h8 : w < 8) : (chF w (chB bits w)).length = (form w).length := by
  have := chF_len
  rw [List.all_eq_true] at this
  have := this w (List.mem_range.mpr h8)
  rw [decide_eq_false (by omega), Bool.false_or, List.all_eq_true] at this
  exact beq_iff_eq.mp (this _ (List.mem_range.mpr (chB_st hb w)))
theorem chF_lts : ((List.range 8).all fun w => decide (w < 2) || (List.range 2).all fun c => (List.range (form w).length).all fun j => decide ((chF w c).getD j 0 < (form w).length)) = true := by decide +kernel
theorem chF_lt_all {bits : List Nat} (hb : bits ∈ stB) {w : Nat} (h1 : 1 < w) (h8 : w < 8) (j : Nat) (hj : j < (form w).length) : (chF w (chB bits w)).getD j 0 < (form w).length := by
  have := chF_lts
  rw [List.all_eq_true] at this
  have := this w (List.mem_range.mpr h8)
  rw [decide_eq_false (by omega), Bool.false_or, List.all_eq_true] at this
  have := this _ (List.mem_range.mpr (chB_st hb w))
  exact of_decide_eq_true (List.all_eq_true.mp this j (List.mem_range.mpr hj))
variable {bits ys zs ds : List Nat} {bs : List Bk}
theorem Row.at_ (R : Row bits ys zs ds bs) {x : Nat} (hx : x < ys.length) : (rowT ys zs ds).getD x 0 = if x ∈ ds then zs.getD x 0 else ys.getD x 0 := getD_rangef hx
theorem Row.lenR (R : Row bits ys zs ds bs) : (rowT ys zs ds).length = ys.length := by
  unfold rowT
  rw [List.length_map, List.length_range]
theorem Row.whole (R : Row bits ys zs ds bs) {b : Bk} (hb : b ∈ bs) (h : b.1 < 2) {x : Nat} (hx : x ∈ b.2) : zs.getD x 0 = ys.getD x 0 ∧ x ∉ ds := by
  have e : zs.getD x 0 = ys.getD x 0 := R.M.out x fun c hc tc hxc => by
    have := uniq R.G.built.nd hb hc hx hxc
    subst this
    have := of_decide_eq_true (show decide (1 < b.1) = true from tc)
    omega
  exact ⟨e, fun hd => (R.d x hd).2 e.symm⟩
theorem Row.loc (R : Row bits ys zs ds bs) {b : Bk} (hb : b ∈ bs) (h : 1 < b.1) {i : Nat} (hi : i < b.2.length) : (rowT ys zs ds).getD (b.2.getD i 0) 0 = b.2.getD ((locF b.1 (chB bits b.1) (mrk ds b.2)).getD i 0) 0 := by
  have B := R.G.built.blk b hb
  have hx := R.G.built.lt hb (getD_mem hi)
  have hl : i < (form b.1).length := by rw [← B.len]; exact hi
  rw [R.at_ hx]
  unfold locF
  rw [getD_rangef hl]
  unfold mrk
  rw [getD_mapb hi]
  by_cases c : b.2.getD i 0 ∈ ds
  · rw [if_pos c, if_pos (decide_eq_true c)]
    exact R.M.at_ b hb (decide_eq_true h) i hi
  · rw [if_neg c, if_neg (by rw [decide_eq_false c]; decide)]
    exact B.sh i hi
theorem Row.sub (R : Row bits ys zs ds bs) {b : Bk} (hb : b ∈ bs) (h : 1 < b.1) : Sub bits b.1 (mrk ds b.2) (subL b.1 (chB bits b.1) (mrk ds b.2)) := by
  have B := R.G.built.blk b hb
  refine sub_of R.hb h B.w (by unfold mrk; rw [List.length_map]; exact B.len) fun j hj hm e => ?_
  have hj' : j < b.2.length := by rw [B.len]; exact hj
  unfold mrk at hm
  rw [getD_mapb hj'] at hm
  have hd := (R.d _ (of_decide_eq_true hm)).2
  rw [R.M.at_ b hb (decide_eq_true h) j hj', B.sh j hj', e] at hd
  exact hd rfl
theorem Row.idx (R : Row bits ys zs ds bs) {b : Bk} (hb : b ∈ bs) (h : 1 < b.1) {c : Bk} (hc : c ∈ subL b.1 (chB bits b.1) (mrk ds b.2)) {i : Nat} (hi : i ∈ c.2) : i < b.2.length := by
  have S := R.sub hb h
  have := S.perm.mem_iff.mp (List.mem_flatMap.mpr ⟨c, hc, hi⟩)
  rw [(R.G.built.blk b hb).len]
  exact List.mem_range.mp this
theorem Row.flat1 (R : Row bits ys zs ds bs) {b : Bk} (hb : b ∈ bs) : ((subG bits ds b).flatMap (·.2)).Perm b.2 := by
  unfold subG
  split
  · show ([b].flatMap fun z => z.2).Perm b.2
    simp
  · rename_i h
    have S := R.sub hb (by omega)
    have e : (((subL b.1 (chB bits b.1) (mrk ds b.2)).map fun c => ((c.1, c.2.map fun i => b.2.getD i 0) : Bk)).flatMap (·.2)) = ((subL b.1 (chB bits b.1) (mrk ds b.2)).flatMap (·.2)).map fun i => b.2.getD i 0 := by
      rw [List.flatMap_map, List.map_flatMap]
    rw [e]
    have := S.perm.map fun i => b.2.getD i 0
    rw [← (R.G.built.blk b hb).len, range_getD] at this
    exact this
theorem Row.blk1 (R : Row bits ys zs ds bs) {b : Bk} (hb : b ∈ bs) : ∀ c ∈ subG bits ds b, Blk (rowT ys zs ds) c := by
  intro c hc
  have B := R.G.built.blk b hb
  unfold subG at hc
  split at hc
  · rename_i h
    rw [List.mem_singleton] at hc
    subst hc
    refine ⟨B.w, B.len, fun k hk => ?_⟩
    have hx := getD_mem hk
    obtain ⟨_, nd⟩ := R.whole hb h hx
    rw [R.at_ (R.G.built.lt hb hx), if_neg nd]
    exact B.sh k hk
  · rename_i h
    have S := R.sub hb (by omega)
    obtain ⟨c0, h0, rfl⟩ := List.mem_map.mp hc
    refine ⟨S.w8 c0 h0, by show (List.map _ _).length = _; rw [List.length_map]; exact S.len c0 h0, fun k hk => ?_⟩
    have hk : k < c0.2.length := by
      have : (List.map (fun i => b.2.getD i 0) c0.2).length = c0.2.length := List.length_map _
      rw [← this]
      exact hk
    have hi := R.idx hb (by omega) h0 (getD_mem hk)
    show (rowT ys zs ds).getD ((c0.2.map fun i => b.2.getD i 0).getD k 0) 0 = (c0.2.map fun i => b.2.getD i 0).getD ((form c0.1).getD k 0) 0
    rw [getD_map hk, R.loc hb (by omega) hi, S.at_ c0 h0 k hk]
    have hk2 : (form c0.1).getD k 0 < c0.2.length := by
      rw [S.len c0 h0]
      exact form_lt _ _ (by rw [← S.len c0 h0]; exact hk)
    rw [getD_map hk2]
theorem Row.bt (R : Row bits ys zs ds bs) : Bt (rowT ys zs ds) (bs.flatMap (subG bits ds)) := by
  refine ⟨fun c hc => ?_, ?_, by rw [R.lenR]; exact R.G.len⟩
  · obtain ⟨b, hb, hc⟩ := List.mem_flatMap.mp hc
    exact R.blk1 hb c hc
  · rw [R.lenR]
    refine List.Perm.trans ?_ R.G.built.perm
    rw [List.flatMap_assoc]
    have all : ∀ b ∈ bs, ((subG bits ds b).flatMap (·.2)).Perm b.2 := fun b hb => R.flat1 hb
    clear R
    induction bs with
    | nil => exact .nil
    | cons b bs ih =>
      rw [List.flatMap_cons, List.flatMap_cons]
      exact (all b (List.mem_cons_self ..)).append (ih fun c hc => all c (List.mem_cons_of_mem _ hc))
theorem pm_comm_all : ((List.range 7).all fun w => decide (w < 2) || (pmF w).all fun q => (q.length == (form w).length) && (List.range 2).all fun c => (List.range (form w).length).all fun j => decide (q.getD j 0 < (form w).length) && decide ((chF w c).getD j 0 < (form w).length) && q.getD ((chF w c).getD j 0) 0 == (chF w c).getD (q.getD j 0) 0) = true := by decide +kernel
theorem pm_comm {w : Nat} (h1 : 1 < w) (h7 : w < 7) {q : List Nat} (hq : q ∈ pmF w) {c : Nat} (hc : c < 2) : q.length = (form w).length ∧ ∀ j, j < (form w).length → q.getD j 0 < (form w).length ∧ (chF w c).getD j 0 < (form w).length ∧ q.getD ((chF w c).getD j 0) 0 = (chF w c).getD (q.getD j 0) 0 := by
  have h := pm_comm_all
  rw [List.all_eq_true] at h
  have h := h w (List.mem_range.mpr h7)
  rw [decide_eq_false (by omega), Bool.false_or, List.all_eq_true] at h
  have h := h q hq
  rw [Bool.and_eq_true, beq_iff_eq, List.all_eq_true] at h
  refine ⟨h.1, fun j hj => ?_⟩
  have h := List.all_eq_true.mp (h.2 c (List.mem_range.mpr hc)) j (List.mem_range.mpr hj)
  rw [Bool.and_eq_true, Bool.and_eq_true, decide_eq_true_eq, decide_eq_true_eq, beq_iff_eq] at h
  exact ⟨h.1.1, h.1.2, h.2⟩
theorem canon_id7 {ms : List Nat} (C : Canon (7, ms)) (hl : ms.length = 4) : canon 7 ms = ms := by
  have h0 : ms.getD 0 0 = mn ms := C.wheel rfl
  match ms, hl, h0 with
  | [a, b, c, d], _, h0 =>
    unfold canon
    rw [if_neg (fun z => by cases z.1), if_neg (fun z => by cases z.1), if_pos rfl, ← h0]
    have i0 : List.idxOf ([a, b, c, d].getD 0 0) [a, b, c, d] = 0 := List.idxOf_cons_self
    rw [i0]
    rfl
theorem Row.sub_in (R : Row bits ys zs ds bs) {c : Bk} (hc : c ∈ bs.flatMap (subG bits ds)) : ∃ b ∈ bs, (b.1 < 2 ∧ c = b) ∨ (1 < b.1 ∧ ∃ c0 ∈ subL b.1 (chB bits b.1) (mrk ds b.2), c = (c0.1, c0.2.map fun i => b.2.getD i 0)) := by
  obtain ⟨b, hb, hc⟩ := List.mem_flatMap.mp hc
  refine ⟨b, hb, ?_⟩
  unfold subG at hc
  split at hc
  · rename_i h
    exact .inl ⟨h, List.mem_singleton.mp hc⟩
  · rename_i h
    obtain ⟨c0, h0, e⟩ := List.mem_map.mp hc
    exact .inr ⟨by omega, c0, h0, e.symm⟩
theorem Row.mend (R : Row bits ys zs ds bs) {bs2 : List Bk} (hp : bs2.Perm ((bs.flatMap (subG bits ds)).map canB)) : Mend (chB bits) (rowT ys zs ds) bs2 zs := by
  refine ⟨by rw [R.lenR]; exact R.M.len, fun b2 hb2 t2 j hj => ?_, fun x hx => ?_⟩
  · obtain ⟨c, hc, rfl⟩ := List.mem_map.mp (hp.mem_iff.mp hb2)
    obtain ⟨b, hb, h⟩ := R.sub_in hc
    rcases h with ⟨h, rfl⟩ | ⟨h, c0, h0, rfl⟩
    · have := of_decide_eq_true (show decide (1 < (canB c).1) = true from t2)
      have : 1 < c.1 := this
      omega
    have S := R.sub hb h
    have B := R.G.built.blk b hb
    have t0 : 1 < c0.1 := of_decide_eq_true (show decide (1 < c0.1) = true from t2)
    by_cases h7 : c0.1 = 7
    · have sv := S.sv c0 h0 h7
      rw [sv, List.mem_singleton] at h0
      have e1 : b.1 = 7 := by rw [h0] at h7; exact h7
      have e2 : (c0.1, c0.2.map fun i => b.2.getD i 0) = b := by
        rw [h0]
        show (b.1, (List.range (form b.1).length).map fun i => b.2.getD i 0) = b
        rw [← B.len, range_getD]
      rw [e2] at hj ⊢
      have e3 : canB b = b := by
        unfold canB
        rw [e1, canon_id7 (by rw [← e1]; exact R.G.can b hb) (by rw [B.len, e1]; rfl), ← e1]
      rw [e3] at hj ⊢
      exact R.M.at_ b hb (decide_eq_true h) j hj
    · have w8 := S.w8 c0 h0
      have sl := S.len c0 h0
      generalize hm : (c0.2.map fun i => b.2.getD i 0) = m at hj ⊢
      have ml : m.length = (form c0.1).length := by rw [← hm, List.length_map]; exact sl
      obtain ⟨q, hq, e⟩ := canon_pm w8 t0 ml
      obtain ⟨ql, qa⟩ := pm_comm t0 (by omega) hq (chB_st R.hb c0.1)
      have hj : j < (form c0.1).length := by
        have : (canon c0.1 m).length = q.length := by rw [e, List.length_map]
        rw [← ql, ← this]
        exact hj
      obtain ⟨q1, q2, q3⟩ := qa j hj
      show zs.getD ((canon c0.1 m).getD j 0) 0 = (canon c0.1 m).getD ((chF c0.1 (chB bits c0.1)).getD j 0) 0
      rw [e, getD_map (by rw [ql]; exact hj), getD_map (by rw [ql]; exact q2), q3, ← hm]
      have k1 : q.getD j 0 < c0.2.length := by rw [sl]; exact q1
      have k2 : (chF c0.1 (chB bits c0.1)).getD (q.getD j 0) 0 < c0.2.length := by rw [sl]; exact (qa _ q1).2.1
      rw [getD_map k1, getD_map k2, ← S.tn c0 h0 (decide_eq_true t0) _ k1]
      exact R.M.at_ b hb (decide_eq_true h) _ (R.idx hb h h0 (getD_mem k1))
  · by_cases hn : x < ys.length
    · obtain ⟨b, hb, hxb⟩ := R.G.built.of hn
      by_cases h : b.1 < 2
      · obtain ⟨e, nd⟩ := R.whole hb h hxb
        rw [R.at_ hn, if_neg nd, e]
      · obtain ⟨i, hi, rfl⟩ := mem_getD hxb
        have h : 1 < b.1 := by omega
        have S := R.sub hb h
        have B := R.G.built.blk b hb
        have : i ∈ (subL b.1 (chB bits b.1) (mrk ds b.2)).flatMap (·.2) := S.perm.mem_iff.mpr (List.mem_range.mpr (by rw [← B.len]; exact hi))
        obtain ⟨c0, h0, hi0⟩ := List.mem_flatMap.mp this
        have nt : torn c0 = false := by
          cases t : torn c0 with
          | false => rfl
          | true =>
            have hc : (c0.1, c0.2.map fun i => b.2.getD i 0) ∈ bs.flatMap (subG bits ds) := by
              refine List.mem_flatMap.mpr ⟨b, hb, ?_⟩
              unfold subG
              rw [if_neg (by omega)]
              exact List.mem_map.mpr ⟨c0, h0, rfl⟩
            refine absurd ?_ (hx _ (hp.mem_iff.mpr (List.mem_map.mpr ⟨_, hc, rfl⟩)) t)
            show b.2.getD i 0 ∈ canon c0.1 _
            rw [(canon_perm (w := c0.1) (by rw [List.length_map]; exact S.len c0 h0)).mem_iff]
            exact List.mem_map.mpr ⟨i, hi0, rfl⟩
        rw [R.loc hb h hi, ← S.wh c0 h0 nt i hi0]
        exact R.M.at_ b hb (decide_eq_true h) i hi
    · have z1 : zs.getD x 0 = 0 := by
        rw [List.getD_eq_getElem?_getD, List.getElem?_eq_none (by rw [R.M.len]; omega)]
        rfl
      have z2 : (rowT ys zs ds).getD x 0 = 0 := by
        rw [List.getD_eq_getElem?_getD, List.getElem?_eq_none (by rw [R.lenR]; omega)]
        rfl
      rw [z1, z2]
theorem Row.next (R : Row bits ys zs ds bs) : ∃ bs2, Good (rowT ys zs ds) bs2 ∧ Mend (chB bits) (rowT ys zs ds) bs2 zs ∧ ((∀ x, x < ys.length → ys.getD x 0 ≠ zs.getD x 0 → x ∈ ds) → ∀ b ∈ bs2, b.1 < 2) := by
  obtain ⟨bs2, hp, hs⟩ := sort_ex ((bs.flatMap (subG bits ds)).map canB)
  refine ⟨bs2, R.bt.good hp hs, R.mend hp, fun al b2 hb2 => ?_⟩
  obtain ⟨c, hc, rfl⟩ := List.mem_map.mp (hp.mem_iff.mp hb2)
  obtain ⟨b, hb, h⟩ := R.sub_in hc
  rcases h with ⟨h, rfl⟩ | ⟨h, c0, h0, rfl⟩
  · exact h
  · have S := R.sub hb h
    have B := R.G.built.blk b hb
    refine S.all (fun j hj ne => ?_) c0 h0
    have hj : j < b.2.length := by rw [B.len]; exact hj
    unfold mrk
    rw [getD_mapb hj]
    refine decide_eq_true (al _ (R.G.built.lt hb (getD_mem hj)) ?_)
    rw [R.M.at_ b hb (decide_eq_true h) j hj, B.sh j hj]
    intro z
    have B1 : (form b.1).getD j 0 < b.2.length := by
      rw [B.len]
      exact form_lt _ _ (by rw [← B.len]; exact hj)
    have lw := chF_lt_all R.hb h B.w j (by rw [← B.len]; exact hj)
    exact ne (nd_getD (nd_of R.G.built.nd hb) B1 (by rw [B.len]; exact lw) z)
/-- all is written: nothing is torn, and a repair changes nothing -/
theorem Row.done (G : Good ys bs) (h : ∀ b ∈ bs, b.1 < 2) {f : Nat → Nat} (M : Mend f ys bs zs) : zs = ys := by
  apply List.ext_getElem?
  intro x
  by_cases hx : x < ys.length
  · have g : ∀ l : List Nat, l.length = ys.length → l[x]? = some (l.getD x 0) := fun l hl => by
      rw [List.getD_eq_getElem?_getD, List.getElem?_eq_getElem (by omega)]
      rfl
    rw [g _ M.len, g _ rfl, M.out x fun c hc tc _ => by
      have := of_decide_eq_true (show decide (1 < c.1) = true from tc)
      have := h c hc
      omega]
  · rw [List.getElem?_eq_none (by rw [M.len]; omega), List.getElem?_eq_none (by omega)]
end

section
variable {P : Program} {w : World} {K : PySem.W.Frag} {mg : Str → Option Value} {base : Heap} {A : Ad}
theorem dec_nat16 (x y : Nat) : decide (V.int (x : Int) = V.int (y : Int)) = decide (x = y) := by
  rw [Bool.eq_iff_iff, decide_eq_true_eq, decide_eq_true_eq]
  constructor
  · intro h
    have := V.int.inj h
    omega
  · intro h
    rw [h]
def spWrt (A : Ad) : Sp := fun vs H Q _ => ∃ (a : Addr) (v : V) (ys rb : List Nat) (bs : List Bk), vs = [.ref a, v] ∧ ListN H a ys ∧ Good ys bs ∧ RuV A H v rb ∧ ∀ p zs H', H p = none → Ex H H' → Mend (chB rb) ys bs zs → ListN H' p (difF ys zs ys.length) → Q (.ref p) H'
def Okd_writes (P : Program) (w : World) (K : PySem.W.Frag) (mg : Str → Option Value) (base : Heap) (A : Ad) : Prop :=
  ∃ fd, FnOk P w K mg base CX0 8 A.writes fd P_writes (spWrt A) ∧ (∃ ds, Vals [V.non] ds ∧ Binds K fd P_writes ds) ∧ ∃ ds, Vals [] ds ∧ Binds K fd P_writes ds
theorem ways_writes {K : PySem.W.Frag} {f : Addr} {fd : FuncData} (F : FunD K "writes" "writes" (defArgs s_writes) (defBody s_writes) (defScope s_writes) [V.non] [] f fd) :
    (∃ ds, Vals [V.non] ds ∧ Binds K fd P_writes ds) ∧ ∃ ds, Vals [] ds ∧ Binds K fd P_writes ds := by
  refine ⟨F.binds1 1 0 (by simp) rfl ?_, F.binds1 2 1 (by simp) rfl ?_⟩
  · intro T kV doc pm an cdv ct us its l1 l2
    match us, l1, its, l2 with
    | [u0], _, [v], _ => exact ⟨_, rfl, rfl⟩
  · intro T kV doc pm an cdv ct us its l1 l2
    match us, l1, its, l2 with
    | [u0, u1], _, [v], _ => exact ⟨_, rfl, rfl⟩
theorem ok_writes (T : Txt K mg A) (g_repair : OkdR P w K mg base A)  : Okd_writes P w K mg base A := by
  obtain ⟨fd, F⟩ := T.d_writes
  obtain ⟨fd_repair, G_repair, ⟨ds1_repair, v1_repair, b1_repair⟩, ⟨ds2_repair, v2_repair, b2_repair⟩⟩ := g_repair

  refine ⟨fd, F.ok sc_writes (fun vs H Q E h => ?_) (fun cdv A' outer s H vs Q E hr h => ?_), ways_writes F⟩
  · obtain ⟨a, v, ys, rb, bs, rfl, _⟩ := h
    rfl
  · obtain ⟨a, v, ys, rb, bs, rfl, hx, hG, RV, k⟩ := h
    refine ⟨_, PSs.nox (pss_cons (ps_set (i := 2) sc_writes.nd rfl (Or.inr rfl) (pe_call G_repair (hr.mono (by decide)) (by rfl) T.g_repair T.k_repair b2_repair v2_repair pass0 (pa_cons (pv 0) (pa_cons (pv 1) pa_nil))))
      (pss_one (ps_ret (pe_lc (own := [("record", 4), ("name", 3)]) (g := gTup K 2 (gCons (gName 4) (gCons (gName 3) gNil))) (tt := _) (by rfl) sc_writes.nd (pi_enum (by rfl) T.n_enumerate (pa_cons (pv 0) pa_nil)) (blkOk_by (own := [("record", 4), ("name", 3)]) (N := N_writes) (sc := defScope s_writes) (by decide +kernel)) (fun _ _ _ _ _ => (pg_tup (by rfl) (pgs_cons (pg_name (i := 4) sc_writes.nd rfl (Or.inl rfl)) (pgs_cons (pg_name (i := 3) sc_writes.nd rfl (Or.inl rfl)) pgs_nil)))) (fun _ _ _ _ _ => (pts_one (pt_cmpR op_ne (pv 3) (pe_ix (ix_listK (K := K) rfl) (pv 2) (pv 4) (fun _ _ => rfl)) (nomark _)))) (fun _ _ _ _ _ => (pv 4)))))), ?_⟩
    have h64 := hG.len
    refine ⟨_, rfl, _, rfl, a, v, ys, rb, bs, rfl, hx, hG, RV, fun s1 zs H1 hs1 e1 lz M => ?_⟩
    have ha1 := hx.ex e1
    refine ⟨_, rfl, a, _, rfl, ha1.sz, fun D hD => ?_⟩
    refine lc_it walk_enum (fun i G => Ex H1 G ∧ ListN G D (difF ys zs i)) ⟨Ex.new hD, upd_same⟩ (fun i G _ p => (ha1.ex p.1).sz) ?_ ?_
    · rintro i x G G2 hi ⟨e2, hd2⟩ ⟨T0, y1, y2, rfl, hT, rfl, q1, q2⟩
      have hi : i < ys.length := by rw [nI_len] at hi; exact hi
      cases q1
      obtain ⟨_, rfl⟩ := nat_at q2
      have nDT : D ≠ T0 := ne_of_none hd2 hT
      refine ⟨T0, _, rfl, SqT.of upd_same, rfl, _, _, rfl, _, _, rfl, rfl, rfl, ?_⟩
      have eT : Ex H1 (upd G T0 (.tup [.int (i : Nat), .int ((ys.getD i 0 : Nat) : Int)])) := ex_new e2 hT
      have dT : ListN (upd G T0 (.tup [.int (i : Nat), .int ((ys.getD i 0 : Nat) : Int)])) D (difF ys zs i) := by
        show upd G T0 _ D = _
        rw [upd_ne nDT]
        exact hd2
      have lz2 := lz.ex eT
      generalize upd G T0 (.tup [.int (i : Nat), .int ((ys.getD i 0 : Nat) : Int)]) = G3 at eT dT lz2 ⊢
      refine ⟨_, rfl, _, rfl, _, rfl, s1, _, _, _, rfl, rfl, lz2.sz, atN (by rw [M.len]; exact hi), ?_⟩
      refine ⟨rfl, _, rfl, ?_⟩
      rw [dif_step, dec_nat16]
      refine ite_b (fun c => ?_) (fun c => ?_)
      · have c' : ys.getD i 0 ≠ zs.getD i 0 := by simpa using c
        rw [if_pos (decide_eq_true c')]
        refine ⟨_, rfl, _, dT, ?_, fun b o ho => ?_, ?_⟩
        · have := dif_len (ys := ys) (zs := zs) (i := i)
          rw [nI_len]
          exact Nat.lt_of_le_of_lt this (Nat.lt_of_lt_of_le hi (Nat.le_trans h64 (by show 64 ≤ sizeLine; decide)))
        · rw [upd_ne (ne_of_none ho hD)]
          exact eT b o ho
        · show upd G3 D _ D = _
          rw [upd_same, nI_app]
      · have c' : ¬ ys.getD i 0 ≠ zs.getD i 0 := by simpa using c
        rw [if_neg (by rw [decide_eq_false c']; decide), List.append_nil]
        exact ⟨eT, dT⟩
    · rintro G ⟨e2, hd2⟩
      rw [nI_len] at hd2
      exact k D zs G (back_none e1 hD) (e1.trans e2) M hd2

end

section
variable {P : Program} {w : World} {K : PySem.W.Frag} {mg : Str → Option Value} {base : Heap} {A : Ad}
def torF (ys zs ds : List Nat) (i : Nat) : List Nat := (List.range i).map fun x => if x ∈ ds then zs.getD x 0 else ys.getD x 0
theorem tor_step {ys zs ds : List Nat} {i : Nat} : torF ys zs ds (i + 1) = torF ys zs ds i ++ [if i ∈ ds then zs.getD i 0 else ys.getD i 0] := by
  unfold torF
  rw [List.range_succ, List.map_append]
  rfl
theorem tor_len {ys zs ds : List Nat} {i : Nat} : (torF ys zs ds i).length = i := by
  unfold torF
  rw [List.length_map, List.length_range]
def spTRin (A : Ad) : Sp := fun vs H Q _ => ∃ (a d : Addr) (v : V) (ys rb ds : List Nat) (bs : List Bk), vs = [.ref a, v, .ref d] ∧ ListN H a ys ∧ Good ys bs ∧ RuV A H v rb ∧ H d = some (.tup (nI ds)) ∧ (∀ zs, Mend (chB rb) ys bs zs → ∀ x ∈ ds, x ∈ difF ys zs ys.length) ∧
  ∀ p zs H', H p = none → Ex H H' → Mend (chB rb) ys bs zs → ListN H' p (torF ys zs ds ys.length) → Q (.ref p) H'
/-- f(image, .., rules = v) -/
def spTR (A : Ad) : List V → List V → Hp → VK → XK → Prop := fun vs ws H Q _ => ∃ (a : Addr) (v : V) (ys rb ds : List Nat) (bs : List Bk), vs = .ref a :: nI ds ∧ ws = [v] ∧ ds.length ≤ 1000 ∧ ListN H a ys ∧ Good ys bs ∧ RuV A H v rb ∧ (∀ zs, Mend (chB rb) ys bs zs → ∀ x ∈ ds, x ∈ difF ys zs ys.length) ∧
  ∀ p zs H', H p = none → Ex H H' → Mend (chB rb) ys bs zs → ListN H' p (torF ys zs ds ys.length) → Q (.ref p) H'
def OkdTR (P : Program) (w : World) (K : PySem.W.Frag) (mg : Str → Option Value) (base : Heap) (A : Ad) : Prop := StK.FnK P w K mg base CX0 9 A.torn_repair ["rules"] (spTR A)
theorem ok_torn_repair (T : Txt K mg A) (g_repair : OkdR P w K mg base A) (g_writes : Okd_writes P w K mg base A) : OkdTR P w K mg base A := by
  obtain ⟨fd, F⟩ := T.d_torn_repair
  obtain ⟨fd_repair, G_repair, ⟨ds1_repair, v1_repair, b1_repair⟩, ⟨ds2_repair, v2_repair, b2_repair⟩⟩ := g_repair
  obtain ⟨fd_writes, G_writes, ⟨ds1_writes, v1_writes, b1_writes⟩, ⟨ds2_writes, v2_writes, b2_writes⟩⟩ := g_writes
  obtain ⟨oc, od, dV, kV, doc, pm, an, cdv, ct, osl, rfl, lk, hcd, hD, _⟩ := F.ex
  have hdv : dV = .none := by
    rcases hD with ⟨_, h⟩ | ⟨h, _⟩
    · exact h
    · exact absurd rfl h
  subst hdv
  have run := StK.fn_starK (CX := CX0) (P := P) (w := w) (mg := mg) (base := base) (k := 8) (n := 1) (N := N_torn_repair) (ps := ["image", "rules"]) (ks := ["rules"]) (pv := "done") (sp := spTRin A) lk hcd sc_torn_repair StX.cxUp_none rfl
    (fun us rest ws l1 l2 => match us, l1, ws, l2, rest with | [_], _, [_], _, [] => rfl | [_], _, [_], _, _ :: _ => rfl) (fun A' outer s H vs Q E hr h => ?_)
  · rintro A' outer s H us ws vs zs Q E hr env rv rz lz ⟨a, v, ys, rb, ds, bs, rfl, rfl, h1000, hx, hG, RV, al, k⟩
    refine run A' outer s H us ws _ _ Q E hr env rv rz lz ⟨[.ref a], nI ds, rfl, rfl, ?_, fun p hp => ?_⟩
    · rw [nI_len]
      exact Nat.le_trans h1000 (by decide)
    · have e := Ex.new (o := .tup (nI ds)) hp
      exact ⟨a, p, v, ys, rb, ds, bs, rfl, hx.ex e, hG, RV.ex e, upd_same, al, fun q zs H' hq e' M l => k q zs H' (back_none e hq) (e.trans e') M l⟩
  · obtain ⟨a, d, v, ys, rb, ds, bs, rfl, hx, hG, RV, hd, al, k⟩ := h
    refine ⟨_, PSs.nox (pss_cons (ps_set (i := 3) sc_torn_repair.nd rfl (Or.inl rfl) (pe_call G_writes (hr.mono (by decide)) (by rfl) T.g_writes T.k_writes b2_writes v2_writes pass0 (pa_cons (pv 0) (pa_cons (pv 1) pa_nil))))
      (pss_cons (ps_for PassesOwn.never rfl (pi_tup (pv 2)) (pg_name (i := 4) sc_torn_repair.nd rfl (Or.inl rfl)) (pss_one (ps_if (pt_cmpR op_notIn_seq (pv 4) (pv 3) (by with_unfolding_all rfl)) (pss_one ps_never) pss_nil)))
      (pss_cons (ps_set (i := 5) sc_torn_repair.nd rfl (Or.inr rfl) (pe_call G_repair (hr.mono (by decide)) (by rfl) T.g_repair T.k_repair b2_repair v2_repair pass0 (pa_cons (pv 0) (pa_cons (pv 1) pa_nil))))
      (pss_one (ps_ret (pe_lc (own := [("record", 4), ("name", 6)]) (g := gTup K 2 (gCons (gName 4) (gCons (gName 6) gNil))) (tt := tYes) (by rfl) sc_torn_repair.nd (pi_enum (by rfl) T.n_enumerate (pa_cons (pv 0) pa_nil)) (blkOk_by (own := [("record", 4), ("name", 6)]) (N := N_torn_repair) (sc := defScope s_torn_repair) (by decide +kernel)) (fun _ _ _ _ _ => (pg_tup (by rfl) (pgs_cons (pg_name (i := 4) sc_torn_repair.nd rfl (Or.inl rfl)) (pgs_cons (pg_name (i := 6) sc_torn_repair.nd rfl (Or.inl rfl)) pgs_nil)))) (fun _ _ _ _ _ => pts_nil) (fun _ _ _ _ _ => (pe_ifExp (pt_cmpR (op_inK (K := K) rfl) (pv 4) (pv 2) (by with_unfolding_all rfl)) (pe_ix (ix_listK (K := K) rfl) (pv 5) (pv 4) (fun _ _ => rfl)) (pv 6))))))))), ?_⟩
    have h64 := hG.len
    refine ⟨_, rfl, _, rfl, a, v, ys, rb, bs, rfl, hx, hG, RV, fun w zs H1 hw e1 M lw => ?_⟩
    have hd1 := e1 _ _ hd
    refine ⟨_, rfl, d, rfl, ⟨_, SqT.of hd1⟩, for_tup (K := K) (a := d) (xs := nI ds) (fun i σ G => ∃ v4 : Option V, σ = [some (.ref a), some v, some (.ref d), some (.ref w), v4, none, none] ∧ G = H1) ⟨none, rfl, rfl⟩ (fun i σ G _ ⟨_, _, e⟩ => by rw [e]; exact SqT.of hd1) ?_ ?_⟩
    · rintro i x σ G hi ⟨v4, rfl, rfl⟩
      obtain ⟨hi', rfl⟩ := nat_at hi
      have hin := al zs M _ (getD_mem hi')
      refine ⟨_, rfl, _, rfl, w, _, rfl, Or.inl lw.sz, rfl, flat_nI _, _, rfl, ?_⟩
      show if (!inV (V.int ((ds.getD i 0 : Nat) : Int)) (nI (difF ys zs ys.length))) = true then _ else _
      rw [inV_nI, List.contains_iff_mem.mpr hin]
      exact ⟨_, rfl, rfl⟩
    · rintro σ G ⟨v4, rfl, rfl⟩
      have hx1 := hx.ex e1
      refine ⟨_, rfl, _, rfl, a, v, ys, rb, bs, rfl, hx1, hG, RV.ex e1, fun s1 zs2 H2 hs1 e2 lz M2 => ?_⟩
      have := M.uniq M2
      subst this
      have e12 := e1.trans e2
      have hd2 := e12 _ _ hd
      have ha2 := hx.ex e12
      refine ⟨_, rfl, a, _, rfl, ha2.sz, fun D hD => ?_⟩
      refine lc_it walk_enum (fun i G => Ex H2 G ∧ ListN G D (torF ys zs ds i)) ⟨Ex.new hD, upd_same⟩ (fun i G _ p => (ha2.ex p.1).sz) ?_ ?_
      · rintro i x G G2 hi ⟨e3, hd3⟩ ⟨T0, y1, y2, rfl, hT, rfl, q1, q2⟩
        have hi : i < ys.length := by rw [nI_len] at hi; exact hi
        cases q1
        obtain ⟨_, rfl⟩ := nat_at q2
        have nDT : D ≠ T0 := ne_of_none hd3 hT
        refine ⟨T0, _, rfl, SqT.of upd_same, rfl, _, _, rfl, _, _, rfl, rfl, rfl, ?_⟩
        have eT : Ex H2 (upd G T0 (.tup [.int (i : Nat), .int ((ys.getD i 0 : Nat) : Int)])) := ex_new e3 hT
        have dT : ListN (upd G T0 (.tup [.int (i : Nat), .int ((ys.getD i 0 : Nat) : Int)])) D (torF ys zs ds i) := by
          show upd G T0 _ D = _
          rw [upd_ne nDT]
          exact hd3
        have lz2 := lz.ex eT
        have hdT := eT _ _ hd2
        generalize upd G T0 (.tup [.int (i : Nat), .int ((ys.getD i 0 : Nat) : Int)]) = G3 at eT dT lz2 hdT ⊢
        refine ⟨_, rfl, _, rfl, d, _, rfl, Or.inr (SqT.of hdT), rfl, flat_nI _, _, rfl, ?_⟩
        show if (inV (V.int (i : Int)) (nI ds)) = true then _ else _
        rw [inV_nI]
        have fin : ∀ z : Nat, z = (if i ∈ ds then zs.getD i 0 else ys.getD i 0) → ∃ acc, G3 D = some (.lst acc) ∧ acc.length < sizeLine ∧ Ex H2 (upd G3 D (.lst (acc ++ [V.int (z : Int)]))) ∧ ListN (upd G3 D (.lst (acc ++ [V.int (z : Int)]))) D (torF ys zs ds (i + 1)) := fun z hz => by
          refine ⟨_, dT, ?_, fun b o ho => ?_, ?_⟩
          · rw [nI_len, tor_len]
            exact small1000 (by omega)
          · rw [upd_ne (ne_of_none ho hD)]
            exact eT b o ho
          · show upd G3 D _ D = _
            rw [upd_same, tor_step, ← hz, nI_app]
        refine ite_b (fun c => ?_) (fun c => ?_)
        · have c : i ∈ ds := List.contains_iff_mem.mp c
          refine ⟨_, rfl, _, rfl, s1, _, _, _, rfl, rfl, lz2.sz, atN (by rw [M.len]; exact hi), ?_⟩
          exact fin _ (by rw [if_pos c])
        · have c : i ∉ ds := fun z => by rw [List.contains_iff_mem.mpr z] at c; cases c
          exact ⟨_, rfl, fin _ (by rw [if_neg c])⟩
      · rintro G ⟨e3, hd3⟩
        rw [nI_len] at hd3
        exact k D zs G (back_none e12 hD) (e12.trans e3) M hd3
end

section
variable {P : Program} {w : World} {K : PySem.W.Frag} {mg : Str → Option Value} {base : Heap} {A : Ad}
/-! ### the goal is what a repair leaves -/
theorem mendG_at {bits : List Nat} (hb : bits ∈ stB) {b : Bk} (B : b.1 < 8) (hl : b.2.length = (form b.1).length) {j : Nat} (hj : j < b.2.length) : (mendG bits b).getD j 0 = b.2.getD (if torn b = true then (chF b.1 (chB bits b.1)).getD j 0 else (form b.1).getD j 0) 0 := by
  have all : (stB.all fun bits => (List.range 8).all fun w => (List.range (form w).length).all fun j => (mendG bits (w, List.range (form w).length)).getD j 0 == (if torn (w, []) = true then (chF w (chB bits w)).getD j 0 else (form w).getD j 0)) = true := by decide +kernel
  obtain ⟨w, ms⟩ := b
  have key : ∀ ms : List Nat, ms.length = (form w).length → mendG bits (w, ms) = (mendG bits (w, List.range (form w).length)).map fun i => ms.getD i 0 := fun ms hm => by
    match w, B, ms, hm with
    | 0, _, [x0], _ => rfl
    | 1, _, [x0, x1], _ => rfl
    | 2, _, [x0, x1], _ => rfl
    | 3, _, [x0, x1, x2], _ => unfold mendG; dsimp only; (repeat' split) <;> first | rfl | (exfalso; omega)
    | 4, _, [x0, x1, x2], _ => unfold mendG; dsimp only; (repeat' split) <;> first | rfl | (exfalso; omega)
    | 5, _, [x0, x1, x2, x3], _ => unfold mendG; dsimp only; (repeat' split) <;> first | rfl | (exfalso; omega)
    | 6, _, [x0, x1, x2, x3], _ => unfold mendG; dsimp only; (repeat' split) <;> first | rfl | (exfalso; omega)
    | 7, _, [x0, x1, x2, x3], _ => unfold mendG; dsimp only; (repeat' split) <;> first | rfl | (exfalso; omega)
  rw [List.all_eq_true] at all
  have all := all bits hb
  rw [List.all_eq_true] at all
  have all := all w (List.mem_range.mpr B)
  rw [List.all_eq_true] at all
  have all := beq_iff_eq.mp (all j (List.mem_range.mpr (by rw [← hl]; exact hj)))
  have hl' : (mendG bits (w, List.range (form w).length)).length = (form w).length := by
    have := mendG_len (bits := bits) (b := (w, List.range (form w).length)) B (by rw [List.length_range])
    rw [this, List.length_range]
  rw [key ms hl, getD_map (by rw [hl', ← hl]; exact hj), all]
  rfl
theorem putL_at {ys p q : List Nat} (nd : p.Nodup) (lt : ∀ x ∈ p, x < ys.length) : ∀ k, k ≤ p.length → ∀ j, j < k → (putL ys p q k).getD (p.getD j 0) 0 = q.getD j 0
  | 0, _, j, hj => absurd hj (Nat.not_lt_zero _)
  | k + 1, hk, j, hj => by
    unfold putL
    have hlt : p.getD k 0 < (putL ys p q k).length := by
      rw [putL_len]
      exact lt _ (getD_mem (by omega))
    by_cases e : j = k
    · subst e
      rw [getD_set_eq hlt]
    · rw [getD_set_ne (fun z => e (nd_getD nd (by omega) (by omega) z.symm))]
      exact putL_at nd lt k (by omega) j (by omega)
theorem putL_out {ys p q : List Nat} {x : Nat} (hx : x ∉ p) : ∀ k, k ≤ p.length → (putL ys p q k).getD x 0 = ys.getD x 0
  | 0, _ => rfl
  | k + 1, hk => by
    unfold putL
    rw [getD_set_ne (fun z => hx (by rw [← z]; exact getD_mem (by omega))), putL_out hx k (by omega)]
theorem goal_mend {bits : List Nat} (hb : bits ∈ stB) {ys : List Nat} : ∀ (cs : List Bk) (zs0 : List Nat), zs0.length = ys.length → (∀ b ∈ cs, Blk ys b) → (∀ b ∈ cs, ∀ x ∈ b.2, x < ys.length) → (cs.flatMap (·.2)).Nodup →
    (cs.foldl (stG bits) zs0).length = ys.length ∧ (∀ b ∈ cs, ∀ j, j < b.2.length → (cs.foldl (stG bits) zs0).getD (b.2.getD j 0) 0 = (mendG bits b).getD j 0) ∧ ∀ x, x ∉ cs.flatMap (·.2) → (cs.foldl (stG bits) zs0).getD x 0 = zs0.getD x 0
  | [], zs0, hl, _, _, _ => ⟨hl, (fun b hb => by cases hb), fun _ _ => rfl⟩
  | c :: cs, zs0, hl, B, lt, nd => by
    rw [List.flatMap_cons, List.nodup_append] at nd
    have l1 : (stG bits zs0 c).length = ys.length := by
      unfold stG
      rw [putL_len, hl]
    obtain ⟨h1, h2, h3⟩ := goal_mend hb cs (stG bits zs0 c) l1 (fun b h => B b (List.mem_cons_of_mem _ h)) (fun b h => lt b (List.mem_cons_of_mem _ h)) nd.2.1
    rw [List.foldl_cons]
    refine ⟨h1, fun b hb' j hj => ?_, fun x hx => ?_⟩
    · rcases List.mem_cons.mp hb' with rfl | hb'
      · rw [h3 _ (fun z => nd.2.2 _ (getD_mem hj) _ z rfl)]
        exact putL_at nd.1 (fun x hx => by rw [hl]; exact lt _ (List.mem_cons_self ..) x hx) _ (Nat.le_refl _) j hj
      · exact h2 b hb' j hj
    · rw [List.flatMap_cons, List.mem_append, not_or] at hx
      rw [h3 x hx.2]
      exact putL_out hx.1 _ (Nat.le_refl _)
theorem goal_Mend {bits : List Nat} (hb : bits ∈ stB) {ys : List Nat} {bs : List Bk} (B : Built ys bs) : Mend (chB bits) ys bs (goalG ys bits bs) := by
  obtain ⟨h1, h2, h3⟩ := goal_mend hb bs ys rfl B.blk (fun b hb x hx => B.lt hb hx) B.nd
  have e : goalG ys bits bs = bs.foldl (stG bits) ys := rfl
  rw [← e] at h1 h2 h3
  refine ⟨h1, fun b hb' t j hj => ?_, fun x hx => ?_⟩
  · rw [h2 b hb' j hj, mendG_at hb (B.blk b hb').w (B.blk b hb').len hj, if_pos t]
  · by_cases hn : x < ys.length
    · obtain ⟨b, hb', hxb⟩ := B.of hn
      obtain ⟨j, hj, rfl⟩ := mem_getD hxb
      have t : ¬ torn b = true := fun z => hx b hb' z hxb
      rw [h2 b hb' j hj, mendG_at hb (B.blk b hb').w (B.blk b hb').len hj, if_neg t]
      exact ((B.blk b hb').sh j hj).symm
    · rw [List.getD_eq_getElem?_getD, List.getD_eq_getElem?_getD, List.getElem?_eq_none (by omega), List.getElem?_eq_none (by omega)]
end

section
variable {P : Program} {w : World} {K : PySem.W.Frag} {mg : Str → Option Value} {base : Heap} {A : Ad}
def spLen : Sp := fun vs H Q _ => ∃ w : Nat, vs = [.str (word w)] ∧ w < 8 ∧ ∀ H', Ex H H' → Q (.int ((fl w : Nat) : Int)) H'
theorem ok_law_length (T : Txt K mg A)   : Okd P w K mg base CX0 1 A.law_length P_law_length spLen := by
  obtain ⟨fd, F⟩ := T.d_law_length

  refine ⟨fd, F.ok sc_law_length (fun vs H Q E h => ?_) (fun cdv A' outer s H vs Q E hr h => ?_), F.binds fun _ _ _ _ _ _ us hl => match us, hl with | [_], _ => rfl⟩
  · obtain ⟨w, rfl, _⟩ := h
    rfl
  · obtain ⟨w, rfl, hw, k⟩ := h
    refine ⟨_, (pss_cons (ps_if (pt_cmpR op_eq (pv 0) pe_str (nomark _)) (pss_one (ps_ret pe_int)) pss_nil)
      (pss_cons (ps_if (pt_cmpR op_in_seq (pv 0) (pe_tup (pa_cons pe_str (pa_cons pe_str pa_nil))) (by with_unfolding_all rfl)) (pss_one (ps_ret pe_int)) pss_nil)
      (pss_cons (ps_if (pt_cmpR op_in_seq (pv 0) (pe_tup (pa_cons pe_str (pa_cons pe_str pa_nil))) (by with_unfolding_all rfl)) (pss_one (ps_ret pe_int)) pss_nil)
      (pss_one (ps_ret pe_int))))), ?_⟩
    match w, hw with
    | 0, _ =>
      refine ⟨_, rfl, rfl, _, rfl, ?_⟩
      refine iteT ?_
      exact k _ (Ex.refl H)
    | 1, _ =>
      refine ⟨_, rfl, rfl, _, rfl, ?_⟩
      refine iteF ?_
      refine ⟨_, rfl, (by show 2 ≤ sizeLine; decide), fun T1 hT1 => ?_⟩
      refine ⟨T1, _, rfl, Or.inr (SqT.of upd_same), rfl, rfl, _, rfl, ?_⟩
      refine iteT ?_
      exact k _ ((Ex.refl H).trans (Ex.new hT1))
    | 2, _ =>
      refine ⟨_, rfl, rfl, _, rfl, ?_⟩
      refine iteF ?_
      refine ⟨_, rfl, (by show 2 ≤ sizeLine; decide), fun T1 hT1 => ?_⟩
      refine ⟨T1, _, rfl, Or.inr (SqT.of upd_same), rfl, rfl, _, rfl, ?_⟩
      refine iteT ?_
      exact k _ ((Ex.refl H).trans (Ex.new hT1))
    | 3, _ =>
      refine ⟨_, rfl, rfl, _, rfl, ?_⟩
      refine iteF ?_
      refine ⟨_, rfl, (by show 2 ≤ sizeLine; decide), fun T1 hT1 => ?_⟩
      refine ⟨T1, _, rfl, Or.inr (SqT.of upd_same), rfl, rfl, _, rfl, ?_⟩
      refine iteF ?_
      refine ⟨_, rfl, (by show 2 ≤ sizeLine; decide), fun T3 hT3 => ?_⟩
      refine ⟨T3, _, rfl, Or.inr (SqT.of upd_same), rfl, rfl, _, rfl, ?_⟩
      refine iteT ?_
      exact k _ (((Ex.refl H).trans (Ex.new hT1)).trans (Ex.new hT3))
    | 4, _ =>
      refine ⟨_, rfl, rfl, _, rfl, ?_⟩
      refine iteF ?_
      refine ⟨_, rfl, (by show 2 ≤ sizeLine; decide), fun T1 hT1 => ?_⟩
      refine ⟨T1, _, rfl, Or.inr (SqT.of upd_same), rfl, rfl, _, rfl, ?_⟩
      refine iteF ?_
      refine ⟨_, rfl, (by show 2 ≤ sizeLine; decide), fun T3 hT3 => ?_⟩
      refine ⟨T3, _, rfl, Or.inr (SqT.of upd_same), rfl, rfl, _, rfl, ?_⟩
      refine iteT ?_
      exact k _ (((Ex.refl H).trans (Ex.new hT1)).trans (Ex.new hT3))
    | 5, _ =>
      refine ⟨_, rfl, rfl, _, rfl, ?_⟩
      refine iteF ?_
      refine ⟨_, rfl, (by show 2 ≤ sizeLine; decide), fun T1 hT1 => ?_⟩
      refine ⟨T1, _, rfl, Or.inr (SqT.of upd_same), rfl, rfl, _, rfl, ?_⟩
      refine iteF ?_
      refine ⟨_, rfl, (by show 2 ≤ sizeLine; decide), fun T3 hT3 => ?_⟩
      refine ⟨T3, _, rfl, Or.inr (SqT.of upd_same), rfl, rfl, _, rfl, ?_⟩
      refine iteF ?_
      exact k _ (((Ex.refl H).trans (Ex.new hT1)).trans (Ex.new hT3))
    | 6, _ =>
      refine ⟨_, rfl, rfl, _, rfl, ?_⟩
      refine iteF ?_
      refine ⟨_, rfl, (by show 2 ≤ sizeLine; decide), fun T1 hT1 => ?_⟩
      refine ⟨T1, _, rfl, Or.inr (SqT.of upd_same), rfl, rfl, _, rfl, ?_⟩
      refine iteF ?_
      refine ⟨_, rfl, (by show 2 ≤ sizeLine; decide), fun T3 hT3 => ?_⟩
      refine ⟨T3, _, rfl, Or.inr (SqT.of upd_same), rfl, rfl, _, rfl, ?_⟩
      refine iteF ?_
      exact k _ (((Ex.refl H).trans (Ex.new hT1)).trans (Ex.new hT3))
    | 7, _ =>
      refine ⟨_, rfl, rfl, _, rfl, ?_⟩
      refine iteF ?_
      refine ⟨_, rfl, (by show 2 ≤ sizeLine; decide), fun T1 hT1 => ?_⟩
      refine ⟨T1, _, rfl, Or.inr (SqT.of upd_same), rfl, rfl, _, rfl, ?_⟩
      refine iteF ?_
      refine ⟨_, rfl, (by show 2 ≤ sizeLine; decide), fun T3 hT3 => ?_⟩
      refine ⟨T3, _, rfl, Or.inr (SqT.of upd_same), rfl, rfl, _, rfl, ?_⟩
      refine iteF ?_
      exact k _ (((Ex.refl H).trans (Ex.new hT1)).trans (Ex.new hT3))

end

section
variable {P : Program} {w : World} {K : PySem.W.Frag} {mg : Str → Option Value} {base : Heap} {A : Ad}
def shF (w : Nat) (ms : List Nat) : List Nat := (form w).map fun i => ms.getD i 0
def spSh : Sp := fun vs H Q _ => ∃ (w : Nat) (p : Addr) (ms : List Nat), vs = [.str (word w), .ref p] ∧ w < 8 ∧ ListN H p ms ∧ ms.length = fl w ∧ ∀ q H', H q = none → Ex H H' → ListN H' q (shF w ms) → Q (.ref q) H'
theorem ok_law_shown (T : Txt K mg A)   : Okd P w K mg base CX0 1 A.law_shown P_law_shown spSh := by
  obtain ⟨fd, F⟩ := T.d_law_shown

  refine ⟨fd, F.ok sc_law_shown (fun vs H Q E h => ?_) (fun cdv A' outer s H vs Q E hr h => ?_), F.binds fun _ _ _ _ _ _ us hl => match us, hl with | [_, _], _ => rfl⟩
  · obtain ⟨w, p, ms, rfl, _⟩ := h
    rfl
  · obtain ⟨w, p, ms, rfl, hw, hp, hl, k⟩ := h
    refine ⟨_, (pss_cons (ps_if (pt_cmpR op_eq (pv 0) pe_str (nomark _)) (pss_one (ps_ret (pe_lst (pa_cons (pe_ix ix_list (pv 1) pe_int (fun _ _ => rfl)) pa_nil)))) pss_nil)
      (pss_cons (ps_if (pt_cmpR op_eq (pv 0) pe_str (nomark _)) (pss_one (ps_ret (pe_lst (pa_cons (pe_ix ix_list (pv 1) pe_int (fun _ _ => rfl)) (pa_cons (pe_ix ix_list (pv 1) pe_int (fun _ _ => rfl)) pa_nil))))) pss_nil)
      (pss_cons (ps_if (pt_cmpR op_eq (pv 0) pe_str (nomark _)) (pss_one (ps_ret (pe_lst (pa_cons (pe_ix ix_list (pv 1) pe_int (fun _ _ => rfl)) (pa_cons (pe_ix ix_list (pv 1) pe_int (fun _ _ => rfl)) pa_nil))))) pss_nil)
      (pss_cons (ps_if (pt_cmpR op_eq (pv 0) pe_str (nomark _)) (pss_one (ps_ret (pe_lst (pa_cons (pe_ix ix_list (pv 1) pe_int (fun _ _ => rfl)) (pa_cons (pe_ix ix_list (pv 1) pe_int (fun _ _ => rfl)) (pa_cons (pe_ix ix_list (pv 1) pe_int (fun _ _ => rfl)) pa_nil)))))) pss_nil)
      (pss_cons (ps_if (pt_cmpR op_eq (pv 0) pe_str (nomark _)) (pss_one (ps_ret (pe_lst (pa_cons (pe_ix ix_list (pv 1) pe_int (fun _ _ => rfl)) (pa_cons (pe_ix ix_list (pv 1) pe_int (fun _ _ => rfl)) (pa_cons (pe_ix ix_list (pv 1) pe_int (fun _ _ => rfl)) pa_nil)))))) pss_nil)
      (pss_cons (ps_if (pt_cmpR op_eq (pv 0) pe_str (nomark _)) (pss_one (ps_ret (pe_lst (pa_cons (pe_ix ix_list (pv 1) pe_int (fun _ _ => rfl)) (pa_cons (pe_ix ix_list (pv 1) pe_int (fun _ _ => rfl)) (pa_cons (pe_ix ix_list (pv 1) pe_int (fun _ _ => rfl)) (pa_cons (pe_ix ix_list (pv 1) pe_int (fun _ _ => rfl)) pa_nil))))))) pss_nil)
      (pss_cons (ps_if (pt_cmpR op_eq (pv 0) pe_str (nomark _)) (pss_one (ps_ret (pe_lst (pa_cons (pe_ix ix_list (pv 1) pe_int (fun _ _ => rfl)) (pa_cons (pe_ix ix_list (pv 1) pe_int (fun _ _ => rfl)) (pa_cons (pe_ix ix_list (pv 1) pe_int (fun _ _ => rfl)) (pa_cons (pe_ix ix_list (pv 1) pe_int (fun _ _ => rfl)) pa_nil))))))) pss_nil)
      (pss_one (ps_ret (pe_lst (pa_cons (pe_ix ix_list (pv 1) pe_int (fun _ _ => rfl)) (pa_cons (pe_ix ix_list (pv 1) pe_int (fun _ _ => rfl)) (pa_cons (pe_ix ix_list (pv 1) pe_int (fun _ _ => rfl)) (pa_cons (pe_ix ix_list (pv 1) pe_int (fun _ _ => rfl)) pa_nil)))))))))))))), ?_⟩
    match w, hw, hl with
    | 0, _, hl =>
      have hl : ms.length = 1 := hl
      have a0 := hp.sz (K := K)
      refine ⟨_, rfl, rfl, _, rfl, ?_⟩
      refine iteT ?_
      refine ⟨_, rfl, p, _, _, _, rfl, rfl, hp.sz, (show atI (nI ms) ((0 : Nat) : Int) = _ from atN (by omega)), (by show 1 ≤ sizeLine; decide), fun q hq => ?_⟩
      exact k q _ hq (Ex.new hq) upd_same
    | 1, _, hl =>
      have hl : ms.length = 2 := hl
      have a0 := hp.sz (K := K)
      refine ⟨_, rfl, rfl, _, rfl, ?_⟩
      refine iteF ?_
      refine ⟨_, rfl, rfl, _, rfl, ?_⟩
      refine iteT ?_
      refine ⟨_, rfl, p, _, _, _, rfl, rfl, hp.sz, (show atI (nI ms) ((1 : Nat) : Int) = _ from atN (by omega)), _, rfl, p, _, _, _, rfl, rfl, hp.sz, (show atI (nI ms) ((0 : Nat) : Int) = _ from atN (by omega)), (by show 2 ≤ sizeLine; decide), fun q hq => ?_⟩
      exact k q _ hq (Ex.new hq) upd_same
    | 2, _, hl =>
      have hl : ms.length = 2 := hl
      have a0 := hp.sz (K := K)
      refine ⟨_, rfl, rfl, _, rfl, ?_⟩
      refine iteF ?_
      refine ⟨_, rfl, rfl, _, rfl, ?_⟩
      refine iteF ?_
      refine ⟨_, rfl, rfl, _, rfl, ?_⟩
      refine iteT ?_
      refine ⟨_, rfl, p, _, _, _, rfl, rfl, hp.sz, (show atI (nI ms) ((1 : Nat) : Int) = _ from atN (by omega)), _, rfl, p, _, _, _, rfl, rfl, hp.sz, (show atI (nI ms) ((1 : Nat) : Int) = _ from atN (by omega)), (by show 2 ≤ sizeLine; decide), fun q hq => ?_⟩
      exact k q _ hq (Ex.new hq) upd_same
    | 3, _, hl =>
      have hl : ms.length = 3 := hl
      have a0 := hp.sz (K := K)
      refine ⟨_, rfl, rfl, _, rfl, ?_⟩
      refine iteF ?_
      refine ⟨_, rfl, rfl, _, rfl, ?_⟩
      refine iteF ?_
      refine ⟨_, rfl, rfl, _, rfl, ?_⟩
      refine iteF ?_
      refine ⟨_, rfl, rfl, _, rfl, ?_⟩
      refine iteT ?_
      refine ⟨_, rfl, p, _, _, _, rfl, rfl, hp.sz, (show atI (nI ms) ((1 : Nat) : Int) = _ from atN (by omega)), _, rfl, p, _, _, _, rfl, rfl, hp.sz, (show atI (nI ms) ((2 : Nat) : Int) = _ from atN (by omega)), _, rfl, p, _, _, _, rfl, rfl, hp.sz, (show atI (nI ms) ((1 : Nat) : Int) = _ from atN (by omega)), (by show 3 ≤ sizeLine; decide), fun q hq => ?_⟩
      exact k q _ hq (Ex.new hq) upd_same
    | 4, _, hl =>
      have hl : ms.length = 3 := hl
      have a0 := hp.sz (K := K)
      refine ⟨_, rfl, rfl, _, rfl, ?_⟩
      refine iteF ?_
      refine ⟨_, rfl, rfl, _, rfl, ?_⟩
      refine iteF ?_
      refine ⟨_, rfl, rfl, _, rfl, ?_⟩
      refine iteF ?_
      refine ⟨_, rfl, rfl, _, rfl, ?_⟩
      refine iteF ?_
      refine ⟨_, rfl, rfl, _, rfl, ?_⟩
      refine iteT ?_
      refine ⟨_, rfl, p, _, _, _, rfl, rfl, hp.sz, (show atI (nI ms) ((1 : Nat) : Int) = _ from atN (by omega)), _, rfl, p, _, _, _, rfl, rfl, hp.sz, (show atI (nI ms) ((2 : Nat) : Int) = _ from atN (by omega)), _, rfl, p, _, _, _, rfl, rfl, hp.sz, (show atI (nI ms) ((2 : Nat) : Int) = _ from atN (by omega)), (by show 3 ≤ sizeLine; decide), fun q hq => ?_⟩
      exact k q _ hq (Ex.new hq) upd_same
    | 5, _, hl =>
      have hl : ms.length = 4 := hl
      have a0 := hp.sz (K := K)
      refine ⟨_, rfl, rfl, _, rfl, ?_⟩
      refine iteF ?_
      refine ⟨_, rfl, rfl, _, rfl, ?_⟩
      refine iteF ?_
      refine ⟨_, rfl, rfl, _, rfl, ?_⟩
      refine iteF ?_
      refine ⟨_, rfl, rfl, _, rfl, ?_⟩
      refine iteF ?_
      refine ⟨_, rfl, rfl, _, rfl, ?_⟩
      refine iteF ?_
      refine ⟨_, rfl, rfl, _, rfl, ?_⟩
      refine iteT ?_
      refine ⟨_, rfl, p, _, _, _, rfl, rfl, hp.sz, (show atI (nI ms) ((1 : Nat) : Int) = _ from atN (by omega)), _, rfl, p, _, _, _, rfl, rfl, hp.sz, (show atI (nI ms) ((2 : Nat) : Int) = _ from atN (by omega)), _, rfl, p, _, _, _, rfl, rfl, hp.sz, (show atI (nI ms) ((1 : Nat) : Int) = _ from atN (by omega)), _, rfl, p, _, _, _, rfl, rfl, hp.sz, (show atI (nI ms) ((2 : Nat) : Int) = _ from atN (by omega)), (by show 4 ≤ sizeLine; decide), fun q hq => ?_⟩
      exact k q _ hq (Ex.new hq) upd_same
    | 6, _, hl =>
      have hl : ms.length = 4 := hl
      have a0 := hp.sz (K := K)
      refine ⟨_, rfl, rfl, _, rfl, ?_⟩
      refine iteF ?_
      refine ⟨_, rfl, rfl, _, rfl, ?_⟩
      refine iteF ?_
      refine ⟨_, rfl, rfl, _, rfl, ?_⟩
      refine iteF ?_
      refine ⟨_, rfl, rfl, _, rfl, ?_⟩
      refine iteF ?_
      refine ⟨_, rfl, rfl, _, rfl, ?_⟩
      refine iteF ?_
      refine ⟨_, rfl, rfl, _, rfl, ?_⟩
      refine iteF ?_
      refine ⟨_, rfl, rfl, _, rfl, ?_⟩
      refine iteT ?_
      refine ⟨_, rfl, p, _, _, _, rfl, rfl, hp.sz, (show atI (nI ms) ((1 : Nat) : Int) = _ from atN (by omega)), _, rfl, p, _, _, _, rfl, rfl, hp.sz, (show atI (nI ms) ((2 : Nat) : Int) = _ from atN (by omega)), _, rfl, p, _, _, _, rfl, rfl, hp.sz, (show atI (nI ms) ((3 : Nat) : Int) = _ from atN (by omega)), _, rfl, p, _, _, _, rfl, rfl, hp.sz, (show atI (nI ms) ((2 : Nat) : Int) = _ from atN (by omega)), (by show 4 ≤ sizeLine; decide), fun q hq => ?_⟩
      exact k q _ hq (Ex.new hq) upd_same
    | 7, _, hl =>
      have hl : ms.length = 4 := hl
      have a0 := hp.sz (K := K)
      refine ⟨_, rfl, rfl, _, rfl, ?_⟩
      refine iteF ?_
      refine ⟨_, rfl, rfl, _, rfl, ?_⟩
      refine iteF ?_
      refine ⟨_, rfl, rfl, _, rfl, ?_⟩
      refine iteF ?_
      refine ⟨_, rfl, rfl, _, rfl, ?_⟩
      refine iteF ?_
      refine ⟨_, rfl, rfl, _, rfl, ?_⟩
      refine iteF ?_
      refine ⟨_, rfl, rfl, _, rfl, ?_⟩
      refine iteF ?_
      refine ⟨_, rfl, rfl, _, rfl, ?_⟩
      refine iteF ?_
      refine ⟨_, rfl, p, _, _, _, rfl, rfl, hp.sz, (show atI (nI ms) ((1 : Nat) : Int) = _ from atN (by omega)), _, rfl, p, _, _, _, rfl, rfl, hp.sz, (show atI (nI ms) ((2 : Nat) : Int) = _ from atN (by omega)), _, rfl, p, _, _, _, rfl, rfl, hp.sz, (show atI (nI ms) ((3 : Nat) : Int) = _ from atN (by omega)), _, rfl, p, _, _, _, rfl, rfl, hp.sz, (show atI (nI ms) ((0 : Nat) : Int) = _ from atN (by omega)), (by show 4 ≤ sizeLine; decide), fun q hq => ?_⟩
      exact k q _ hq (Ex.new hq) upd_same

end

section
variable {P : Program} {w : World} {K : PySem.W.Frag} {mg : Str → Option Value} {base : Heap} {A : Ad}
theorem idx_le : ∀ {l : List Nat} {j x : Nat} (h : j < l.length), l[j] = x → l.idxOf x ≤ j
  | a :: l, 0, x, h, e => by
    have e : a = x := e
    subst e
    rw [List.idxOf_cons_self]
    exact Nat.le_refl _
  | a :: l, j + 1, x, h, e => by
    have e : l[j]'(by simpa using h) = x := e
    have ih := idx_le (by simpa using h) e
    rw [List.idxOf_cons]
    by_cases c : a == x
    · rw [c]
      exact Nat.zero_le _
    · rw [Bool.eq_false_iff.mpr c]
      exact Nat.succ_le_succ ih
def spCanon : Sp := fun vs H Q _ => ∃ (m : Addr) (w : Nat) (ms : List Nat), vs = [.int (w : Int), .ref m] ∧ w < 8 ∧ ListN H m ms ∧ ms.length = (form w).length ∧ ∀ r H', Ex H H' → ListN H' r (canon w ms) → Q (.ref r) H'
def spPrt : Sp := fun vs H Q _ => ∃ (w : Nat) (p : Addr) (ms : List Nat), vs = [.str (word w), .ref p] ∧ w < 8 ∧ ListN H p ms ∧ ms.length = fl w ∧ ∀ q H', H q = none → Ex H H' → ListN H' q (canon w ms) → Q (.ref q) H'
theorem ok_law_part (T : Txt K mg A)   : Okd P w K mg base CX0 1 A.law_part P_law_part spPrt := by
  obtain ⟨fd, F⟩ := T.d_law_part

  refine ⟨fd, F.ok sc_law_part (fun vs H Q E h => ?_) (fun cdv A' outer s H vs Q E hr h => ?_), F.binds fun _ _ _ _ _ _ us hl => match us, hl with | [_, _], _ => rfl⟩
  · obtain ⟨w, p, ms, rfl, _⟩ := h
    rfl
  · obtain ⟨w, p, ms, rfl, hw, hp, hl, k⟩ := h
    refine ⟨_, (pss_cons (ps_if (PW.pt (pw_or (PW.pt (pw_and (pt_cmpR op_eq (pv 0) pe_str (nomark _)) (pw_and1 (pt_cmpR op_gt (pe_ix ix_list (pv 1) pe_int (fun _ _ => rfl)) (pe_ix ix_list (pv 1) pe_int (fun _ _ => rfl)) (nomark _))))) (pw_or1 (PW.pt (pw_and (pt_cmpR op_eq (pv 0) pe_str (nomark _)) (pw_and1 (pt_cmpR op_gt (pe_ix ix_list (pv 1) pe_int (fun _ _ => rfl)) (pe_ix ix_list (pv 1) pe_int (fun _ _ => rfl)) (nomark _)))))))) (pss_one (ps_ret (StK.pe_back (pv 1) (pe_un un_neg pe_int)))) pss_nil)
      (pss_cons (ps_if (pt_cmpR op_eq (pv 0) pe_str (nomark _)) (pss_cons (ps_set (i := 2) sc_law_part.nd rfl (Or.inl rfl) (pe_bm PySem.F.plainAttrs_list PySem.F.slot_list_index PySem.F.type_list_index mt_index (pv 1) (pa_cons (pe_callB (cr_min (by rfl)) (by rfl) T.n_min (by decide +kernel) (pa_cons (pv 1) pa_nil)) pa_nil)))
      (pss_one (ps_ret (pe_op op_cat (pe_slice sl_list (pv 1) (po_some (pv 2)) po_none) (pe_slice sl_list (pv 1) po_none (po_some (pv 2))))))) pss_nil)
      (pss_one (ps_ret (pe_callTy call_list_of (by rfl) T.n_list (by decide +kernel) (pa_cons (pv 1) pa_nil)))))), ?_⟩
    match w, hw, hl with
    | 0, _, hl =>
      refine ⟨_, rfl, rfl, _, rfl, ?_⟩
      refine iteF ?_
      refine ⟨_, rfl, rfl, _, rfl, ?_⟩
      refine iteF ?_
      refine ⟨_, rfl, rfl, _, rfl, ?_⟩
      refine iteF ?_
      refine ⟨_, rfl, p, _, rfl, Or.inl hp.sz, fun q hq => ?_⟩
      exact k q _ hq (Ex.new hq) upd_same
    | 2, _, hl =>
      refine ⟨_, rfl, rfl, _, rfl, ?_⟩
      refine iteF ?_
      refine ⟨_, rfl, rfl, _, rfl, ?_⟩
      refine iteF ?_
      refine ⟨_, rfl, rfl, _, rfl, ?_⟩
      refine iteF ?_
      refine ⟨_, rfl, p, _, rfl, Or.inl hp.sz, fun q hq => ?_⟩
      exact k q _ hq (Ex.new hq) upd_same
    | 3, _, hl =>
      refine ⟨_, rfl, rfl, _, rfl, ?_⟩
      refine iteF ?_
      refine ⟨_, rfl, rfl, _, rfl, ?_⟩
      refine iteF ?_
      refine ⟨_, rfl, rfl, _, rfl, ?_⟩
      refine iteF ?_
      refine ⟨_, rfl, p, _, rfl, Or.inl hp.sz, fun q hq => ?_⟩
      exact k q _ hq (Ex.new hq) upd_same
    | 4, _, hl =>
      refine ⟨_, rfl, rfl, _, rfl, ?_⟩
      refine iteF ?_
      refine ⟨_, rfl, rfl, _, rfl, ?_⟩
      refine iteF ?_
      refine ⟨_, rfl, rfl, _, rfl, ?_⟩
      refine iteF ?_
      refine ⟨_, rfl, p, _, rfl, Or.inl hp.sz, fun q hq => ?_⟩
      exact k q _ hq (Ex.new hq) upd_same
    | 6, _, hl =>
      refine ⟨_, rfl, rfl, _, rfl, ?_⟩
      refine iteF ?_
      refine ⟨_, rfl, rfl, _, rfl, ?_⟩
      refine iteF ?_
      refine ⟨_, rfl, rfl, _, rfl, ?_⟩
      refine iteF ?_
      refine ⟨_, rfl, p, _, rfl, Or.inl hp.sz, fun q hq => ?_⟩
      exact k q _ hq (Ex.new hq) upd_same
    | 1, _, hl =>
      refine ⟨_, rfl, rfl, _, rfl, ?_⟩
      refine iteT ?_
      obtain ⟨z0, z1, rfl⟩ := two_l hl
      refine ⟨_, rfl, p, _, _, _, rfl, rfl, hp.sz, (show atI (nI [z0, z1]) ((0 : Nat) : Int) = _ from atI_nat rfl), _, rfl, p, _, _, _, rfl, rfl, hp.sz, (show atI (nI [z0, z1]) ((1 : Nat) : Int) = _ from atI_nat rfl), _, _, rfl, rfl, _, rfl, ?_⟩
      refine ite_b (fun c => ?_) (fun c => ?_)
      · have c : z1 < z0 := by
          have := of_decide_eq_true c
          omega
        refine ⟨_, rfl, _, rfl, rfl, p, _, rfl, hp.sz, fun q hq => ?_⟩
        refine k q _ hq (Ex.new hq) ?_
        show upd H q _ q = _
        rw [upd_same]
        unfold canon
        rw [if_pos ⟨rfl, c⟩]
        rfl
      · have c : ¬ z1 < z0 := by
          have := of_decide_eq_false c
          omega
        refine ⟨_, rfl, rfl, _, rfl, ?_⟩
        refine iteF ?_
        refine ⟨_, rfl, rfl, _, rfl, ?_⟩
        refine iteF ?_
        refine ⟨_, rfl, p, _, rfl, Or.inl hp.sz, fun q hq => ?_⟩
        refine k q _ hq (Ex.new hq) ?_
        show upd H q _ q = _
        rw [upd_same]
        unfold canon
        rw [if_neg (fun z => c z.2), if_neg (fun z => by cases z.1), if_neg (by decide)]
    | 5, _, hl =>
      refine ⟨_, rfl, rfl, _, rfl, ?_⟩
      refine iteF ?_
      refine ⟨_, rfl, rfl, _, rfl, ?_⟩
      refine iteT ?_
      obtain ⟨z0, z1, z2, z3, rfl⟩ := four hl
      refine ⟨_, rfl, p, _, _, _, rfl, rfl, hp.sz, (show atI (nI [z0, z1, z2, z3]) ((0 : Nat) : Int) = _ from atI_nat rfl), _, rfl, p, _, _, _, rfl, rfl, hp.sz, (show atI (nI [z0, z1, z2, z3]) ((3 : Nat) : Int) = _ from atI_nat rfl), _, _, rfl, rfl, _, rfl, ?_⟩
      refine ite_b (fun c => ?_) (fun c => ?_)
      · have c : z3 < z0 := by
          have := of_decide_eq_true c
          omega
        refine ⟨_, rfl, _, rfl, rfl, p, _, rfl, hp.sz, fun q hq => ?_⟩
        refine k q _ hq (Ex.new hq) ?_
        show upd H q _ q = _
        rw [upd_same]
        unfold canon
        rw [if_neg (fun z => by cases z.1), if_pos ⟨rfl, c⟩]
        rfl
      · have c : ¬ z3 < z0 := by
          have := of_decide_eq_false c
          omega
        refine ⟨_, rfl, rfl, _, rfl, ?_⟩
        refine iteF ?_
        refine ⟨_, rfl, p, _, rfl, Or.inl hp.sz, fun q hq => ?_⟩
        refine k q _ hq (Ex.new hq) ?_
        show upd H q _ q = _
        rw [upd_same]
        unfold canon
        rw [if_neg (fun z => by cases z.1), if_neg (fun z => c z.2), if_neg (by decide)]
    | 7, _, hl =>
      refine ⟨_, rfl, rfl, _, rfl, ?_⟩
      refine iteF ?_
      refine ⟨_, rfl, rfl, _, rfl, ?_⟩
      refine iteF ?_
      refine ⟨_, rfl, rfl, _, rfl, ?_⟩
      refine iteT ?_
      have hms : ms ≠ [] := fun z => by subst z; cases hl
      have hmm := mn_mem hms
      have hi := List.idxOf_lt_length_of_mem hmm
      have hil := hl
      have hns : nI ms = (ms.map fun x : Nat => (x : Int)).map V.int := by rw [List.map_map]; rfl
      refine ⟨_, rfl, Or.inl ⟨rfl, _, hp.sz⟩, _, rfl, p, ms.map fun x : Nat => (x : Int), rfl, hns ▸ hp.sz, (by rw [List.length_map]; omega), fun mm h1 h2 => ?_⟩
      have hmm2 : mm = ((mn ms : Nat) : Int) := by
        obtain ⟨x, hx, rfl⟩ := List.mem_map.mp h1
        have a1 := mn_le hx
        have a2 := h2 _ (List.mem_map.mpr ⟨_, hmm, rfl⟩)
        omega
      subst hmm2
      refine ⟨p, nI ms, _, ms.idxOf (mn ms), _, rfl, rfl, hp.sz, rfl, flat_nI _, ixN_ hi, ?_, fun j z hj hz => ?_, ?_⟩
      · rw [eqV_nat, List.getD_eq_getElem?_getD, List.getElem?_eq_getElem hi]
        exact List.getElem_idxOf hi
      · obtain ⟨hj2, rfl⟩ := nat_at hz
        cases q : eqV (V.int ((ms.getD j 0 : Nat) : Int)) (V.int ((mn ms : Nat) : Int)) with
        | false => rfl
        | true =>
          rw [eqV_nat, List.getD_eq_getElem?_getD, List.getElem?_eq_getElem hj2] at q
          have q2 : ms[j] = mn ms := q
          have := idx_le hj2 q2
          omega
      generalize hat : ms.idxOf (mn ms) = at_ at *
      have cut1 : cutV (nI ms) (some (at_ : Int)) none = nI (ms.drop at_) := by
        unfold cutV HT.sIx nI
        simp only [if_neg (show ¬ ((at_ : Int) < 0) by omega), List.length_map, Int.toNat_natCast, Nat.min_eq_left (Nat.le_of_lt hi)]
        rw [List.take_of_length_le (by rw [List.length_drop, List.length_map]; omega), List.map_drop]
      have cut2 : cutV (nI ms) none (some (at_ : Int)) = nI (ms.take at_) := by
        unfold cutV HT.sIx nI
        simp only [if_neg (show ¬ ((at_ : Int) < 0) by omega), List.length_map, Int.toNat_natCast, Nat.min_eq_left (Nat.le_of_lt hi), List.drop_zero, Nat.sub_zero]
        rw [List.map_take]
      refine ⟨_, rfl, _, rfl, at_, rfl, ?_⟩
      have hl4 : ms.length = 4 := hl
      refine ⟨p, nI ms, rfl, hp.sz, fun p1 hp1 => ?_⟩
      rw [cut1]
      have x1 := Ex.new (o := .lst (nI (ms.drop at_))) hp1
      refine ⟨_, rfl, _, rfl, at_, rfl, p, nI ms, rfl, (hp.ex x1).sz, fun p2 hp2 => ?_⟩
      rw [cut2]
      have x2 := Ex.new (o := .lst (nI (ms.take at_))) hp2
      refine ⟨p1, p2, _, _, rfl, rfl, x2 _ _ upd_same, upd_same, (by rw [nI_len, nI_len, List.length_drop, List.length_take]; exact Nat.le_of_lt (small1000 (by omega))), fun p3 hp3 => ?_⟩
      refine k p3 _ (back_none (x1.trans x2) hp3) ((x1.trans x2).trans (Ex.new hp3)) ?_
      show upd _ p3 _ p3 = _
      rw [upd_same]
      unfold canon
      rw [if_neg (fun z => by cases z.1), if_neg (fun z => by cases z.1), if_pos rfl, hat]
      unfold nI
      rw [List.map_append]

end

section
variable {P : Program} {w : World} {K : PySem.W.Frag} {mg : Str → Option Value} {base : Heap} {A : Ad}
def ListW (H : Hp) (p : Addr) (ws : List Nat) : Prop := H p = some (.lst (ws.map fun w => V.str (word w)))
theorem ListW.ex {H H1 : Hp} {a : Addr} {ws : List Nat} (e : Ex H H1) (h : ListW H a ws) : ListW H1 a ws := e a _ h
theorem ListW.sz {K : PySem.W.Frag} {H : Hp} {p : Addr} {ws : List Nat} (h : ListW H p ws) : SqL K H p (ws.map fun w => V.str (word w)) := SqL.of h
theorem word_at {ws : List Nat} {i : Nat} {y : V} (h : (ws.map fun w => V.str (word w))[i]? = some y) : i < ws.length ∧ y = V.str (word (ws.getD i 0)) := by
  rw [List.getElem?_map] at h
  cases e : ws[i]? with
  | none => rw [e] at h; cases h
  | some w =>
    rw [e] at h
    refine ⟨(List.getElem?_eq_some_iff.mp e).1, ?_⟩
    rw [List.getD_eq_getElem?_getD, e]
    exact (Option.some.inj h).symm
theorem ListW.app {ws : List Nat} {w : Nat} : (ws.map fun w => V.str (word w)) ++ [V.str (word w)] = (ws ++ [w]).map fun w => V.str (word w) := by
  rw [List.map_append]
  rfl
def dW (ws : List Nat) : PyData := .list (ws.map fun w => PyData.str (word w))
theorem dpAll_W {K : PySem.W.Frag} {H : Hp} : ∀ ws : List Nat, DpAll K H (ws.map fun w => V.str (word w)) (ws.map fun w => PyData.str (word w))
  | [] => .nil
  | w :: ws => .cons (.str _) (dpAll_W ws)
theorem strOk_word (w : Nat) : PyData.strOk (word w) = true := by
  unfold word
  split <;> decide +kernel
theorem lay_W : ∀ ws : List Nat, PyData.canLayAll0 (ws.map fun w => PyData.str (word w)) = true
  | [] => by simp [PyData.canLayAll0]
  | w :: ws => by
    simp only [List.map_cons, PyData.canLayAll0, PyData.canLay0, lay_W ws]
    rw [strOk_word w]
    rfl
theorem deep_W : ∀ ws : List Nat, PyData.depthAll (ws.map fun w => PyData.str (word w)) ≤ 1
  | [] => by simp [PyData.depthAll]
  | w :: ws => by
    have := deep_W ws
    simp only [List.map_cons, PyData.depthAll, PyData.depth]
    omega
theorem shaped_W (ws : List Nat) : SeqAt.shaped (dW ws) = true := by
  have h2 : PyData.depth (dW ws) ≤ 64 := by
    have := deep_W ws
    unfold dW
    simp only [PyData.depth]
    omega
  unfold SeqAt.shaped
  rw [decide_eq_true h2, show PyData.canLay0 (dW ws) = true from by unfold dW; simp only [PyData.canLay0]; exact lay_W ws]
  rfl
/-- words that fit in a room -/
def Fits (room : Nat) (ws : List Nat) : Prop := (∀ w ∈ ws, w < 8 ∧ fl w ≤ room) ∧ ws.length ≤ 8
def spWds : Sp := fun vs H Q _ => ∃ (room : Nat) (bare full : Bool), vs = [.int (room : Int), .bl bare, .bl full] ∧ 0 < room ∧ room ≤ 64 ∧ ∀ p ws H', H p = none → Ex H H' → ListW H' p ws → Fits room ws → ws ≠ [] → Q (.ref p) H'
theorem fits_app {room : Nat} {ws : List Nat} {w n : Nat} (h : ∀ x ∈ ws, x < 8 ∧ fl x ≤ room) (hw : w < 8 ∧ fl w ≤ room) : ∀ x ∈ ws ++ [w], x < 8 ∧ fl x ≤ room := fun x hx => by
  rcases List.mem_append.mp hx with hx | hx
  · exact h x hx
  · rw [List.mem_singleton.mp hx]
    exact hw
theorem ok_law_words (T : Txt K mg A)  (g_law_length : Okd P w K mg base CX0 1 A.law_length P_law_length spLen) : Okd P w K mg base CX0 2 A.law_words P_law_words spWds := by
  obtain ⟨fd, F⟩ := T.d_law_words
  obtain ⟨fd_law_length, G_law_length, b_law_length⟩ := g_law_length
  refine ⟨fd, F.ok sc_law_words (fun vs H Q E h => ?_) (fun cdv A' outer s H vs Q E hr h => ?_), F.binds fun _ _ _ _ _ _ us hl => match us, hl with | [_, _, _], _ => rfl⟩
  · obtain ⟨room, bare, full, rfl, _⟩ := h
    rfl
  · obtain ⟨room, bare, full, rfl, r0, r64, k⟩ := h
    refine ⟨_, (pss_cons (ps_set (i := 3) sc_law_words.nd rfl (Or.inl rfl) (pe_lst (pa_cons pe_str (pa_cons pe_str (pa_cons pe_str (pa_cons pe_str (pa_cons pe_str (pa_cons pe_str (pa_cons pe_str (pa_cons pe_str pa_nil))))))))))
      (pss_cons (ps_setLc (i := 3) (own := [("word", 4)]) (tt := _) (by rfl) sc_law_words.nd rfl rfl (sw_true rfl rfl rfl (by decide +kernel)) (pi_list (pv 3)) (blkOk_by (own := [("word", 4)]) (N := N_law_words) (sc := defScope s_law_words) (by decide +kernel)) (fun _ _ _ _ _ => (pg_name (i := 4) sc_law_words.nd rfl (Or.inl rfl))) (fun _ _ _ _ _ => (pts_one (pt_cmpR op_le (pe_call G_law_length (hr.mono (by decide)) (by rfl) T.g_law_length T.k_law_length b_law_length .nil pass0 (pa_cons (pv 4) pa_nil)) (pv 0) (nomark _)))) (fun _ _ _ _ _ => (pv 4)))
      (pss_cut (ps_if (pt_val (pv 2)) (pss_one (ps_setLc (i := 3) (own := [("word", 4)]) (tt := _) (by rfl) sc_law_words.nd rfl rfl (sw_true rfl rfl rfl (by decide +kernel)) (pi_list (pv 3)) (blkOk_by (own := [("word", 4)]) (N := N_law_words) (sc := defScope s_law_words) (by decide +kernel)) (fun _ _ _ _ _ => (pg_name (i := 4) sc_law_words.nd rfl (Or.inl rfl))) (fun _ _ _ _ _ => (pts_one (pt_cmpR (op_inK (K := K) rfl) (pv 4) (pe_tup (pa_cons pe_str (pa_cons pe_str pa_nil))) (by with_unfolding_all rfl)))) (fun _ _ _ _ _ => (pv 4)))) pss_nil)
      (pss_cut (ps_if (pt_val (pv 1)) (pss_one (ps_setLc (i := 3) (own := [("word", 4)]) (tt := _) (by rfl) sc_law_words.nd rfl rfl (sw_true rfl rfl rfl (by decide +kernel)) (pi_list (pv 3)) (blkOk_by (own := [("word", 4)]) (N := N_law_words) (sc := defScope s_law_words) (by decide +kernel)) (fun _ _ _ _ _ => (pg_name (i := 4) sc_law_words.nd rfl (Or.inl rfl))) (fun _ _ _ _ _ => (pts_one (PW.pt (pw_and (pt_cmpR op_ne (pv 4) pe_str (nomark _)) (pw_and1 (pt_cmpR op_ne (pe_op op_sub (pv 0) (pe_call G_law_length (hr.mono (by decide)) (by rfl) T.g_law_length T.k_law_length b_law_length .nil pass0 (pa_cons (pv 4) pa_nil))) pe_int (nomark _))))))) (fun _ _ _ _ _ => (pv 4)))) pss_nil)
      (pss_cons (ps_if (pt_cmpR (op_eqD hr.units) (pv 3) (pe_lst pa_nil) (nomark _)) (pss_one (ps_ret (pe_lst (pa_cons pe_str pa_nil)))) pss_nil)
      (pss_one (ps_ret (pv 3)))))))), ?_⟩
    refine ⟨(by show 8 ≤ sizeLine; decide), fun w0 hw0 => ?_⟩
    have l0 : ListW (upd H w0 (.lst ((List.range 8).map fun w => V.str (word w)))) w0 (List.range 8) := upd_same
    have e0 : Ex H (upd H w0 (.lst ((List.range 8).map fun w => V.str (word w)))) := Ex.new hw0
    refine ⟨_, rfl, w0, rfl, ⟨_, l0.sz⟩, fun D hD => ?_⟩
    have hDH := back_none e0 hD
    refine lc_list (a := w0) (xs := (List.range 8).map fun w => V.str (word w)) (fun j G => Ex (upd H w0 (.lst ((List.range 8).map fun w => V.str (word w)))) G ∧ ∃ us : List Nat, ListW G D us ∧ (∀ x ∈ us, x < 8 ∧ fl x ≤ room) ∧ us.length ≤ j) ⟨Ex.new hD, [], upd_same, (fun x hx => by cases hx), Nat.le_refl _⟩ (fun j G _ p => (l0.ex p.1).sz) ?_ ?_
    · rintro j x G hx ⟨e, us, hd, hu, ul⟩
      obtain ⟨hj, rfl⟩ := word_at hx
      have hj8 : j < 8 := by rw [List.length_range] at hj; exact hj
      have w8 : (List.range 8).getD j 0 < 8 := by rw [getD_range hj8]; exact hj8
      refine ⟨rfl, ?_⟩
      refine ⟨_, rfl, _, rfl, w8, fun G2 e2 => ?_⟩
      have hd2 : ListW G2 D us := hd.ex e2
      refine ⟨_, rfl, _, _, rfl, rfl, _, rfl, ?_⟩
      refine ite_b (fun c => ?_) (fun c => ⟨e.trans e2, us, hd2, hu, Nat.le_succ_of_le ul⟩)
      have HW : (List.range 8).getD j 0 < 8 ∧ fl ((List.range 8).getD j 0) ≤ room := ⟨w8, by have := of_decide_eq_true c; omega⟩
      have EX := e.trans e2
      refine ⟨_, rfl, _, hd2, small1000 (by rw [List.length_map]; omega), ?_, us ++ [(List.range 8).getD j 0], ?_, fits_app (n := 0) hu HW, by rw [List.length_append]; exact Nat.succ_le_succ ul⟩
      · exact fun x o ho => by
          rw [upd_ne (ne_of_none ho hD)]
          exact EX x o ho
      · show upd _ D _ D = _
        rw [upd_same, ListW.app]
    rintro G ⟨e, us, hd, hu, ul⟩
    rw [List.length_map, List.length_range] at ul
    have e1 := e0.trans e
    have INV : Fits room us := ⟨hu, ul⟩
    clear hu ul e l0 e0 hw0
    have fD := hDH
    refine ⟨fun σ G' => ∃ (p : Addr) (ws : List Nat), σ = [some (.int (room : Int)), some (.bl bare), some (.bl full), some (.ref p), none] ∧ Ex H G' ∧ H p = none ∧ ListW G' p ws ∧ Fits room ws, ?_, ?_⟩
    · refine ⟨_, rfl, full, rfl, ?_⟩
      refine ite_b (fun c => ?_) (fun c => ⟨D, us, rfl, e1, fD, hd, INV⟩)
      refine ⟨_, rfl, D, rfl, ⟨_, hd.sz⟩, fun D2 hD2 => ?_⟩
      refine lc_list (a := D) (xs := us.map fun w => V.str (word w)) (fun j G9 => Ex G G9 ∧ ∃ vs_ : List Nat, ListW G9 D2 vs_ ∧ (∀ x ∈ vs_, x < 8 ∧ fl x ≤ room) ∧ vs_.length ≤ j) ⟨Ex.new hD2, [], upd_same, (fun x hx => by cases hx), Nat.le_refl _⟩ (fun j G9 _ p => (hd.ex p.1).sz) ?_ ?_
      · rintro j x G9 hx ⟨e9, vs_, hd9, hu, ul⟩
        obtain ⟨hj, rfl⟩ := word_at hx
        have HW := INV.1 _ (getD_mem hj)
        have l8 := INV.2
        have none_ : ∀ G8, Ex G9 G8 → (Ex G G8 ∧ ∃ vs_ : List Nat, ListW G8 D2 vs_ ∧ (∀ x ∈ vs_, x < 8 ∧ fl x ≤ room) ∧ vs_.length ≤ j + 1) := fun G8 e8 => ⟨e9.trans e8, vs_, hd9.ex e8, hu, Nat.le_succ_of_le ul⟩
        have some_ : ∀ G8, Ex G9 G8 → ∃ acc, G8 D2 = some (.lst acc) ∧ acc.length < sizeLine ∧ Ex G (upd G8 D2 (.lst (acc ++ [V.str (word (us.getD j 0))]))) ∧ ∃ vs_ : List Nat, ListW (upd G8 D2 (.lst (acc ++ [V.str (word (us.getD j 0))]))) D2 vs_ ∧ (∀ x ∈ vs_, x < 8 ∧ fl x ≤ room) ∧ vs_.length ≤ j + 1 := fun G8 e8 => by
          refine ⟨_, hd9.ex e8, small1000 (by rw [List.length_map]; omega), fun x o ho => ?_, vs_ ++ [us.getD j 0], ?_, fits_app (n := 0) hu HW, by rw [List.length_append]; exact Nat.succ_le_succ ul⟩
          · rw [upd_ne (ne_of_none ho hD2)]
            exact e8 _ _ (e9 x o ho)
          · show upd _ D2 _ D2 = _
            rw [upd_same, ListW.app]
        refine ⟨rfl, ?_⟩
        refine ⟨_, rfl, (by show 2 ≤ sizeLine; decide), fun T0 hT0 => ?_⟩
        have eT := Ex.new (o := .tup [V.str "free", V.str "pair"]) hT0
        refine ⟨T0, _, rfl, Or.inr (SqT.of upd_same), rfl, rfl, _, rfl, ?_⟩
        refine ite_b (fun c => ?_) (fun c => none_ _ eT)
        exact ⟨_, rfl, some_ _ eT⟩
      · rintro G9 ⟨e9, vs_, hd9, hu, ul⟩
        rw [List.length_map] at ul
        exact ⟨D2, vs_, rfl, e1.trans e9, back_none e1 hD2, hd9, hu, Nat.le_trans ul INV.2⟩
    rintro σ G1 ⟨p1, w1, rfl, e2, fp1, h1, F1⟩
    refine ⟨fun σ G' => ∃ (p : Addr) (ws : List Nat), σ = [some (.int (room : Int)), some (.bl bare), some (.bl full), some (.ref p), none] ∧ Ex H G' ∧ H p = none ∧ ListW G' p ws ∧ Fits room ws, ?_, ?_⟩
    · refine ⟨_, rfl, bare, rfl, ?_⟩
      refine ite_b (fun c => ?_) (fun c => ⟨p1, w1, rfl, e2, fp1, h1, F1⟩)
      refine ⟨_, rfl, p1, rfl, ⟨_, h1.sz⟩, fun D2 hD2 => ?_⟩
      refine lc_list (a := p1) (xs := w1.map fun w => V.str (word w)) (fun j G9 => Ex G1 G9 ∧ ∃ vs_ : List Nat, ListW G9 D2 vs_ ∧ (∀ x ∈ vs_, x < 8 ∧ fl x ≤ room) ∧ vs_.length ≤ j) ⟨Ex.new hD2, [], upd_same, (fun x hx => by cases hx), Nat.le_refl _⟩ (fun j G9 _ p => (h1.ex p.1).sz) ?_ ?_
      · rintro j x G9 hx ⟨e9, vs_, hd9, hu, ul⟩
        obtain ⟨hj, rfl⟩ := word_at hx
        have HW := F1.1 _ (getD_mem hj)
        have l8 := F1.2
        have none_ : ∀ G8, Ex G9 G8 → (Ex G1 G8 ∧ ∃ vs_ : List Nat, ListW G8 D2 vs_ ∧ (∀ x ∈ vs_, x < 8 ∧ fl x ≤ room) ∧ vs_.length ≤ j + 1) := fun G8 e8 => ⟨e9.trans e8, vs_, hd9.ex e8, hu, Nat.le_succ_of_le ul⟩
        have some_ : ∀ G8, Ex G9 G8 → ∃ acc, G8 D2 = some (.lst acc) ∧ acc.length < sizeLine ∧ Ex G1 (upd G8 D2 (.lst (acc ++ [V.str (word (w1.getD j 0))]))) ∧ ∃ vs_ : List Nat, ListW (upd G8 D2 (.lst (acc ++ [V.str (word (w1.getD j 0))]))) D2 vs_ ∧ (∀ x ∈ vs_, x < 8 ∧ fl x ≤ room) ∧ vs_.length ≤ j + 1 := fun G8 e8 => by
          refine ⟨_, hd9.ex e8, small1000 (by rw [List.length_map]; omega), fun x o ho => ?_, vs_ ++ [w1.getD j 0], ?_, fits_app (n := 0) hu HW, by rw [List.length_append]; exact Nat.succ_le_succ ul⟩
          · rw [upd_ne (ne_of_none ho hD2)]
            exact e8 _ _ (e9 x o ho)
          · show upd _ D2 _ D2 = _
            rw [upd_same, ListW.app]
        refine ⟨rfl, ?_⟩
        refine ⟨_, rfl, rfl, _, rfl, ?_⟩
        refine ite_b (fun c => ?_) (fun c => none_ _ (Ex.refl _))
        refine ⟨_, rfl, _, rfl, _, rfl, HW.1, fun G8 e8 => ⟨_, _, rfl, rfl, rfl, _, rfl, ?_⟩⟩
        refine ite_b (fun c => ?_) (fun c => none_ _ e8)
        exact ⟨_, rfl, some_ _ e8⟩
      · rintro G9 ⟨e9, vs_, hd9, hu, ul⟩
        rw [List.length_map] at ul
        exact ⟨D2, vs_, rfl, e2.trans e9, back_none e2 hD2, hd9, hu, Nat.le_trans ul F1.2⟩
    rintro σ G2 ⟨p2, w2, rfl, e3, fp2, h2, F2⟩
    refine ⟨_, rfl, Nat.zero_le _, fun z hz => ?_⟩
    have eZ := Ex.new (o := .lst []) hz
    refine ⟨dW w2, .list [], .lst (h2.ex eZ).sz (dpAll_W _), .lst (SqL.of upd_same) .nil, shaped_W _, (by decide), _, rfl, ?_⟩
    match w2, h2, F2 with
    | [], h2, F2 =>
      refine iteT ?_
      refine ⟨(by show 1 ≤ sizeLine; decide), fun q hq => ?_⟩
      have eq := (e3.trans eZ).trans (Ex.new (o := .lst [V.str "free"]) hq)
      exact k q [0] _ (back_none (e3.trans eZ) hq) eq upd_same ⟨fun x hx => by rw [List.mem_singleton.mp hx]; exact ⟨by decide, r0⟩, by decide⟩ (by simp)
    | x :: xs, h2, F2 =>
      refine iteF ?_
      exact ⟨_, rfl, k p2 (x :: xs) _ fp2 (e3.trans eZ) (h2.ex eZ) F2 (by simp)⟩

end

section
variable {P : Program} {w : World} {K : PySem.W.Frag} {mg : Str → Option Value} {base : Heap} {A : Ad}
theorem rgN (n : Nat) : rgV 0 (n : Int) = nI (List.range n) := by
  rw [rgV_map, List.map_map]
  rfl
theorem ok_law_order (T : Txt K mg A)  (g_law_draw : Okd P w K mg base CX0 1 A.law_draw P_law_draw spDraw) : Okd P w K mg base CX0 2 A.law_order P_law_order spOrd := by
  obtain ⟨fd, F⟩ := T.d_law_order
  obtain ⟨fd_law_draw, G_law_draw, b_law_draw⟩ := g_law_draw
  refine ⟨fd, F.ok sc_law_order (fun vs H Q E h => ?_) (fun cdv A' outer s H vs Q E hr h => ?_), F.binds fun _ _ _ _ _ _ us hl => match us, hl with | [_, _], _ => rfl⟩
  · obtain ⟨b, n, rfl, _⟩ := h
    rfl
  · obtain ⟨b, n, rfl, hn, S, k⟩ := h
    refine ⟨_, (pss_cons (ps_set (i := 2) sc_law_order.nd rfl (Or.inl rfl) (pe_listRg (by rfl) (by rfl) T.n_list (prg_1 (by rfl) T.n_range (pv 1))))
      (pss_cons (ps_for PassesOwn.never rfl (pi_range1 (by rfl) T.n_range (pa_cons (pe_op op_sub (pv 1) pe_int) pa_nil)) (pg_name (i := 3) sc_law_order.nd rfl (Or.inl rfl)) (pss_cons (ps_set (i := 4) sc_law_order.nd rfl (Or.inl rfl) (pe_op op_add (pv 3) (pe_call G_law_draw (hr.mono (by decide)) (by rfl) T.g_law_draw T.k_law_draw b_law_draw .nil pass0 (pa_cons (pv 0) (pa_cons (pe_op op_sub (pv 1) (pv 3)) pa_nil)))))
      (pss_cons (ps_set (i := 5) sc_law_order.nd rfl (Or.inl rfl) (pe_ix ix_list (pv 2) (pv 3) (fun _ _ => rfl)))
      (pss_cons (ps_asg (pe_ix ix_list (pv 2) (pv 4) (fun _ _ => rfl)) (pg_sub (pv 2) (pv 3) set_list))
      (pss_one (ps_asg (pv 5) (pg_sub (pv 2) (pv 4) set_list)))))))
      (pss_one (ps_ret (pv 2))))), ?_⟩
    walk_at "r"
    refine ⟨RgOk.of_le (by decide) (by omega) (by decide) (by omega), fun sp hsp => ?_⟩
    walk_at "r"
    have nsb : sp ≠ b := S.ne hsp
    have h2 : ListN (upd H sp (.lst (rgV 0 (n : Int)))) sp (List.range n) := by
      show (upd H sp _) sp = _
      rw [upd_same, rgN]
    refine ⟨by omega, by omega, ?_⟩
    rw [show ((n : Int) - 1).toNat = n - 1 from by omega]
    refine for_range (lo := 0) (n := n - 1) (fun i σ H' => ∃ (os : List Nat) (v3 v4 v5 : Option V), σ = [some (.ref b), some (.int n), some (.ref sp), v3, v4, v5] ∧ os.Perm (List.range n) ∧ ListN H' sp os ∧ Strm H' b ∧ Mut b H H')
      ⟨List.range n, none, none, none, rfl, List.Perm.refl _, h2, S.ex (Ex.new hsp), (Mut.refl _ _).new hsp⟩ ?_ ?_
    · rintro i σ H' hi ⟨os, v3, v4, v5, rfl, hpm, ho, S', M'⟩
      have hlen : os.length = n := by rw [hpm.length_eq, List.length_range]
      rw [Int.zero_add]
      refine ⟨_, rfl, _, rfl, _, rfl, _, rfl, _, _, rfl, rfl, b, _, rfl, by omega, by omega, S', fun d H1 h0 h1 S1 M1 => ?_⟩
      obtain ⟨d, rfl⟩ := Int.eq_ofNat_of_zero_le h0
      have ho1 : ListN H1 sp os := M1 _ _ nsb ho
      have hi2 : i < os.length := by omega
      have hd2 : i + d < os.length := by omega
      refine ⟨_, _, rfl, rfl, ?_⟩
      have ea : ((i : Nat) : Int) + (d : Int) = ((i + d : Nat) : Int) := by omega
      have at2 : atI (nI os) (((i : Nat) : Int) + (d : Int)) = some (V.int ((os.getD (i + d) 0 : Nat) : Int)) := by rw [ea]; exact atN hd2
      have ix2 : ∀ l : List V, l.length = n → ixN l.length (((i : Nat) : Int) + (d : Int)) = some (i + d) := fun l hl => by rw [ea]; exact Evl.ixN_nat (by omega)
      refine ⟨_, rfl, _, rfl, sp, _, _, _, rfl, rfl, ho1.sz, atN hi2, ?_⟩
      refine ⟨_, rfl, _, rfl, sp, _, _, _, rfl, rfl, ho1.sz, at2, ?_⟩
      refine ⟨_, rfl, _, rfl, sp, _, _, i, rfl, rfl, ho1, Evl.ixN_nat (by rw [nI_len]; exact hi2), ?_⟩
      refine ⟨_, rfl, _, rfl, _, rfl, sp, _, _, i + d, rfl, rfl, upd_same, ix2 _ (by rw [List.length_set, nI_len]; exact hlen), ?_⟩
      have e1 : os.getD i 0 = os[i] := by rw [List.getD_eq_getElem?_getD, List.getElem?_eq_getElem hi2]; rfl
      have e2 : os.getD (i + d) 0 = os[i + d] := by rw [List.getD_eq_getElem?_getD, List.getElem?_eq_getElem hd2]; rfl
      refine ⟨(os.set i os[i + d]).set (i + d) os[i], _, _, _, rfl, (List.set_set_perm hi2 hd2).trans hpm, ?_, ?_, ?_⟩
      · show upd (upd H1 sp _) sp _ sp = _
        rw [upd_same, e1, e2]
        unfold nI
        rw [List.map_set, List.map_set]
      · exact S1.keep fun o ho => by rw [upd_ne (Ne.symm nsb), upd_ne (Ne.symm nsb)]; exact ho
      · intro a o ha ho
        rw [upd_ne (ne_of_none ho hsp), upd_ne (ne_of_none ho hsp)]
        exact M1 _ _ ha (M' a o ha ho)
    · rintro σ H' ⟨os, v3, v4, v5, rfl, hpm, ho, S', M'⟩
      exact ⟨_, rfl, k sp os H' hsp S' M' ho hpm⟩

end

section
variable {P : Program} {w : World} {K : PySem.W.Frag} {mg : Str → Option Value} {base : Heap} {A : Ad}
theorem ok_law_size (T : Txt K mg A)  (g_law_draw : Okd P w K mg base CX0 1 A.law_draw P_law_draw spDraw) : Okd P w K mg base CX0 2 A.law_size P_law_size spSz := by
  obtain ⟨fd, F⟩ := T.d_law_size
  obtain ⟨fd_law_draw, G_law_draw, b_law_draw⟩ := g_law_draw
  refine ⟨fd, F.ok sc_law_size (fun vs H Q E h => ?_) (fun cdv A' outer s H vs Q E hr h => ?_), F.binds fun _ _ _ _ _ _ us hl => match us, hl with | [_], _ => rfl⟩
  · obtain ⟨b, rfl, _⟩ := h
    rfl
  · obtain ⟨b, rfl, S, k⟩ := h
    refine ⟨_, (pss_cons (ps_set (i := 1) sc_law_size.nd rfl (Or.inl rfl) (pe_call G_law_draw (hr.mono (by decide)) (by rfl) T.g_law_draw T.k_law_draw b_law_draw .nil pass0 (pa_cons (pv 0) (pa_cons pe_int pa_nil))))
      (pss_cons (ps_if (pt_cmpR op_eq (pv 1) pe_int (nomark _)) (pss_one (ps_ret (pe_op op_add pe_int (pe_call G_law_draw (hr.mono (by decide)) (by rfl) T.g_law_draw T.k_law_draw b_law_draw .nil pass0 (pa_cons (pv 0) (pa_cons pe_int pa_nil)))))) pss_nil)
      (pss_cons (ps_if (pt_cmpR op_eq (pv 1) pe_int (nomark _)) (pss_one (ps_ret (pe_call G_law_draw (hr.mono (by decide)) (by rfl) T.g_law_draw T.k_law_draw b_law_draw .nil pass0 (pa_cons (pv 0) (pa_cons pe_int pa_nil))))) pss_nil)
      (pss_one (ps_ret (pe_op op_add pe_int (pe_call G_law_draw (hr.mono (by decide)) (by rfl) T.g_law_draw T.k_law_draw b_law_draw .nil pass0 (pa_cons (pv 0) (pa_cons pe_int pa_nil))))))))), ?_⟩
    refine ⟨_, rfl, b, 9, rfl, by decide, by decide, S, fun way G2 w0 w9 S2 M2 => ?_⟩
    walk_at "r"
    refine ite_b (fun _ => ?_) (fun _ => ?_)
    · refine ⟨_, rfl, b, 52, rfl, by decide, by decide, S2, fun d G3 d0 d9 S3 M3 => ?_⟩
      obtain ⟨d, rfl⟩ := Int.eq_ofNat_of_zero_le d0
      refine ⟨_, _, rfl, rfl, ?_⟩
      have := k (13 + d) G3 (by omega) S3 (M2.trans M3)
      rw [Int.natCast_add] at this
      exact this
    walk_at "r"
    refine ite_b (fun _ => ?_) (fun _ => ?_)
    · refine ⟨_, rfl, b, 4, rfl, by decide, by decide, S2, fun d G3 d0 d9 S3 M3 => ?_⟩
      obtain ⟨d, rfl⟩ := Int.eq_ofNat_of_zero_le d0
      exact k d G3 (by omega) S3 (M2.trans M3)
    · refine ⟨_, rfl, b, 10, rfl, by decide, by decide, S2, fun d G3 d0 d9 S3 M3 => ?_⟩
      obtain ⟨d, rfl⟩ := Int.eq_ofNat_of_zero_le d0
      refine ⟨_, _, rfl, rfl, ?_⟩
      have := k (3 + d) G3 (by omega) S3 (M2.trans M3)
      rw [Int.natCast_add] at this
      exact this

end

section
variable {P : Program} {w : World} {K : PySem.W.Frag} {mg : Str → Option Value} {base : Heap} {A : Ad}
structure Bst (n : Nat) (ms ys : List Nat) (a : Nat) (cs : List Bk) : Prop where
  ly : ys.length = n
  an : a ≤ n
  fl : (cs.flatMap (·.2)).Perm (ms.take a)
  blk : ∀ b ∈ cs, Blk ys b
  can : ∀ b ∈ cs, Canon b
def bsJ (cs : List Bk) (j : Nat) : List Bk := (List.range j).filterMap fun x => cs.find? fun b => decide (mn b.2 = x)
section
variable {n : Nat} {ms ys : List Nat} {a : Nat} {cs : List Bk}
theorem Bst.nd (hp : ms.Perm (List.range n)) (B : Bst n ms ys a cs) : (cs.flatMap (·.2)).Nodup := B.fl.nodup_iff.mpr ((hp.nodup_iff.mpr List.nodup_range).sublist (List.take_sublist _ _))
theorem Bst.step (hp : ms.Perm (List.range n)) (B : Bst n ms ys a cs) {w : Nat} (hw : w < 8) (hf : Pv.fl w ≤ n - a) :
    Bst n ms (fill ys (canon w ((ms.drop a).take (Pv.fl w))) (form w) (form w).length) (a + Pv.fl w) (cs ++ [(w, canon w ((ms.drop a).take (Pv.fl w)))]) ∧ ((ms.drop a).take (Pv.fl w)).length = Pv.fl w ∧ ∀ x ∈ canon w ((ms.drop a).take (Pv.fl w)), x < n := by
  have hl : ms.length = n := by rw [hp.length_eq, List.length_range]
  have an := B.an
  have nd : ms.Nodup := hp.nodup_iff.mpr List.nodup_range
  have sl : ((ms.drop a).take (Pv.fl w)).length = Pv.fl w := by
    rw [List.length_take, List.length_drop]
    omega
  have tk : ms.take (a + Pv.fl w) = ms.take a ++ (ms.drop a).take (Pv.fl w) := List.take_add ..
  have ndt : (ms.take a ++ (ms.drop a).take (Pv.fl w)).Nodup := by
    rw [← tk]
    exact nd.sublist (List.take_sublist _ _)
  have cp : (canon w ((ms.drop a).take (Pv.fl w))).Perm ((ms.drop a).take (Pv.fl w)) := canon_perm sl
  have lts : ∀ x ∈ (ms.drop a).take (Pv.fl w), x < n := fun x hx => List.mem_range.mp (hp.mem_iff.mp (List.mem_of_mem_drop (List.mem_of_mem_take hx)))
  generalize (ms.drop a).take (Pv.fl w) = seg at sl tk ndt cp lts ⊢
  have sl' : (canon w seg).length = (form w).length := by rw [cp.length_eq]; exact sl
  have ndc : (canon w seg).Nodup := cp.nodup_iff.mpr (List.nodup_append.mp ndt).2.1
  have ltc : ∀ x ∈ canon w seg, x < ys.length := fun x hx => by
    rw [B.ly]
    exact lts x (cp.mem_iff.mp hx)
  refine ⟨⟨by rw [fill_len]; exact B.ly, by omega, ?_, fun b hb => ?_, fun b hb => ?_⟩, sl, fun x hx => lts x (cp.mem_iff.mp hx)⟩
  · rw [tk, List.flatMap_append]
    refine B.fl.append ?_
    rw [List.flatMap_cons, List.flatMap_nil, List.append_nil]
    exact cp
  · rcases List.mem_append.mp hb with hb | hb
    · refine blk_out (B.blk b hb) (fun x hx hs => ?_) (by rw [sl']; exact Nat.le_refl _)
      exact (List.nodup_append.mp ndt).2.2 x (B.fl.mem_iff.mp (List.mem_flatMap.mpr ⟨b, hb, hx⟩)) x (cp.mem_iff.mp hs) rfl
    · rw [List.mem_singleton.mp hb]
      exact blk_in hw ndc ltc sl'
  · rcases List.mem_append.mp hb with hb | hb
    · exact B.can b hb
    · rw [List.mem_singleton.mp hb]
      exact canon_ok sl (List.nodup_append.mp ndt).2.1
theorem blk_ne {b : Bk} (B : Blk ys b) : b.2 ≠ [] := fun z => by
  have h1 := B.len
  have h2 := form_len b.1
  rw [z] at h1
  simp at h1
  omega
theorem Bst.mn_uniq (hp : ms.Perm (List.range n)) (B : Bst n ms ys a cs) {b c : Bk} (hb : b ∈ cs) (hc : c ∈ cs) (e : mn b.2 = mn c.2) : b = c :=
  uniq (B.nd hp) hb hc (mn_mem (blk_ne (B.blk b hb))) (by rw [e]; exact mn_mem (blk_ne (B.blk c hc)))
theorem Bst.find (hp : ms.Perm (List.range n)) (B : Bst n ms ys a cs) {b : Bk} (hb : b ∈ cs) {x : Nat} (e : mn b.2 = x) : (cs.find? fun b => decide (mn b.2 = x)) = some b := by
  cases h : cs.find? fun b => decide (mn b.2 = x) with
  | none =>
    have := List.find?_eq_none.mp h b hb
    rw [decide_eq_true e] at this
    exact absurd rfl this
  | some c =>
    have h1 := of_decide_eq_true (show decide (mn c.2 = x) = true from by simpa using List.find?_some h)
    rw [B.mn_uniq hp (List.mem_of_find?_eq_some h) hb (h1.trans e.symm)]
theorem Bst.good (hp : ms.Perm (List.range n)) (h64 : n ≤ 64) (B : Bst n ms ys n cs) : Good ys (bsJ cs n) := by
  have hl : ms.length = n := by rw [hp.length_eq, List.length_range]
  have srt : (bsJ cs n).Pairwise fun b c => mn b.2 < mn c.2 := by
    unfold bsJ
    rw [List.pairwise_filterMap]
    refine List.Pairwise.imp ?_ List.pairwise_lt_range
    intro x y hxy b hb c hc
    have h1 : mn b.2 = x := by simpa using List.find?_some hb
    have h2 : mn c.2 = y := by simpa using List.find?_some hc
    omega
  have nd1 : (bsJ cs n).Nodup := srt.imp fun {b c} h z => by rw [z] at h; exact Nat.lt_irrefl _ h
  have ndf := B.nd hp
  have nd2 : cs.Nodup := by
    have pw := disj_of ndf
    refine List.Pairwise.imp_of_mem (fun {b c} hb hc h z => ?_) pw
    have m := mn_mem (blk_ne (B.blk b hb))
    exact h _ m _ (z ▸ m) rfl
  have tk : ms.take n = ms := by rw [← hl, List.take_length]
  have perm : (bsJ cs n).Perm cs := (List.perm_ext_iff_of_nodup nd1 nd2).mpr fun b => by
    constructor
    · intro hb
      obtain ⟨x, _, hx⟩ := List.mem_filterMap.mp hb
      exact List.mem_of_find?_eq_some hx
    · intro hb
      refine List.mem_filterMap.mpr ⟨mn b.2, List.mem_range.mpr ?_, B.find hp hb rfl⟩
      have : mn b.2 ∈ cs.flatMap (·.2) := List.mem_flatMap.mpr ⟨b, hb, mn_mem (blk_ne (B.blk b hb))⟩
      have := B.fl.mem_iff.mp this
      rw [tk] at this
      exact List.mem_range.mp (hp.mem_iff.mp this)
  refine ⟨⟨fun b hb => B.blk b (perm.mem_iff.mp hb), ?_⟩, srt, fun b hb => B.can b (perm.mem_iff.mp hb), by rw [B.ly]; exact h64⟩
  rw [B.ly]
  refine (flat_perm perm).trans (B.fl.trans ?_)
  rw [tk]
  exact hp
theorem bsJ_step {cs : List Bk} {j : Nat} : bsJ cs (j + 1) = bsJ cs j ++ (match cs.find? fun b => decide (mn b.2 = j) with | none => [] | some b => [b]) := by
  unfold bsJ
  rw [List.range_succ, List.filterMap_append]
  congr 1
  rw [List.filterMap_cons, List.filterMap_nil]
  cases cs.find? fun b => decide (mn b.2 = j) <;> rfl
end
end

section
variable {P : Program} {w : World} {K : PySem.W.Frag} {mg : Str → Option Value} {base : Heap} {A : Ad}
def BlkP (H : Hp) (st im q : Addr) (b : Bk) : Prop := ∃ l, H q = some (.tup [.str (word b.1), .ref l]) ∧ ListN H l b.2 ∧ l ≠ st ∧ l ≠ im
/-- the dict of the pieces by their least records -/
def Plc (H : Hp) (st im pl : Addr) (cs : List Bk) : Prop := ∃ (ts : List Addr) (kvs : List (Key × V)), H pl = some (.dK kvs) ∧ kvs.length ≤ cs.length ∧ ts.length = cs.length ∧
  (∀ (i : Nat) (q : Addr) (b : Bk), ts[i]? = some q → cs[i]? = some b → BlkP H st im q b ∧ valV kvs (Sum.inl ((mn b.2 : Nat) : Int)) = some (.ref q)) ∧ ∀ x : Nat, (∀ b ∈ cs, mn b.2 ≠ x) → valV kvs (Sum.inl (x : Int)) = none
theorem Plc.keep {H G : Hp} {st im pl : Addr} {cs : List Bk} {xs ys : List V} (P : Plc H st im pl cs) (hs : H st = some (.lst xs)) (hi : H im = some (.lst ys)) (k : ∀ a u, a ≠ st → a ≠ im → H a = some u → G a = some u) : Plc G st im pl cs := by
  obtain ⟨ts, kvs, h1, h2, h3, h4, h5⟩ := P
  have p1 : pl ≠ st := fun z => by rw [z, hs] at h1; cases h1
  have p2 : pl ≠ im := fun z => by rw [z, hi] at h1; cases h1
  refine ⟨ts, kvs, k _ _ p1 p2 h1, h2, h3, fun i q b a c => ?_, h5⟩
  obtain ⟨⟨l, x1, x2, x3, x4⟩, x5⟩ := h4 i q b a c
  exact ⟨⟨l, k _ _ (fun z => by rw [z, hs] at x1; cases x1) (fun z => by rw [z, hi] at x1; cases x1) x1, k _ _ x3 x4 x2, x3, x4⟩, x5⟩
theorem put_len15 (c : List (Key × V)) (k : Key) (x : V) : (putK c k x).length ≤ c.length + 1 := by
  unfold putK
  split
  · rw [List.length_map]
    exact Nat.le_succ _
  · rw [List.length_append]
    exact Nat.le_refl _
theorem Plc.put {H G : Hp} {st im pl t l : Addr} {cs : List Bk} {b : Bk} (P : Plc H st im pl cs) (ne : ∀ c ∈ cs, mn c.2 ≠ mn b.2) (kvs : List (Key × V)) (hk : H pl = some (.dK kvs)) (gk : G pl = some (.dK (putK kvs (Sum.inl ((mn b.2 : Nat) : Int)) (.ref t)))) (k : ∀ a u, a ≠ pl → H a = some u → G a = some u)
    (ht : H t = some (.tup [.str (word b.1), .ref l])) (hl : ListN H l b.2) (l1 : l ≠ st) (l2 : l ≠ im) : Plc G st im pl (cs ++ [b]) := by
  obtain ⟨ts, kvs', h1, h2, h3, h4, h5⟩ := P
  rw [hk] at h1
  have h1 := HO.dK.inj (Option.some.inj h1)
  subst h1
  have ntp : t ≠ pl := fun z => by rw [z, hk] at ht; cases ht
  have nlp : l ≠ pl := fun z => by unfold ListN at hl; rw [z, hk] at hl; cases hl
  refine ⟨ts ++ [t], _, gk, ?_, by rw [List.length_append, List.length_append, h3]; rfl, fun i q c a e => ?_, fun x hx => ?_⟩
  · have := put_len15 kvs (Sum.inl ((mn b.2 : Nat) : Int)) (.ref t)
    rw [List.length_append]
    show _ ≤ cs.length + 1
    omega
  · by_cases c1 : i < ts.length
    · rw [List.getElem?_append_left c1] at a
      rw [List.getElem?_append_left (by omega)] at e
      obtain ⟨⟨l', x1, x2, x3, x4⟩, x5⟩ := h4 i q c a e
      refine ⟨⟨l', k _ _ (fun z => by rw [z, hk] at x1; cases x1) x1, k _ _ (fun z => by unfold ListN at x2; rw [z, hk] at x2; cases x2) x2, x3, x4⟩, ?_⟩
      rw [valV_put, if_neg]
      · exact x5
      · intro z
        have := ne c (List.mem_of_getElem? e)
        exact this (Int.ofNat.inj (Sum.inl.inj z))
    · rw [List.getElem?_append_right (by omega)] at a
      rw [List.getElem?_append_right (by omega), ← h3] at e
      match hz : i - ts.length with
      | 0 =>
        rw [hz] at a e
        have a := Option.some.inj a
        have e := Option.some.inj e
        subst a
        subst e
        exact ⟨⟨l, k _ _ ntp ht, k _ _ nlp hl, l1, l2⟩, by rw [valV_put, if_pos rfl]⟩
      | z + 1 =>
        rw [hz] at a
        cases a
  · rw [valV_put, if_neg]
    · exact h5 x fun c hc => hx c (List.mem_append_left _ hc)
    · intro z
      have := Int.ofNat.inj (Sum.inl.inj z)
      exact hx b (List.mem_append_right _ (List.mem_singleton.mpr rfl)) this.symm
theorem atW {ws : List Nat} {j : Nat} (h : j < ws.length) : atI (ws.map fun w => V.str (word w)) (j : Int) = some (V.str (word (ws.getD j 0))) := atI_nat (by
  rw [List.getElem?_map, List.getElem?_eq_getElem h, List.getD_eq_getElem?_getD, List.getElem?_eq_getElem h]
  rfl)
theorem cut15 {ms : List Nat} {a k : Nat} (h : a + k ≤ ms.length) : cutV (nI ms) (some (a : Int)) (some ((a : Int) + (k : Int))) = nI ((ms.drop a).take k) := by
  unfold cutV HT.sIx nI
  simp only [if_neg (show ¬ ((a : Int) < 0) by omega), if_neg (show ¬ ((a : Int) + (k : Int) < 0) by omega), List.length_map]
  rw [show ((a : Nat) : Int).toNat = a from Int.toNat_natCast _, show ((a : Int) + (k : Int)).toNat = a + k by omega, Nat.min_eq_left (by omega), Nat.min_eq_left (by omega), Nat.add_sub_cancel_left, List.map_take, List.map_drop]
def spBld : Sp := fun vs H Q _ => ∃ (st br : Addr) (n : Nat) (bare : Bool) (m : Int), vs = [.ref st, .int (n : Int), .ref br, .bl bare, .int m] ∧ n ≤ 64 ∧ Strm H st ∧ H br = some (.lst []) ∧
  ∀ (p q r l : Addr) (ys : List Nat) (bs : List Bk) H', H p = none → H q = none → Strm H' st → Mut st H H' → H' p = some (.lst [.ref q, .ref r, .ref l]) → ListN H' q ys → ys.length = n → BksAt H' r bs → Good ys bs → Q (.ref p) H'
theorem ok_law_build (T : Txt K mg A)  (g_law_order : Okd P w K mg base CX0 2 A.law_order P_law_order spOrd) (g_law_words : Okd P w K mg base CX0 2 A.law_words P_law_words spWds) (g_law_draw : Okd P w K mg base CX0 1 A.law_draw P_law_draw spDraw) (g_law_part : Okd P w K mg base CX0 1 A.law_part P_law_part spPrt) (g_law_length : Okd P w K mg base CX0 1 A.law_length P_law_length spLen) (g_law_shown : Okd P w K mg base CX0 1 A.law_shown P_law_shown spSh) : Okd P w K mg base CX0 3 A.law_build P_law_build spBld := by
  obtain ⟨fd, F⟩ := T.d_law_build
  obtain ⟨fd_law_order, G_law_order, b_law_order⟩ := g_law_order
  obtain ⟨fd_law_words, G_law_words, b_law_words⟩ := g_law_words
  obtain ⟨fd_law_draw, G_law_draw, b_law_draw⟩ := g_law_draw
  obtain ⟨fd_law_part, G_law_part, b_law_part⟩ := g_law_part
  obtain ⟨fd_law_length, G_law_length, b_law_length⟩ := g_law_length
  obtain ⟨fd_law_shown, G_law_shown, b_law_shown⟩ := g_law_shown
  refine ⟨fd, F.ok sc_law_build (fun vs H Q E h => ?_) (fun cdv A' outer s H vs Q E hr h => ?_), F.binds fun _ _ _ _ _ _ us hl => match us, hl with | [_, _, _, _, _], _ => rfl⟩
  · obtain ⟨st, br, n, bare, m, rfl, _⟩ := h
    rfl
  · obtain ⟨st, br, n, bare, m, rfl, n64, S, hbr, k⟩ := h
    refine ⟨_, (pss_cons (ps_set (i := 5) sc_law_build.nd rfl (Or.inl rfl) (pe_call G_law_order (hr.mono (by decide)) (by rfl) T.g_law_order T.k_law_order b_law_order .nil pass0 (pa_cons (pv 0) (pa_cons (pv 1) pa_nil))))
      (pss_cons (ps_set (i := 6) sc_law_build.nd rfl (Or.inl rfl) (pe_listRg (by rfl) (by rfl) T.n_list (prg_1 (by rfl) T.n_range (pv 1))))
      (pss_cons (ps_set (i := 7) sc_law_build.nd rfl (Or.inr rfl) pe_dnewK)
      (pss_cons (ps_set (i := 8) sc_law_build.nd rfl (Or.inl rfl) (pe_lst pa_nil))
      (pss_cons (ps_set (i := 9) sc_law_build.nd rfl (Or.inl rfl) pe_int)
      (pss_cons (ps_for PassesOwn.never rfl (pi_list (pv 2)) (pg_name (i := 10) sc_law_build.nd rfl (Or.inl rfl)) (pss_one (ps_if (pt_cmpR op_le (pe_op op_add (pv 9) (pe_callB call_len_seq (by rfl) T.n_len PySem.boot_len (pa_cons (pv 10) pa_nil))) (pv 1) (nomark _)) (pss_cons (ps_for PassesOwn.never rfl (pi_range1 (by rfl) T.n_range (pa_cons (pe_callB call_len_seq (by rfl) T.n_len PySem.boot_len (pa_cons (pv 10) pa_nil)) pa_nil)) (pg_name (i := 11) sc_law_build.nd rfl (Or.inl rfl)) (pss_one (ps_asg (pe_ix ix_list (pv 5) (pe_op op_add (pv 9) (pe_ix ix_list (pv 10) (pv 11) (fun _ _ => rfl))) (fun _ _ => rfl)) (pg_sub (pv 6) (pe_ix ix_list (pv 5) (pe_op op_add (pv 9) (pv 11)) (fun _ _ => rfl)) set_list))))
      (pss_cons (ps_expr (pe_bm PySem.F.plainAttrs_list PySem.F.slot_list_append PySem.F.type_list_append mt_append (pv 8) (pa_cons (pe_callB cr_sortedI (by rfl) T.n_sorted (by decide +kernel) (pa_cons (pe_slice sl_list (pv 5) (po_some (pv 9)) (po_some (pe_op op_add (pv 9) (pe_callB call_len_seq (by rfl) T.n_len PySem.boot_len (pa_cons (pv 10) pa_nil))))) pa_nil)) pa_nil)))
      (pss_one (ps_set (i := 9) sc_law_build.nd rfl (Or.inl rfl) (pe_op op_add (pv 9) (pe_callB call_len_seq (by rfl) T.n_len PySem.boot_len (pa_cons (pv 10) pa_nil))))))) pss_nil)))
      (pss_cons (ps_set (i := 12) sc_law_build.nd rfl (Or.inl rfl) pe_int)
      (pss_cons (ps_for PassesOwn.never rfl (pi_range1 (by rfl) T.n_range (pa_cons (pv 1) pa_nil)) (pg_name (i := 13) sc_law_build.nd rfl (Or.inl rfl)) (pss_one (ps_if (pt_cmpR op_lt (pv 9) (pv 1) (nomark _)) (pss_cons (ps_set (i := 14) sc_law_build.nd rfl (Or.inl rfl) (pe_call G_law_words (hr.mono (by decide)) (by rfl) T.g_law_words T.k_law_words b_law_words .nil pass0 (pa_cons (pe_op op_sub (pv 1) (pv 9)) (pa_cons (pv 3) (pa_cons (pe_cmpR op_ge (pv 12) (pv 4) (nomark _)) pa_nil)))))
      (pss_cons (ps_set (i := 15) sc_law_build.nd rfl (Or.inl rfl) (pe_ix ix_list (pv 14) (pe_call G_law_draw (hr.mono (by decide)) (by rfl) T.g_law_draw T.k_law_draw b_law_draw .nil pass0 (pa_cons (pv 0) (pa_cons (pe_callB call_len_seq (by rfl) T.n_len PySem.boot_len (pa_cons (pv 14) pa_nil)) pa_nil))) (fun _ _ => rfl)))
      (pss_cons (ps_set (i := 16) sc_law_build.nd rfl (Or.inl rfl) (pe_call G_law_part (hr.mono (by decide)) (by rfl) T.g_law_part T.k_law_part b_law_part .nil pass0 (pa_cons (pv 15) (pa_cons (pe_slice sl_list (pv 5) (po_some (pv 9)) (po_some (pe_op op_add (pv 9) (pe_call G_law_length (hr.mono (by decide)) (by rfl) T.g_law_length T.k_law_length b_law_length .nil pass0 (pa_cons (pv 15) pa_nil))))) pa_nil))))
      (pss_cons (ps_set (i := 17) sc_law_build.nd rfl (Or.inl rfl) (pe_call G_law_shown (hr.mono (by decide)) (by rfl) T.g_law_shown T.k_law_shown b_law_shown .nil pass0 (pa_cons (pv 15) (pa_cons (pv 16) pa_nil))))
      (pss_cons (ps_for PassesOwn.never rfl (pi_range1 (by rfl) T.n_range (pa_cons (pe_callB call_len_seq (by rfl) T.n_len PySem.boot_len (pa_cons (pv 16) pa_nil)) pa_nil)) (pg_name (i := 11) sc_law_build.nd rfl (Or.inl rfl)) (pss_one (ps_asg (pe_ix ix_list (pv 17) (pv 11) (fun _ _ => rfl)) (pg_sub (pv 6) (pe_ix ix_list (pv 16) (pv 11) (fun _ _ => rfl)) set_list))))
      (pss_cons (ps_dput (hu_of hr) (pv 7) (pe_callB (cr_min (by rfl)) (by rfl) T.n_min (by decide +kernel) (pa_cons (pv 16) pa_nil)) (pe_tup (pa_cons (pv 15) (pa_cons (pv 16) pa_nil))) rfl)
      (pss_cons (ps_set (i := 12) sc_law_build.nd rfl (Or.inl rfl) (pe_op op_add (pv 12) (pe_callTy call_int1 (by rfl) T.n_int (by decide +kernel) (pa_cons (pe_cmpR op_notIn_seq (pv 15) (pe_tup (pa_cons pe_str (pa_cons pe_str pa_nil))) (by with_unfolding_all rfl)) pa_nil))))
      (pss_one (ps_set (i := 9) sc_law_build.nd rfl (Or.inl rfl) (pe_op op_add (pv 9) (pe_callB call_len_seq (by rfl) T.n_len PySem.boot_len (pa_cons (pv 16) pa_nil)))))))))))) pss_nil)))
      (pss_cons (ps_setLc (i := 18) (own := [("x", 19)]) (tt := _) (by rfl) sc_law_build.nd rfl rfl (sw_true rfl rfl rfl (by decide +kernel)) (pi_range1 (by rfl) T.n_range (pa_cons (pv 1) pa_nil)) (blkOk_by (own := [("x", 19)]) (N := N_law_build) (sc := defScope s_law_build) (by decide +kernel)) (fun _ _ _ _ _ => (pg_name (i := 19) sc_law_build.nd rfl (Or.inl rfl))) (fun _ _ _ _ _ => (pts_one (pt_cmp (pc_din (by exact hu_of hr) (pv 19) (pv 7))))) (fun _ _ _ _ _ => (pe_dget (by exact hu_of hr) (pv 7) (pv 19) (fun _ _ => rfl))))
      (pss_one (ps_ret (pe_lst (pa_cons (pv 6) (pa_cons (pv 18) (pa_cons (pv 8) pa_nil))))))))))))))), ?_⟩
    have nbs : br ≠ st := fun z => by
      obtain ⟨r, s, t, hb, _⟩ := S
      rw [← z, hbr] at hb
      cases hb
    refine ⟨_, rfl, _, rfl, st, n, rfl, n64, S, fun o ms H1 ho S1 M1 lo pm => ?_⟩
    have ol : ms.length = n := by rw [pm.length_eq, List.length_range]
    refine ⟨_, rfl, _, rfl, RgOk.of_le (by decide) (by omega) (by decide) (by omega), fun im him => ?_⟩
    have nos : o ≠ st := S.ne ho
    have nis : im ≠ st := S1.ne him
    have lim : ListN (upd H1 im (.lst (rgV 0 (n : Int)))) im (List.range n) := by
      show upd H1 im _ im = _
      rw [upd_same, rgN]
    have e1 : Ex H1 (upd H1 im (.lst (rgV 0 (n : Int)))) := Ex.new him
    generalize upd H1 im (.lst (rgV 0 (n : Int))) = H2 at lim e1 ⊢
    have noi : o ≠ im := ne_of_none lo him
    refine fun pl hpl => ?_
    have e2 : Ex H2 (upd H2 pl (.dK [])) := Ex.new hpl
    have hpl0 : upd H2 pl (.dK []) pl = some (.dK []) := upd_same
    generalize upd H2 pl (.dK []) = H3 at e2 hpl0 ⊢
    refine ⟨(by show 0 ≤ sizeLine; decide), fun ls hls => ?_⟩
    have e3 : Ex H3 (upd H3 ls (.lst [])) := Ex.new hls
    have hls0 : upd H3 ls (.lst []) ls = some (.lst []) := upd_same
    generalize upd H3 ls (.lst []) = H4 at e3 hls0 ⊢
    have e14 := (e1.trans e2).trans e3
    have S4 := S1.ex e14
    have M4 : Mut st H H4 := M1.trans (Mut.of_ex e14)
    have hbr4 : H4 br = some (.lst []) := M4 _ _ nbs hbr
    have lo4 := lo.ex e14
    have lim4 := (lim.ex e2).ex e3
    have hpl4 := e3 _ _ hpl0
    have fim : H im = none := by
      cases q : H im with
      | none => rfl
      | some u =>
        have := M1 _ _ nis q
        rw [this] at him
        cases him
    have npl : pl ≠ im := fun z => by
      unfold ListN at lim4
      rw [← z, hpl4] at lim4
      cases lim4
    have nps : pl ≠ st := fun z => by
      obtain ⟨r, s, t, hb, _⟩ := S4
      rw [← z, hpl4] at hb
      cases hb
    have fpl : H pl = none := by
      cases q : H pl with
      | none => rfl
      | some u =>
        have := e1 _ _ (M1 _ _ nps q)
        rw [this] at hpl
        cases hpl
    refine ⟨_, rfl, br, rfl, ⟨_, SqL.of hbr4⟩, for_list (K := K) (a := br) (xs := []) (fun i σ G => σ = [some (.ref st), some (.int (n : Int)), some (.ref br), some (.bl bare), some (.int m), some (.ref o), some (.ref im), some (.ref pl), some (.ref ls), some (.int 0), none, none, none, none, none, none, none, none, none, none] ∧ G = H4) ⟨rfl, rfl⟩ (fun i σ G _ ⟨_, e⟩ => by rw [e]; exact SqL.of hbr4) ?_ ?_⟩
    · rintro i x σ G hx _
      cases hx
    rintro σ G ⟨rfl, rfl⟩
    refine ⟨_, rfl, _, rfl, by omega, by omega, ?_⟩
    rw [Int.toNat_natCast]
    refine for_range (lo := 0) (n := n) (fun t σ G' => ∃ (v10 v11 v13 v14 v15 v16 v17 : Option V) (tn : Int) (a : Nat) (ys : List Nat) (cs : List Bk), σ = [some (.ref st), some (.int (n : Int)), some (.ref br), some (.bl bare), some (.int m), some (.ref o), some (.ref im), some (.ref pl), some (.ref ls), some (.int (a : Int)), v10, v11, some (.int tn), v13, v14, v15, v16, v17, none, none] ∧
      (a = n ∨ t ≤ a) ∧ Strm G' st ∧ (∀ x u, x ≠ st → x ≠ im → x ≠ pl → G x = some u → G' x = some u) ∧ ListN G' im ys ∧ Bst n ms ys a cs ∧ Plc G' st im pl cs)
      ⟨none, none, none, none, none, none, none, 0, 0, List.range n, [], rfl, .inr (Nat.le_refl _), S4, (fun _ _ _ _ _ h => h), lim4, ⟨List.length_range, Nat.zero_le _, .nil, (fun b hb => by cases hb), fun b hb => (by cases hb)⟩, [], [], hpl4, Nat.le_refl _, rfl, (fun i q b a => by cases a), fun _ _ => rfl⟩ ?_ ?_
    · rintro t σ G1 ht ⟨v10, v11, v13, v14, v15, v16, v17, tn, a, ys, cs, rfl, hat, S5, K5, ly, B, PL⟩
      rw [Int.zero_add]
      have K5' : ∀ x u, x ≠ st → x ≠ im → x ≠ pl → G x = some u → G1 x = some u := K5
      have lo5 : ListN G1 o ms := K5 _ _ nos noi (fun z => by
        unfold ListN at lo4
        rw [z, hpl4] at lo4
        cases lo4) lo4
      refine ⟨_, rfl, _, rfl, _, _, rfl, rfl, _, rfl, ?_⟩
      refine ite_b (fun c => ?_) (fun c => ?_)
      rotate_left
      · have c := of_decide_eq_false c
        exact ⟨v10, v11, _, v14, v15, v16, v17, tn, a, ys, cs, rfl, .inl (by have := B.an; omega), S5, K5, ly, B, PL⟩
      have c : a < n := by
        have := of_decide_eq_true c
        omega
      refine ⟨_, rfl, _, rfl, _, _, rfl, rfl, _, rfl, _, rfl, _, rfl, _, _, rfl, rfl, ?_⟩
      refine ⟨n - a, bare, decide (m ≤ tn), (by rw [show ((n - a : Nat) : Int) = (n : Int) - (a : Int) by omega]; rfl), by omega, by omega, fun pw ws G2 hpw e2' lw FW nw => ?_⟩
      have wl : 0 < ws.length := List.length_pos_iff.mpr nw
      have w8l := FW.2
      have S6 := S5.ex e2'
      refine ⟨_, rfl, _, rfl, _, rfl, pw, _, rfl, .inl lw.sz, st, (ws.length : Int), (by rw [List.length_map]; rfl), by omega, by omega, S6, fun d G3 d0 d1 S7 M7 => ?_⟩
      obtain ⟨d, rfl⟩ := Int.eq_ofNat_of_zero_le d0
      have hd : d < ws.length := by omega
      have nps' : pw ≠ st := S5.ne hpw
      have lw3 : ListW G3 pw ws := M7 _ _ nps' lw
      refine ⟨pw, _, _, _, rfl, rfl, lw3.sz, atW hd, ?_⟩
      obtain ⟨hw, hfl⟩ := FW.1 _ (getD_mem hd)
      generalize ws.getD d 0 = w at hw hfl ⊢
      obtain ⟨B2, sl, ltp⟩ := B.step pm hw hfl
      have M57 : ∀ x u, x ≠ st → G1 x = some u → G3 x = some u := fun x u hx h => M7 x u hx (e2' x u h)
      have lo7 : ListN G3 o ms := M57 _ _ nos lo5
      have ly7 : ListN G3 im ys := M57 _ _ nis ly
      obtain ⟨r5, s5, t5, hst5, _⟩ := S5
      have PL7 : Plc G3 st im pl cs := PL.keep hst5 ly (fun x u h1 h2 h => M57 x u h1 h)
      refine ⟨_, rfl, _, rfl, _, rfl, _, rfl, _, rfl, _, rfl, w, rfl, hw, fun G4 e4 => ⟨_, _, rfl, rfl, _, rfl, o, nI ms, rfl, (lo7.ex e4).sz, fun sg hsg => ?_⟩⟩
      rw [show cutV (nI ms) (some (a : Int)) (some ((a : Int) + ((fl w : Nat) : Int))) = nI ((ms.drop a).take (fl w)) from cut15 (by rw [ol]; have := B.an; omega)]
      have lsg : ListN (upd G4 sg (.lst (nI ((ms.drop a).take (fl w))))) sg ((ms.drop a).take (fl w)) := upd_same
      have e45 : Ex G3 (upd G4 sg (.lst (nI ((ms.drop a).take (fl w))))) := e4.trans (Ex.new hsg)
      generalize upd G4 sg (.lst (nI ((ms.drop a).take (fl w)))) = G5 at lsg e45 ⊢
      refine ⟨w, sg, (ms.drop a).take (fl w), rfl, hw, lsg, sl, fun pt G6 hpt e6 lpt => ?_⟩
      have pl4 : (canon w ((ms.drop a).take (fl w))).length = fl w := by rw [(canon_perm (w := w) sl).length_eq]; exact sl
      have f4 : fl w ≤ 4 := fl_le
      have f0 : 0 < fl w := form_len w
      have S7' := S7
      obtain ⟨r7, s7, t7, hst7, _⟩ := S7'
      have e36 : Ex G3 G6 := e45.trans e6
      have part_n : ∀ x, x ∈ canon w ((ms.drop a).take (fl w)) → x < n := ltp
      have f_len := form_len w
      have ndp : (canon w ((ms.drop a).take (fl w))) ≠ [] := fun z => by
        rw [z] at pl4
        simp at pl4
        omega
      have nC := B2.nd pm
      have ymn : ∀ c ∈ cs, mn c.2 ≠ mn (canon w ((ms.drop a).take (fl w))) := fun c hc z => by
        rw [List.flatMap_append, List.nodup_append] at nC
        have h1 : mn c.2 ∈ cs.flatMap (·.2) := List.mem_flatMap.mpr ⟨c, hc, mn_mem (blk_ne (B.blk c hc))⟩
        refine nC.2.2 _ h1 _ ?_ z
        rw [List.flatMap_cons, List.flatMap_nil, List.append_nil]
        exact mn_mem ndp
      clear nC
      generalize canon w ((ms.drop a).take (fl w)) = part at B2 ltp lpt pl4 part_n ndp ymn ⊢
      refine ⟨_, rfl, _, rfl, w, pt, part, rfl, hw, lpt, pl4, fun sh G7 hsh e7 lsh => ?_⟩
      have e37 := e36.trans e7
      have ly8 := ly7.ex e37
      have lpt7 := lpt.ex e7
      have nim : pt ≠ im := fun z => by
        have h := e45 _ _ ly7
        rw [← z, hpt] at h
        cases h
      have nst : pt ≠ st := fun z => by
        have h := e45 _ _ hst7
        rw [← z, hpt] at h
        cases h
      have nsi : sh ≠ im := fun z => by
        have h := e36 _ _ ly7
        rw [← z, hsh] at h
        cases h
      have shl : (shF w part).length = fl w := by
        unfold shF
        rw [List.length_map]
        rfl
      have ysl := B.ly
      refine ⟨_, rfl, pt, _, rfl, .inl lpt7.sz, _, rfl, by rw [nI_len]; omega, by rw [nI_len]; omega, ?_⟩
      rw [nI_len, Int.toNat_natCast, pl4]
      refine for_range (lo := 0) (n := fl w) (fun k σ G' => ∃ v11 : Option V, σ = [some (.ref st), some (.int (n : Int)), some (.ref br), some (.bl bare), some (.int m), some (.ref o), some (.ref im), some (.ref pl), some (.ref ls), some (.int (a : Int)), v10, v11, some (.int tn), some (.int (t : Int)), some (.ref pw), some (.str (word w)), some (.ref pt), some (.ref sh), none, none] ∧ Mut im G7 G' ∧ ListN G' im (fill ys part (form w) k)) ⟨_, rfl, Mut.refl im G7, ly8⟩ ?_ ?_
      · rintro k σ G' hk ⟨v11, rfl, M, ly'⟩
        rw [Int.zero_add]
        have lpt' : ListN G' pt part := M _ _ nim lpt7
        have lsh' : ListN G' sh (shF w part) := M _ _ nsi lsh
        refine ⟨_, rfl, _, rfl, sh, _, _, _, rfl, rfl, lsh'.sz, atN (by rw [shl]; exact hk), ?_⟩
        refine ⟨_, rfl, _, rfl, _, rfl, pt, _, _, _, rfl, rfl, lpt'.sz, atN (by rw [pl4]; exact hk), im, _, _, part.getD k 0, rfl, rfl, ly', Evl.ixN_nat (by rw [nI_len, fill_len, ysl]; exact part_n _ (getD_mem (by rw [pl4]; exact hk))), ?_⟩
        refine ⟨_, rfl, fun d u hd ho => by rw [upd_ne hd]; exact M d u hd ho, ?_⟩
        show upd G' im _ im = _
        rw [upd_same]
        have e : (shF w part).getD k 0 = part.getD ((form w).getD k 0) 0 := by
          unfold shF
          rw [getD_map (show k < (form w).length from hk)]
        rw [e]
        show _ = some (HO.lst (nI ((fill ys part (form w) k).set (part.getD k 0) (part.getD ((form w).getD k 0) 0))))
        unfold nI
        rw [List.map_set]
      rintro σ G8 ⟨v11, rfl, M8, ly9⟩
      have k8 : ∀ x u, x ≠ im → G3 x = some u → G8 x = some u := fun x u hx h => M8 x u hx (e37 x u h)
      have lpt8 : ListN G8 pt part := M8 _ _ nim lpt7
      have hst8 := k8 _ _ (Ne.symm nis) hst7
      have PL8 : Plc G8 st im pl cs := PL7.keep hst7 ly7 (fun x u _ h2 h => k8 x u h2 h)
      refine ⟨_, rfl, _, rfl, (by show 2 ≤ sizeLine; decide), fun tp htp => ?_⟩
      have e9 := Ex.new (o := .tup [V.str (word w), V.ref pt]) htp
      have ltp9 : upd G8 tp (.tup [V.str (word w), V.ref pt]) tp = some (.tup [V.str (word w), V.ref pt]) := upd_same
      have ly10 := ly9.ex e9
      have PL9 : Plc (upd G8 tp (.tup [V.str (word w), V.ref pt])) st im pl cs := PL8.keep hst8 ly9 (fun x u _ _ h => e9 x u h)
      have lpt9 := lpt8.ex e9
      have hst9 := e9 _ _ hst8
      generalize upd G8 tp (.tup [V.str (word w), V.ref pt]) = G9 at e9 ltp9 ly10 PL9 lpt9 hst9 ⊢
      have hns : nI part = (part.map fun x : Nat => (x : Int)).map V.int := by
        rw [List.map_map]
        rfl
      refine ⟨_, rfl, _, rfl, pt, part.map fun x : Nat => (x : Int), rfl, hns ▸ lpt9.sz, (by rw [List.length_map]; omega), fun mm h1 h2 => ?_⟩
      have hmm2 : mm = ((mn part : Nat) : Int) := by
        obtain ⟨x, hx, rfl⟩ := List.mem_map.mp h1
        have a1 := mn_le hx
        have a2 := h2 _ (List.mem_map.mpr ⟨_, mn_mem ndp, rfl⟩)
        omega
      subst hmm2
      have PL9' := PL9
      obtain ⟨ts, kvs, hk9, kl9, _⟩ := PL9'
      have cl : cs.length ≤ 64 := by
        have h1 : cs.length ≤ (cs.flatMap (·.2)).length := by
          have g : ∀ ds : List Bk, (∀ b ∈ ds, b.2 ≠ []) → ds.length ≤ (ds.flatMap (·.2)).length := fun ds => by
            induction ds with
            | nil => exact fun _ => Nat.le_refl _
            | cons b ds ih =>
              intro h
              rw [List.flatMap_cons, List.length_append, List.length_cons]
              have := ih fun c hc => h c (List.mem_cons_of_mem _ hc)
              have := List.length_pos_iff.mpr (h b (List.mem_cons_self ..))
              omega
          exact g cs fun b hb => blk_ne (B.blk b hb)
        rw [B.fl.length_eq, List.length_take] at h1
        omega
      refine ⟨pl, _, rfl, .inl ⟨kvs, Sum.inl ((mn part : Nat) : Int), hk9, rfl, small1000 (by omega), rfl⟩, ?_⟩
      have PL10 := PL9.put (b := (w, part)) (t := tp) (l := pt) ymn kvs hk9 (G := upd G9 pl (.dK (putK kvs (Sum.inl ((mn part : Nat) : Int)) (.ref tp)))) upd_same (fun x u hx h => by rw [upd_ne hx]; exact h) ltp9 lpt9 nst nim
      have k10 : ∀ x u, x ≠ im → x ≠ pl → G3 x = some u → upd G9 pl (.dK (putK kvs (Sum.inl ((mn part : Nat) : Int)) (.ref tp))) x = some u := fun x u h1 h2 h => by
        rw [upd_ne h2]
        exact e9 _ _ (k8 x u h1 h)
      have ly11 : ListN (upd G9 pl (.dK (putK kvs (Sum.inl ((mn part : Nat) : Int)) (.ref tp)))) im (fill ys part (form w) (fl w)) := by
        show upd G9 pl _ im = _
        rw [upd_ne (Ne.symm npl)]
        exact ly10
      have lpt10 : ListN (upd G9 pl (.dK (putK kvs (Sum.inl ((mn part : Nat) : Int)) (.ref tp)))) pt part := by
        show upd G9 pl _ pt = _
        rw [upd_ne (fun z => by unfold ListN at lpt9; rw [z, hk9] at lpt9; cases lpt9)]
        exact lpt9
      generalize upd G9 pl (.dK (putK kvs (Sum.inl ((mn part : Nat) : Int)) (.ref tp))) = GA at PL10 k10 ly11 lpt10 ⊢
      refine ⟨_, rfl, _, rfl, (by show 2 ≤ sizeLine; decide), fun T0 hT0 => ?_⟩
      have eT := Ex.new (o := .tup [V.str "free", V.str "pair"]) hT0
      refine ⟨T0, _, rfl, Or.inr (SqT.of upd_same), rfl, rfl, .inr ⟨_, rfl, _, _, rfl, rfl, ?_⟩⟩
      have ly12 := ly11.ex eT
      have lpt12 := lpt10.ex eT
      have hstA := k10 _ _ (Ne.symm nis) (Ne.symm nps) hst7
      have PL12 : Plc (upd GA T0 (.tup [V.str "free", V.str "pair"])) st im pl (cs ++ [(w, part)]) := PL10.keep hstA ly11 (fun x u _ _ h => eT x u h)
      refine ⟨_, rfl, _, rfl, pt, _, rfl, .inl lpt12.sz, _, _, rfl, rfl, ?_⟩
      rw [nI_len, pl4]
      refine ⟨_, _, _, _, _, _, _, _, a + fl w, _, cs ++ [(w, part)], rfl, ?_, S7.keep (fun o ho => eT _ _ (k10 _ _ (Ne.symm nis) (Ne.symm nps) ho)), fun x u h1 h2 h3 h => ?_, ly12, B2, PL12⟩
      · have := B2.an
        rcases hat with h | h
        · omega
        · right
          omega
      · exact eT _ _ (k10 x u h2 h3 (M57 x u h1 (K5 x u h1 h2 h3 h)))
    · rintro σ G1 ⟨v10, v11, v13, v14, v15, v16, v17, tn, a, ys, cs, rfl, hat, S5, K5, ly, B, PL⟩
      have an := B.an
      have e_an : a = n := by omega
      subst e_an
      obtain ⟨ts, kvs, hk, hkl, htl, hta, hnone⟩ := PL
      refine ⟨_, rfl, _, rfl, by omega, by omega, fun D hD => ?_⟩
      rw [Int.toNat_natCast]
      refine lc_range (lo := 0) (n := a) (fun j G' => Ex G1 G' ∧ ∃ qs : List Addr, G' D = some (.lst (qs.map V.ref)) ∧ qs.length = (bsJ cs j).length ∧ qs.length ≤ j ∧ ∀ (i : Nat) (q : Addr) (b : Bk), qs[i]? = some q → (bsJ cs j)[i]? = some b → BlkAt G1 q b) ⟨Ex.new hD, [], upd_same, rfl, Nat.le_refl _, fun i q b z => by cases z⟩ ?_ ?_
      · rintro j G' hj ⟨e, qs, hd, hq1, hq2, hq3⟩
        rw [Int.zero_add]
        refine ⟨rfl, ?_⟩
        have hk' := e _ _ hk
        refine ⟨_, rfl, _, rfl, pl, _, rfl, DGet.k (k := Sum.inl ((j : Nat) : Int)) hk', _, rfl, ?_⟩
        rw [bsJ_step]
        cases hf : cs.find? fun b => decide (mn b.2 = j) with
        | none =>
          have hv : valV kvs (Sum.inl ((j : Nat) : Int)) = none := hnone j fun b hb z => by
            have := List.find?_eq_none.mp hf b hb
            rw [decide_eq_true z] at this
            exact this rfl
          rw [hv]
          refine iteF ⟨e, qs, hd, by rw [List.append_nil]; exact hq1, Nat.le_succ_of_le hq2, fun i q b x y => hq3 i q b x (by rw [List.append_nil] at y; exact y)⟩
        | some b =>
          have hb := List.mem_of_find?_eq_some hf
          have hm : mn b.2 = j := by simpa using List.find?_some hf
          obtain ⟨i, hi, rfl⟩ := List.getElem_of_mem hb
          have hci : cs[i]? = some cs[i] := List.getElem?_eq_getElem hi
          have hti : ts[i]? = some ts[i] := List.getElem?_eq_getElem (by omega)
          obtain ⟨⟨l, x1, x2, _, _⟩, x5⟩ := hta i _ _ hti hci
          rw [hm] at x5
          rw [x5]
          refine iteT ?_
          refine ⟨_, rfl, _, rfl, pl, _, rfl, x5 ▸ DGet.k (k := Sum.inl ((j : Nat) : Int)) hk', ?_⟩
          refine ⟨_, hd, small1000 (by rw [List.length_map]; omega), fun x u ho => ?_, qs ++ [ts[i]], ?_, ?_, by rw [List.length_append]; exact Nat.succ_le_succ hq2, fun i2 q2 b2 h1 h2 => ?_⟩
          · rw [upd_ne (ne_of_none ho hD)]
            exact e x u ho
          · rw [upd_same, List.map_append]
            rfl
          · rw [List.length_append, List.length_append, hq1]
            rfl
          · by_cases c1 : i2 < qs.length
            · rw [List.getElem?_append_left c1] at h1
              rw [List.getElem?_append_left (by omega)] at h2
              exact hq3 i2 q2 b2 h1 h2
            · rw [List.getElem?_append_right (by omega)] at h1
              rw [List.getElem?_append_right (by omega), ← hq1] at h2
              match hz : i2 - qs.length with
              | 0 =>
                rw [hz] at h1 h2
                have h1 := Option.some.inj h1
                have h2 := Option.some.inj h2
                subst h1
                subst h2
                exact ⟨l, x1, x2⟩
              | z + 1 =>
                rw [hz] at h1
                cases h1
      · rintro G' ⟨e, qs, hd, hq1, hq2, hq3⟩
        refine ⟨_, rfl, _, rfl, _, rfl, (by show 3 ≤ sizeLine; decide), fun p hp => ?_⟩
        have eP := e.trans (Ex.new (o := .lst [V.ref im, V.ref D, V.ref ls]) hp)
        have toG : ∀ x u, x ≠ st → H x = some u → upd G' p (.lst [V.ref im, V.ref D, V.ref ls]) x = some u := fun x u hx h => eP _ _ (K5 x u hx (fun z => by rw [z, fim] at h; cases h) (fun z => by rw [z, fpl] at h; cases h) (M4 x u hx h))
        have fp : H p = none := by
          cases q : H p with
          | none => rfl
          | some u =>
            by_cases z : p = st
            · rw [z] at hp
              have := S5.ex e
              obtain ⟨r, s, t, hb, _⟩ := this
              rw [hb] at hp
              cases hp
            · have := toG p u z q
              rw [upd_same] at this
              have h2 := e _ _ (K5 p u z (fun y => by rw [y, fim] at q; cases q) (fun y => by rw [y, fpl] at q; cases q) (M4 p u z q))
              rw [hp] at h2
              cases h2
        refine k p im D ls ys (bsJ cs a) _ fp fim (S5.ex eP) toG upd_same (ly.ex eP) B.ly ⟨qs, ?_, hq1, fun i q b x y => ?_⟩ (B.good pm n64)
        · show upd G' p _ D = _
          rw [upd_ne (ne_of_none hd hp)]
          exact hd
        · exact (hq3 i q b x y).ex eP

end

section
variable {P : Program} {w : World} {K : PySem.W.Frag} {mg : Str → Option Value} {base : Heap} {A : Ad}
theorem pl_lt {n : Str} (h : n ∈ nm5) : pl n < 5 := List.idxOf_lt_length_of_mem h
theorem put_same {kvs : List (Key × V)} {k : Key} {y : V} (h : (valV kvs k).isSome = true) : (putK kvs k y).length = kvs.length := by
  unfold putK
  rw [valV_any k kvs, if_pos h, List.length_map]
theorem nm5_inj {i j : Nat} (hi : i < 5) (hj : j < 5) (h : nm5.getD i "" = nm5.getD j "") : i = j := by
  have all : ∀ i, i < 5 → ∀ j, j < 5 → nm5.getD i "" = nm5.getD j "" → i = j := by decide
  exact all i hi j hj h
theorem goodF_mem {n w : Str} (g : goodF n w = true) : n ∈ nm5 ∧ w ∈ two n := by
  unfold goodF at g
  rw [Bool.and_eq_true, List.contains_iff_mem, List.contains_iff_mem] at g
  exact g
theorem set_bits {bs : List Nat} (h : Bits bs) {i b : Nat} (hb : b < 2) : Bits (bs.set i b) := ⟨by rw [List.length_set]; exact h.len, fun x hx => by
  rcases List.mem_or_eq_of_mem_set hx with z | z
  · exact h.two x z
  · rw [z]
    exact hb⟩
theorem set_at {bs : List Nat} {i j b : Nat} (hj : j < bs.length) : (bs.set i b).getD j 0 = if i = j then b else bs.getD j 0 := by
  rw [List.getD_eq_getElem?_getD, List.getElem?_set, List.getD_eq_getElem?_getD]
  by_cases e : i = j
  · rw [if_pos e, if_pos e, if_pos (e ▸ hj)]
    rfl
  · rw [if_neg e, if_neg e]
theorem ru_put {A : Ad} {H : Hp} {a c : Addr} {bs : List Nat} {n w : Str} (R : Ru A H a c bs) (g : goodF n w = true) : ∃ (dx : Addr) (kvs : List (Key × V)), H a = some (.ins A.Rules dx [("_choices", .ref c)]) ∧ H c = some (.dK kvs) ∧ kvs.length ≤ 5 ∧
    ∀ H' : Hp, H' a = some (.ins A.Rules dx [("_choices", .ref c)]) → H' c = some (.dK (putK kvs (Sum.inr n) (.str w))) → Ru A H' a c (bs.set (pl n) (bitF n w)) := by
  obtain ⟨dx, kvs, ha, hc, hl, hb, hv⟩ := R
  obtain ⟨hn, hw⟩ := goodF_mem g
  obtain ⟨g1, g2⟩ := good_word g
  have hi := pl_lt hn
  refine ⟨dx, kvs, ha, hc, hl, fun H' ha' hc' => ⟨dx, _, ha', hc', ?_, set_bits hb g2, fun i i5 => ?_⟩⟩
  · rw [put_same]
    · exact hl
    · have z := hv (pl n) hi
      rw [pl_at hn] at z
      rw [z]
      rfl
  · rw [valV_put, set_at (by rw [hb.len]; exact i5)]
    by_cases e : pl n = i
    · subst e
      rw [pl_at hn, if_pos rfl, if_pos rfl, g1]
    · rw [if_neg e, if_neg (fun z => e (nm5_inj hi i5 (by rw [pl_at hn]; exact (Sum.inr.inj z).symm))), hv i i5]
theorem nm_at {i : Nat} (h : i < 5) : (nm5.map V.str)[i]? = some (V.str (nm5.getD i "")) := by
  match i, h with
  | 0, _ => rfl
  | 1, _ => rfl
  | 2, _ => rfl
  | 3, _ => rfl
  | 4, _ => rfl
end

section
variable {P : Program} {w : World} {K : PySem.W.Frag} {mg : Str → Option Value} {base : Heap} {A : Ad}
/-- rules and their bits, new since H0 -/
structure HeldN (A : Ad) (H0 H : Hp) (v : V) (c : Addr) (bs : List Nat) : Prop where
  bits : Bits bs
  c0 : H0 c = none
  l : ListN H c bs
  v : (v = .non ∧ bs = zero5) ∨ ∃ a k, v = .ref a ∧ H0 a = none ∧ H0 k = none ∧ Ru A H a k bs
theorem mut_back {b : Addr} {H G : Hp} (S : Strm H b) (SG : Strm G b) (M : Mut b H G) {a : Addr} (h : G a = none) : H a = none := by
  cases q : H a with
  | none => rfl
  | some u =>
    rw [M a u (SG.ne h) q] at h
    cases h
theorem ch_of {A : Ad} {H : Hp} {Q : VK} {E : XK} {a c : Addr} {bs : List Nat} {n w : Str} (R : Ru A H a c bs) (nm : n ∈ nms) (wm : w ∈ wds) (g : goodF n w = true)
    (k : ∀ H', (∀ b o, b ≠ c → H b = some o → H' b = some o) → Ru A H' a c (bs.set (pl n) (bitF n w)) → Q .non H') : spCh A [.ref a, .str n, .str w] H Q E := by
  obtain ⟨dx, kvs, ha, hc, hl, mk⟩ := ru_put R g
  refine ⟨a, c, dx, kvs, n, w, rfl, nm, wm, ha, hc, by omega, fun _ => ?_, fun z => by rw [g] at z; cases z⟩
  refine k _ (fun b o nb ho => by rw [upd_ne nb]; exact ho) (mk _ ?_ upd_same)
  rw [upd_ne R.ne]
  exact ha
def spStd (A : Ad) : Sp := fun vs H Q _ => ∃ b : Addr, vs = [.ref b] ∧ Strm H b ∧ ∀ q v c bs H', H q = none → Strm H' b → Mut b H H' → H' q = some (.lst [v, .ref c]) → HeldN A H H' v c bs → bs ∈ stB → Q (.ref q) H'
theorem std_bits {d1 d2 d4 : Nat} (h1 : d1 < 2) (h2 : d2 < 2) (h4 : d4 < 2) : [0, d1, d2, 0, d4] ∈ stB ∧ bitsOf (2 * d1 + 4 * d2 + 16 * d4) = [0, d1, d2, 0, d4] ∧ (((([1, 1, 1, 1, 1].set 3 0).set 1 d1).set 2 d2).set 4 d4).set 0 0 = [0, d1, d2, 0, d4] := by
  have e1 : d1 = 0 ∨ d1 = 1 := by omega
  have e2 : d2 = 0 ∨ d2 = 1 := by omega
  have e4 : d4 = 0 ∨ d4 = 1 := by omega
  rcases e1 with rfl | rfl <;> rcases e2 with rfl | rfl <;> rcases e4 with rfl | rfl <;> exact ⟨by decide, by decide, rfl⟩
theorem bits_std {d1 d2 d4 : Nat} (h1 : d1 < 2) (h2 : d2 < 2) (h4 : d4 < 2) : Bits [0, d1, d2, 0, d4] := ⟨rfl, fun b hb => by
  simp only [List.mem_cons, List.not_mem_nil, or_false] at hb
  omega⟩
theorem ok_law_steady (T : Txt K mg A) (g_m_init : OkI P w K mg base A) (g_law_draw : Okd P w K mg base CX0 1 A.law_draw P_law_draw spDraw) (g_m_numbered : Okd P w K mg base (L2N.CX P w) 6 A.m_numbered P_m_numbered (spNd A)) (g_m_copy : Okd P w K mg base (L2N.CX P w) 7 A.m_copy P_m_copy (spCp A)) (g_m_change : Okd P w K mg base (L2N.CX P w) 3 A.m_change P_m_change (spCh A)) : Okd P w K mg base CX0 8 A.law_steady P_law_steady (spStd A) := by
  obtain ⟨fd, F⟩ := T.d_law_steady
  obtain ⟨fd_m_init, G_m_init, WY⟩ := g_m_init
  obtain ⟨mv_hook_relay_clamp_trail_wheel, kb_hook_relay_clamp_trail_wheel⟩ := WY.k_hook_relay_clamp_trail_wheel
  obtain ⟨fd_law_draw, G_law_draw, b_law_draw⟩ := g_law_draw
  obtain ⟨fd_m_numbered, G_m_numbered, b_m_numbered⟩ := g_m_numbered
  obtain ⟨fd_m_copy, G_m_copy, b_m_copy⟩ := g_m_copy
  obtain ⟨fd_m_change, G_m_change, b_m_change⟩ := g_m_change
  refine ⟨fd, F.ok sc_law_steady (fun vs H Q E h => ?_) (fun cdv A' outer s H vs Q E hr h => ?_), F.binds fun _ _ _ _ _ _ us hl => match us, hl with | [_], _ => rfl⟩
  · obtain ⟨b, rfl, _⟩ := h
    rfl
  · obtain ⟨b, rfl, S, k⟩ := h
    refine ⟨_, (pss_cons (ps_set (i := 1) sc_law_steady.nd rfl (Or.inl rfl) (pe_call G_law_draw (hr.mono (by decide)) (by rfl) T.g_law_draw T.k_law_draw b_law_draw .nil pass0 (pa_cons (pv 0) (pa_cons pe_int pa_nil))))
      (pss_cons (ps_set (i := 2) sc_law_steady.nd rfl (Or.inl rfl) (pe_lst (pa_cons pe_int (pa_cons (pe_call G_law_draw (hr.mono (by decide)) (by rfl) T.g_law_draw T.k_law_draw b_law_draw .nil pass0 (pa_cons (pv 0) (pa_cons pe_int pa_nil))) (pa_cons (pe_call G_law_draw (hr.mono (by decide)) (by rfl) T.g_law_draw T.k_law_draw b_law_draw .nil pass0 (pa_cons (pv 0) (pa_cons pe_int pa_nil))) (pa_cons pe_int (pa_cons (pe_call G_law_draw (hr.mono (by decide)) (by rfl) T.g_law_draw T.k_law_draw b_law_draw .nil pass0 (pa_cons (pv 0) (pa_cons pe_int pa_nil))) pa_nil)))))))
      (pss_cons (ps_set (i := 3) sc_law_steady.nd rfl (Or.inl rfl) (pe_op op_add (pe_op op_add (pe_op op_mul pe_int (pe_ix ix_list (pv 2) pe_int (fun _ _ => rfl))) (pe_op op_mul pe_int (pe_ix ix_list (pv 2) pe_int (fun _ _ => rfl)))) (pe_op op_mul pe_int (pe_ix ix_list (pv 2) pe_int (fun _ _ => rfl)))))
      (pss_cons (ps_if (pt_cmpR op_eq (pv 1) pe_int (nomark _)) (pss_one (ps_ret (pe_lst (pa_cons pe_non (pa_cons (pe_lst (pa_cons pe_int (pa_cons pe_int (pa_cons pe_int (pa_cons pe_int (pa_cons pe_int pa_nil)))))) pa_nil))))) pss_nil)
      (pss_cons (ps_if (pt_cmpR op_eq (pv 1) pe_int (nomark _)) (pss_one (ps_ret (pe_lst (pa_cons (MkS.pe_methS0 (MkS.pe_cmethS (pe_glob (v := .ref A.Rules) rfl T.g_Rules rfl) T.rd T.cm G_m_numbered (hr.mono (by decide)) b_m_numbered (fun σ => L2N.passAt L2N.takes0N σ) (pa_cons (pv 3) pa_nil)) T.cR T.mt_copy G_m_copy (hr.mono (by decide)) b_m_copy (fun σ => L2N.passAt L2N.takes0N σ)) (pa_cons (pv 2) pa_nil))))) pss_nil)
      (pss_cons (ps_if (pt_cmpR op_gt (pv 1) pe_int (nomark _)) (pss_one (ps_ret (pe_lst (pa_cons (MkS.pe_cmethS (pe_glob (v := .ref A.Rules) rfl T.g_Rules rfl) T.rd T.cm G_m_numbered (hr.mono (by decide)) b_m_numbered (fun σ => L2N.passAt L2N.takes0N σ) (pa_cons (pv 3) pa_nil)) (pa_cons (pv 2) pa_nil))))) pss_nil)
      (pss_cons (ps_set (i := 4) sc_law_steady.nd rfl (Or.inl rfl) (MkS.pe_makeS T.mkR G_m_init (hr.mono (by decide)) (by rfl) T.g_Rules kb_hook_relay_clamp_trail_wheel (fun σ => L2N.passAt L2N.takes0N σ) (pk_cons pe_str (pk_cons pe_str (pk_cons pe_str (pk_cons pe_str (pk_cons pe_str pk_nil)))))))
      (pss_cons (ps_expr (MkS.pe_methS (pv 4) T.cR T.mt_change G_m_change (hr.mono (by decide)) b_m_change (fun σ => L2N.passAt L2N.takes0N σ) (pa_cons pe_str (pa_cons pe_str pa_nil))))
      (pss_cons (ps_expr (MkS.pe_methS (pv 4) T.cR T.mt_change G_m_change (hr.mono (by decide)) b_m_change (fun σ => L2N.passAt L2N.takes0N σ) (pa_cons pe_str (pa_cons (pe_ix ix_list (pe_lst (pa_cons pe_str (pa_cons pe_str pa_nil))) (pe_ix ix_list (pv 2) pe_int (fun _ _ => rfl)) (fun _ _ => rfl)) pa_nil))))
      (pss_cons (ps_expr (MkS.pe_methS (pv 4) T.cR T.mt_change G_m_change (hr.mono (by decide)) b_m_change (fun σ => L2N.passAt L2N.takes0N σ) (pa_cons pe_str (pa_cons (pe_ix ix_list (pe_lst (pa_cons pe_str (pa_cons pe_str pa_nil))) (pe_ix ix_list (pv 2) pe_int (fun _ _ => rfl)) (fun _ _ => rfl)) pa_nil))))
      (pss_cons (ps_expr (MkS.pe_methS (pv 4) T.cR T.mt_change G_m_change (hr.mono (by decide)) b_m_change (fun σ => L2N.passAt L2N.takes0N σ) (pa_cons pe_str (pa_cons (pe_ix ix_list (pe_lst (pa_cons pe_str (pa_cons pe_str pa_nil))) (pe_ix ix_list (pv 2) pe_int (fun _ _ => rfl)) (fun _ _ => rfl)) pa_nil))))
      (pss_cons (ps_expr (MkS.pe_methS (pv 4) T.cR T.mt_change G_m_change (hr.mono (by decide)) b_m_change (fun σ => L2N.passAt L2N.takes0N σ) (pa_cons pe_str (pa_cons pe_str pa_nil))))
      (pss_one (ps_ret (pe_lst (pa_cons (pv 4) (pa_cons (pv 2) pa_nil))))))))))))))))), ?_⟩
    refine ⟨_, rfl, b, 5, rfl, by decide, by decide, S, fun way H1 w0 w1 S1 M1 => ?_⟩
    refine ⟨_, rfl, b, 2, rfl, by decide, by decide, S1, fun d1 H2 d10 d11 S2 M2 => ?_⟩
    refine ⟨_, rfl, b, 2, rfl, by decide, by decide, S2, fun d2 H3 d20 d21 S3 M3 => ?_⟩
    refine ⟨_, rfl, b, 2, rfl, by decide, by decide, S3, fun d4 H4 d40 d41 S4 M4 => ?_⟩
    obtain ⟨d1, rfl⟩ := Int.eq_ofNat_of_zero_le d10
    obtain ⟨d2, rfl⟩ := Int.eq_ofNat_of_zero_le d20
    obtain ⟨d4, rfl⟩ := Int.eq_ofNat_of_zero_le d40
    have h1 : d1 < 2 := by omega
    have h2 : d2 < 2 := by omega
    have h4 : d4 < 2 := by omega
    obtain ⟨x1, x2, x3⟩ := std_bits h1 h2 h4
    have xB := bits_std h1 h2 h4
    have M14 := ((M1.trans M2).trans M3).trans M4
    refine ⟨(by show 5 ≤ sizeLine; decide), fun bl hbl => ?_⟩
    have lbl : ListN (upd H4 bl (.lst [V.int 0, V.int (d1 : Int), V.int (d2 : Int), V.int 0, V.int (d4 : Int)])) bl [0, d1, d2, 0, d4] := upd_same
    have eB := Ex.new (o := .lst [V.int 0, V.int (d1 : Int), V.int (d2 : Int), V.int 0, V.int (d4 : Int)]) hbl
    have S5 := S4.ex eB
    have M5 : Mut b H (upd H4 bl (.lst [V.int 0, V.int (d1 : Int), V.int (d2 : Int), V.int 0, V.int (d4 : Int)])) := M14.trans (Mut.of_ex eB)
    have fbl := mut_back S S4 M14 hbl
    generalize upd H4 bl (.lst [V.int 0, V.int (d1 : Int), V.int (d2 : Int), V.int 0, V.int (d4 : Int)]) = G at lbl eB S5 M5 ⊢
    refine ⟨_, rfl, bl, _, _, _, rfl, rfl, lbl.sz, (show atI (nI [0, d1, d2, 0, d4]) ((1 : Nat) : Int) = some (V.int ((d1 : Nat) : Int)) from atI_nat rfl), _, _, rfl, rfl, Or.inl ⟨by omega, by omega⟩, _, rfl, bl, _, _, _, rfl, rfl, lbl.sz, (show atI (nI [0, d1, d2, 0, d4]) ((2 : Nat) : Int) = some (V.int ((d2 : Nat) : Int)) from atI_nat rfl), _, _, rfl, rfl, Or.inl ⟨by omega, by omega⟩, _, _, rfl, rfl, _, rfl, bl, _, _, _, rfl, rfl, lbl.sz, (show atI (nI [0, d1, d2, 0, d4]) ((4 : Nat) : Int) = some (V.int ((d4 : Nat) : Int)) from atI_nat rfl), _, _, rfl, rfl, Or.inl ⟨by omega, by omega⟩, _, _, rfl, rfl, ?_⟩
    have num : (2 : Int) * (d1 : Int) + 4 * (d2 : Int) + 16 * (d4 : Int) = ((2 * d1 + 4 * d2 + 16 * d4 : Nat) : Int) := by omega
    have tn : ((2 : Int) * (d1 : Int) + 4 * (d2 : Int) + 16 * (d4 : Int)).toNat = 2 * d1 + 4 * d2 + 16 * d4 := by omega
    have fin : ∀ (v : V) (G' : Hp) (a kk : Addr), Ex G G' → v = .ref a → G a = none → G kk = none → Ru A G' a kk [0, d1, d2, 0, d4] → [v, V.ref bl].length ≤ sizeLine ∧ ∀ q, G' q = none → Q (.ref q) (upd G' q (.lst [v, .ref bl])) := fun v G' a kk e hv ha hk R => by
      refine ⟨(by show 2 ≤ sizeLine; decide), fun q hq => ?_⟩
      have eq := e.trans (Ex.new (o := .lst [v, .ref bl]) hq)
      refine k q v bl [0, d1, d2, 0, d4] _ (mut_back S S5 M5 (back_none e hq)) (S5.ex eq) (fun x u hx h => eq _ _ (M5 x u hx h)) upd_same ⟨xB, fbl, lbl.ex eq, .inr ⟨a, kk, hv, mut_back S S5 M5 ha, mut_back S S5 M5 hk, R.ex (Ex.new hq)⟩⟩ x1
    have isw : ∀ z : Int, decide (V.int way = V.int z) = decide (way = z) := fun z => by
      rw [Bool.eq_iff_iff, decide_eq_true_eq, decide_eq_true_eq]
      exact ⟨fun h => V.int.inj h, fun h => by rw [h]⟩
    refine ⟨_, rfl, rfl, _, rfl, ?_⟩
    refine ite_b (fun _ => ?_) (fun _ => ?_)
    · refine ⟨(by show 5 ≤ sizeLine; decide), fun c hc => ⟨(by show 2 ≤ sizeLine; decide), fun q hq => ?_⟩⟩
      have e := (Ex.new (o := .lst (nI zero5)) hc).trans (Ex.new (o := .lst [V.non, .ref c]) hq)
      refine k q .non c zero5 _ (mut_back S S5 M5 (back_none (Ex.new hc) hq)) (S5.ex e) (fun x u hx h => e _ _ (M5 x u hx h)) upd_same ⟨⟨rfl, by decide⟩, mut_back S S5 M5 hc, ?_, .inl ⟨rfl, rfl⟩⟩ (by decide)
      show upd (upd G c _) q _ c = _
      rw [upd_ne (ne_of_none upd_same hq), upd_same]
      rfl
    refine ⟨_, rfl, rfl, _, rfl, ?_⟩
    refine ite_b (fun _ => ?_) (fun _ => ?_)
    · refine ⟨rfl, _, rfl, _, rfl, fun _ _ => ?_, fun z => absurd ⟨by omega, by omega⟩ z⟩
      intro a kk G1 ha hk e3 R3
      rw [tn, x2] at R3
      obtain ⟨dx, had⟩ := R3.at
      refine ⟨a, dx, _, rfl, had, rfl, a, kk, _, rfl, R3, fun a2 k2 G2 ha2 hk2 e4 R4 => ?_⟩
      exact ⟨_, rfl, fin _ G2 a2 k2 (e3.trans e4) rfl (back_none e3 ha2) (back_none e3 hk2) R4⟩
    refine ⟨_, rfl, _, _, rfl, rfl, _, rfl, ?_⟩
    refine ite_b (fun _ => ?_) (fun _ => ?_)
    · refine ⟨rfl, _, rfl, _, rfl, fun _ _ => ?_, fun z => absurd ⟨by omega, by omega⟩ z⟩
      intro a kk G1 ha hk e3 R3
      rw [tn, x2] at R3
      exact ⟨_, rfl, fin _ G1 a kk e3 rfl ha hk R3⟩
    refine ⟨rfl, fun c dx hc hdx ndx => ?_⟩
    refine ⟨c, dx, _, _, _, _, _, rfl, (by decide), upd_same, fun _ cc G1 hcc ncc old R => ⟨rfl, ?_⟩, fun i hi => ?_⟩
    rotate_left
    · have z : badF ["forward", "far", "outer", "far", "odd"] = some i := hi
      rw [show badF ["forward", "far", "outer", "far", "odd"] = none from by decide] at z
      cases z
    have R1 : Ru A G1 c cc [1, 1, 1, 1, 1] := R
    have fcc : G cc = none := (upd_none (upd_none hcc).2).2
    have eG1 : Ex G G1 := fun x u hx => old x u (ne_of_none hx hc) (by rw [upd_ne (ne_of_none hx hc), upd_ne (ne_of_none hx hdx)]; exact hx)
    have lblG : ListN G1 bl [0, d1, d2, 0, d4] := lbl.ex eG1
    clear old R
    obtain ⟨dx0, kvs0, ha0, hc0, hl0, mk0⟩ := ru_put (n := "trail") (w := "near") R1 (by decide)
    refine ⟨_, rfl, c, dx0, _, rfl, ha0, rfl, c, cc, dx0, kvs0, "trail", "near", rfl, by decide, by decide, ha0, hc0, by omega, fun _ => ?_, fun z => absurd z (by decide)⟩
    have R2 : Ru A (upd G1 cc (.dK (putK kvs0 (Sum.inr "trail") (.str "near")))) c cc (List.set [1, 1, 1, 1, 1] 3 0) := by
      have := mk0 (upd G1 cc (.dK (putK kvs0 (Sum.inr "trail") (.str "near")))) (by rw [upd_ne R1.ne]; exact ha0) upd_same
      exact this
    have eG2 : Ex G (upd G1 cc (.dK (putK kvs0 (Sum.inr "trail") (.str "near")))) := fun x u hx => by
      rw [upd_ne (ne_of_none hx fcc)]
      exact eG1 x u hx
    have lb2 : ListN (upd G1 cc (.dK (putK kvs0 (Sum.inr "trail") (.str "near")))) bl [0, d1, d2, 0, d4] := by
      show upd _ cc _ bl = _
      rw [upd_ne (ne_of_none lbl fcc)]
      exact lblG
    generalize upd G1 cc (.dK (putK kvs0 (Sum.inr "trail") (.str "near"))) = G2 at R2 eG2 lb2 ⊢
    have gw1 : goodF "relay" (wordF "relay" d1) = true ∧ (wordF "relay" d1) ∈ wds ∧ bitF "relay" (wordF "relay" d1) = d1 ∧ atI [V.str "near", V.str "far"] (d1 : Int) = some (V.str (wordF "relay" d1)) := by
      have : d1 = 0 ∨ d1 = 1 := by omega
      rcases this with z | z <;> rw [z] <;> exact ⟨by decide, by decide, by decide, rfl⟩
    obtain ⟨dx1, kvs1, ha1, hc1, hl1, mk1⟩ := ru_put R2 gw1.1
    refine ⟨_, rfl, c, dx1, _, rfl, ha1, rfl, (by show 2 ≤ sizeLine; decide), fun z1 hz1 => ?_⟩
    have ez1 := Ex.new (o := .lst [V.str "near", V.str "far"]) hz1
    have lz1 : upd G2 z1 (.lst [V.str "near", V.str "far"]) z1 = some (.lst [V.str "near", V.str "far"]) := upd_same
    have Rz1 := R2.ex ez1
    have lbz1 := lb2.ex ez1
    have eY1 := eG2.trans ez1
    have hcz1 := ez1 _ _ hc1
    have haz1 := ez1 _ _ ha1
    generalize upd G2 z1 (.lst [V.str "near", V.str "far"]) = Z1 at ez1 lz1 Rz1 lbz1 eY1 hcz1 haz1 ⊢
    obtain ⟨dy1, kws1, hb1, hd1, hm1, mm1⟩ := ru_put Rz1 gw1.1
    refine ⟨_, rfl, bl, _, _, _, rfl, rfl, lbz1.sz, (show atI (nI [0, d1, d2, 0, d4]) ((1 : Nat) : Int) = some (V.int ((d1 : Nat) : Int)) from atI_nat rfl), z1, _, _, _, rfl, rfl, SqL.of lz1, gw1.2.2.2, c, cc, dy1, kws1, "relay", (wordF "relay" d1), rfl, by decide, gw1.2.1, hb1, hd1, by omega, fun _ => ?_, fun z => by rw [gw1.1] at z; cases z⟩
    have R3 : Ru A (upd Z1 cc (.dK (putK kws1 (Sum.inr "relay") (.str (wordF "relay" d1))))) c cc (List.set (([1, 1, 1, 1, 1] : List Nat).set 3 0) 1 d1) := by
      have := mm1 (upd Z1 cc (.dK (putK kws1 (Sum.inr "relay") (.str (wordF "relay" d1))))) (by rw [upd_ne Rz1.ne]; exact hb1) upd_same
      rw [gw1.2.2.1] at this
      exact this
    have eG3 : Ex G (upd Z1 cc (.dK (putK kws1 (Sum.inr "relay") (.str (wordF "relay" d1))))) := fun x u hx => by
      rw [upd_ne (ne_of_none hx fcc)]
      exact eY1 x u hx
    have lb3 : ListN (upd Z1 cc (.dK (putK kws1 (Sum.inr "relay") (.str (wordF "relay" d1))))) bl [0, d1, d2, 0, d4] := by
      show upd _ cc _ bl = _
      rw [upd_ne (ne_of_none lbl fcc)]
      exact lbz1
    generalize upd Z1 cc (.dK (putK kws1 (Sum.inr "relay") (.str (wordF "relay" d1)))) = G3 at R3 eG3 lb3 ⊢
    have gw2 : goodF "clamp" (wordF "clamp" d2) = true ∧ (wordF "clamp" d2) ∈ wds ∧ bitF "clamp" (wordF "clamp" d2) = d2 ∧ atI [V.str "inner", V.str "outer"] (d2 : Int) = some (V.str (wordF "clamp" d2)) := by
      have : d2 = 0 ∨ d2 = 1 := by omega
      rcases this with z | z <;> rw [z] <;> exact ⟨by decide, by decide, by decide, rfl⟩
    obtain ⟨dx2, kvs2, ha2, hc2, hl2, mk2⟩ := ru_put R3 gw2.1
    refine ⟨_, rfl, c, dx2, _, rfl, ha2, rfl, (by show 2 ≤ sizeLine; decide), fun z2 hz2 => ?_⟩
    have ez2 := Ex.new (o := .lst [V.str "inner", V.str "outer"]) hz2
    have lz2 : upd G3 z2 (.lst [V.str "inner", V.str "outer"]) z2 = some (.lst [V.str "inner", V.str "outer"]) := upd_same
    have Rz2 := R3.ex ez2
    have lbz2 := lb3.ex ez2
    have eY2 := eG3.trans ez2
    have hcz2 := ez2 _ _ hc2
    have haz2 := ez2 _ _ ha2
    generalize upd G3 z2 (.lst [V.str "inner", V.str "outer"]) = Z2 at ez2 lz2 Rz2 lbz2 eY2 hcz2 haz2 ⊢
    obtain ⟨dy2, kws2, hb2, hd2, hm2, mm2⟩ := ru_put Rz2 gw2.1
    refine ⟨_, rfl, bl, _, _, _, rfl, rfl, lbz2.sz, (show atI (nI [0, d1, d2, 0, d4]) ((2 : Nat) : Int) = some (V.int ((d2 : Nat) : Int)) from atI_nat rfl), z2, _, _, _, rfl, rfl, SqL.of lz2, gw2.2.2.2, c, cc, dy2, kws2, "clamp", (wordF "clamp" d2), rfl, by decide, gw2.2.1, hb2, hd2, by omega, fun _ => ?_, fun z => by rw [gw2.1] at z; cases z⟩
    have R4 : Ru A (upd Z2 cc (.dK (putK kws2 (Sum.inr "clamp") (.str (wordF "clamp" d2))))) c cc (List.set ((([1, 1, 1, 1, 1] : List Nat).set 3 0).set 1 d1) 2 d2) := by
      have := mm2 (upd Z2 cc (.dK (putK kws2 (Sum.inr "clamp") (.str (wordF "clamp" d2))))) (by rw [upd_ne Rz2.ne]; exact hb2) upd_same
      rw [gw2.2.2.1] at this
      exact this
    have eG4 : Ex G (upd Z2 cc (.dK (putK kws2 (Sum.inr "clamp") (.str (wordF "clamp" d2))))) := fun x u hx => by
      rw [upd_ne (ne_of_none hx fcc)]
      exact eY2 x u hx
    have lb4 : ListN (upd Z2 cc (.dK (putK kws2 (Sum.inr "clamp") (.str (wordF "clamp" d2))))) bl [0, d1, d2, 0, d4] := by
      show upd _ cc _ bl = _
      rw [upd_ne (ne_of_none lbl fcc)]
      exact lbz2
    generalize upd Z2 cc (.dK (putK kws2 (Sum.inr "clamp") (.str (wordF "clamp" d2)))) = G4 at R4 eG4 lb4 ⊢
    have gw3 : goodF "wheel" (wordF "wheel" d4) = true ∧ (wordF "wheel" d4) ∈ wds ∧ bitF "wheel" (wordF "wheel" d4) = d4 ∧ atI [V.str "even", V.str "odd"] (d4 : Int) = some (V.str (wordF "wheel" d4)) := by
      have : d4 = 0 ∨ d4 = 1 := by omega
      rcases this with z | z <;> rw [z] <;> exact ⟨by decide, by decide, by decide, rfl⟩
    obtain ⟨dx3, kvs3, ha3, hc3, hl3, mk3⟩ := ru_put R4 gw3.1
    refine ⟨_, rfl, c, dx3, _, rfl, ha3, rfl, (by show 2 ≤ sizeLine; decide), fun z3 hz3 => ?_⟩
    have ez3 := Ex.new (o := .lst [V.str "even", V.str "odd"]) hz3
    have lz3 : upd G4 z3 (.lst [V.str "even", V.str "odd"]) z3 = some (.lst [V.str "even", V.str "odd"]) := upd_same
    have Rz3 := R4.ex ez3
    have lbz3 := lb4.ex ez3
    have eY3 := eG4.trans ez3
    have hcz3 := ez3 _ _ hc3
    have haz3 := ez3 _ _ ha3
    generalize upd G4 z3 (.lst [V.str "even", V.str "odd"]) = Z3 at ez3 lz3 Rz3 lbz3 eY3 hcz3 haz3 ⊢
    obtain ⟨dy3, kws3, hb3, hd3, hm3, mm3⟩ := ru_put Rz3 gw3.1
    refine ⟨_, rfl, bl, _, _, _, rfl, rfl, lbz3.sz, (show atI (nI [0, d1, d2, 0, d4]) ((4 : Nat) : Int) = some (V.int ((d4 : Nat) : Int)) from atI_nat rfl), z3, _, _, _, rfl, rfl, SqL.of lz3, gw3.2.2.2, c, cc, dy3, kws3, "wheel", (wordF "wheel" d4), rfl, by decide, gw3.2.1, hb3, hd3, by omega, fun _ => ?_, fun z => by rw [gw3.1] at z; cases z⟩
    have R5 : Ru A (upd Z3 cc (.dK (putK kws3 (Sum.inr "wheel") (.str (wordF "wheel" d4))))) c cc (List.set (((([1, 1, 1, 1, 1] : List Nat).set 3 0).set 1 d1).set 2 d2) 4 d4) := by
      have := mm3 (upd Z3 cc (.dK (putK kws3 (Sum.inr "wheel") (.str (wordF "wheel" d4))))) (by rw [upd_ne Rz3.ne]; exact hb3) upd_same
      rw [gw3.2.2.1] at this
      exact this
    have eG5 : Ex G (upd Z3 cc (.dK (putK kws3 (Sum.inr "wheel") (.str (wordF "wheel" d4))))) := fun x u hx => by
      rw [upd_ne (ne_of_none hx fcc)]
      exact eY3 x u hx
    have lb5 : ListN (upd Z3 cc (.dK (putK kws3 (Sum.inr "wheel") (.str (wordF "wheel" d4))))) bl [0, d1, d2, 0, d4] := by
      show upd _ cc _ bl = _
      rw [upd_ne (ne_of_none lbl fcc)]
      exact lbz3
    generalize upd Z3 cc (.dK (putK kws3 (Sum.inr "wheel") (.str (wordF "wheel" d4)))) = G5 at R5 eG5 lb5 ⊢
    obtain ⟨dx4, kvs4, ha4, hc4, hl4, mk4⟩ := ru_put (n := "hook") (w := "back") R5 (by decide)
    refine ⟨_, rfl, c, dx4, _, rfl, ha4, rfl, c, cc, dx4, kvs4, "hook", "back", rfl, by decide, by decide, ha4, hc4, by omega, fun _ => ?_, fun z => absurd z (by decide)⟩
    have R6 : Ru A (upd G5 cc (.dK (putK kvs4 (Sum.inr "hook") (.str "back")))) c cc (List.set ((((([1, 1, 1, 1, 1] : List Nat).set 3 0).set 1 d1).set 2 d2).set 4 d4) 0 0) := by
      have := mk4 (upd G5 cc (.dK (putK kvs4 (Sum.inr "hook") (.str "back")))) (by rw [upd_ne R5.ne]; exact ha4) upd_same
      exact this
    have eG6 : Ex G (upd G5 cc (.dK (putK kvs4 (Sum.inr "hook") (.str "back")))) := fun x u hx => by
      rw [upd_ne (ne_of_none hx fcc)]
      exact eG5 x u hx
    have lb6 : ListN (upd G5 cc (.dK (putK kvs4 (Sum.inr "hook") (.str "back")))) bl [0, d1, d2, 0, d4] := by
      show upd _ cc _ bl = _
      rw [upd_ne (ne_of_none lbl fcc)]
      exact lb5
    generalize upd G5 cc (.dK (putK kvs4 (Sum.inr "hook") (.str "back"))) = G6 at R6 eG6 lb6 ⊢
    rw [x3] at R6
    exact ⟨_, rfl, _, rfl, fin (.ref c) G6 c cc eG6 rfl hc fcc R6⟩

end

section
variable {P : Program} {w : World} {K : PySem.W.Frag} {mg : Str → Option Value} {base : Heap} {A : Ad}
def spTnB (A : Ad) (lo hi : Nat) : Sp := fun vs H Q _ => ∃ (a d : Addr) (v : V) (ys rb ds : List Nat) (bs : List Bk), vs = [.ref a, .ref d, v] ∧ ListN H a ys ∧ ListN H d ds ∧ lo ≤ ds.length ∧ ds.length ≤ hi ∧ Good ys bs ∧ RuV A H v rb ∧ (∀ zs, Mend (chB rb) ys bs zs → ∀ x ∈ ds, x ∈ difF ys zs ys.length) ∧
  ∀ p zs H', H p = none → Ex H H' → Mend (chB rb) ys bs zs → ListN H' p (torF ys zs ds ys.length) → Q (.ref p) H'
theorem ok_law_some (T : Txt K mg A) (g_torn_repair : OkdTR P w K mg base A)  : Okd P w K mg base CX0 10 A.law_some P_law_some (spTnB A 1 3) := by
  obtain ⟨fd, F⟩ := T.d_law_some
  have G_torn_repair := g_torn_repair

  refine ⟨fd, F.ok sc_law_some (fun vs H Q E h => ?_) (fun cdv A' outer s H vs Q E hr h => ?_), F.binds fun _ _ _ _ _ _ us hl => match us, hl with | [_, _, _], _ => rfl⟩
  · obtain ⟨a, d, v, ys, rb, ds, bs, rfl, _⟩ := h
    rfl
  · obtain ⟨a, d, v, ys, rb, ds, bs, rfl, ha, hd, p0, p4, hG, RV, al, k⟩ := h
    refine ⟨_, (pss_cons (ps_if (pt_cmpR op_eq (pe_callB call_len_seq (by rfl) T.n_len PySem.boot_len (pa_cons (pv 1) pa_nil)) pe_int (nomark _)) (pss_one (ps_ret (StK.pe_callFK G_torn_repair (hr.mono (by decide)) (by rfl) T.g_torn_repair T.k_torn_repair pass0 (pa_cons (pv 0) (pa_cons (pe_ix ix_list (pv 1) pe_int (fun _ _ => rfl)) pa_nil)) (pk_cons (pv 2) pk_nil)))) pss_nil)
      (pss_cons (ps_if (pt_cmpR op_eq (pe_callB call_len_seq (by rfl) T.n_len PySem.boot_len (pa_cons (pv 1) pa_nil)) pe_int (nomark _)) (pss_one (ps_ret (StK.pe_callFK G_torn_repair (hr.mono (by decide)) (by rfl) T.g_torn_repair T.k_torn_repair pass0 (pa_cons (pv 0) (pa_cons (pe_ix ix_list (pv 1) pe_int (fun _ _ => rfl)) (pa_cons (pe_ix ix_list (pv 1) pe_int (fun _ _ => rfl)) pa_nil))) (pk_cons (pv 2) pk_nil)))) pss_nil)
      (pss_one (ps_ret (StK.pe_callFK G_torn_repair (hr.mono (by decide)) (by rfl) T.g_torn_repair T.k_torn_repair pass0 (pa_cons (pv 0) (pa_cons (pe_ix ix_list (pv 1) pe_int (fun _ _ => rfl)) (pa_cons (pe_ix ix_list (pv 1) pe_int (fun _ _ => rfl)) (pa_cons (pe_ix ix_list (pv 1) pe_int (fun _ _ => rfl)) pa_nil)))) (pk_cons (pv 2) pk_nil)))))), ?_⟩
    match ds, p0, p4, hd, al, k with
    | [x0], _, _, hd, al, k =>
      refine ⟨_, rfl, d, _, rfl, .inl hd.sz, rfl, _, rfl, ?_⟩
      refine iteT ?_
      exact ⟨_, rfl, _, rfl, d, _, _, _, rfl, rfl, hd.sz, (show atI (nI [x0]) (0 : Int) = some (V.int ((x0 : Nat) : Int)) from atI_nat rfl), _, rfl, rfl, a, v, ys, rb, [x0], bs, rfl, rfl, (by show 1 ≤ 1000; decide), ha, hG, RV, al, k⟩
    | [x0, x1], _, _, hd, al, k =>
      refine ⟨_, rfl, d, _, rfl, .inl hd.sz, rfl, _, rfl, ?_⟩
      refine iteF ?_
      refine ⟨_, rfl, d, _, rfl, .inl hd.sz, rfl, _, rfl, ?_⟩
      refine iteT ?_
      exact ⟨_, rfl, _, rfl, d, _, _, _, rfl, rfl, hd.sz, (show atI (nI [x0, x1]) (0 : Int) = some (V.int ((x0 : Nat) : Int)) from atI_nat rfl), _, rfl, d, _, _, _, rfl, rfl, hd.sz, (show atI (nI [x0, x1]) (1 : Int) = some (V.int ((x1 : Nat) : Int)) from atI_nat rfl), _, rfl, rfl, a, v, ys, rb, [x0, x1], bs, rfl, rfl, (by show 2 ≤ 1000; decide), ha, hG, RV, al, k⟩
    | [x0, x1, x2], _, _, hd, al, k =>
      refine ⟨_, rfl, d, _, rfl, .inl hd.sz, rfl, _, rfl, ?_⟩
      refine iteF ?_
      refine ⟨_, rfl, d, _, rfl, .inl hd.sz, rfl, _, rfl, ?_⟩
      refine iteF ?_
      exact ⟨_, rfl, _, rfl, d, _, _, _, rfl, rfl, hd.sz, (show atI (nI [x0, x1, x2]) (0 : Int) = some (V.int ((x0 : Nat) : Int)) from atI_nat rfl), _, rfl, d, _, _, _, rfl, rfl, hd.sz, (show atI (nI [x0, x1, x2]) (1 : Int) = some (V.int ((x1 : Nat) : Int)) from atI_nat rfl), _, rfl, d, _, _, _, rfl, rfl, hd.sz, (show atI (nI [x0, x1, x2]) (2 : Int) = some (V.int ((x2 : Nat) : Int)) from atI_nat rfl), _, rfl, rfl, a, v, ys, rb, [x0, x1, x2], bs, rfl, rfl, (by show 3 ≤ 1000; decide), ha, hG, RV, al, k⟩

theorem ok_law_torn (T : Txt K mg A) (g_torn_repair : OkdTR P w K mg base A) (g_law_some : Okd P w K mg base CX0 10 A.law_some P_law_some (spTnB A 1 3)) : Okd P w K mg base CX0 11 A.law_torn P_law_torn (spTnB A 0 8) := by
  obtain ⟨fd, F⟩ := T.d_law_torn
  have G_torn_repair := g_torn_repair
  obtain ⟨fd_law_some, G_law_some, b_law_some⟩ := g_law_some
  refine ⟨fd, F.ok sc_law_torn (fun vs H Q E h => ?_) (fun cdv A' outer s H vs Q E hr h => ?_), F.binds fun _ _ _ _ _ _ us hl => match us, hl with | [_, _, _], _ => rfl⟩
  · obtain ⟨a, d, v, ys, rb, ds, bs, rfl, _⟩ := h
    rfl
  · obtain ⟨a, d, v, ys, rb, ds, bs, rfl, ha, hd, p0, p4, hG, RV, al, k⟩ := h
    refine ⟨_, (pss_cons (ps_if (pt_cmpR op_eq (pe_callB call_len_seq (by rfl) T.n_len PySem.boot_len (pa_cons (pv 1) pa_nil)) pe_int (nomark _)) (pss_one (ps_ret (StK.pe_callFK G_torn_repair (hr.mono (by decide)) (by rfl) T.g_torn_repair T.k_torn_repair pass0 (pa_cons (pv 0) pa_nil) (pk_cons (pv 2) pk_nil)))) pss_nil)
      (pss_cons (ps_if (pt_cmpR op_lt (pe_callB call_len_seq (by rfl) T.n_len PySem.boot_len (pa_cons (pv 1) pa_nil)) pe_int (nomark _)) (pss_one (ps_ret (pe_call G_law_some (hr.mono (by decide)) (by rfl) T.g_law_some T.k_law_some b_law_some .nil pass0 (pa_cons (pv 0) (pa_cons (pv 1) (pa_cons (pv 2) pa_nil)))))) pss_nil)
      (pss_cons (ps_if (pt_cmpR op_eq (pe_callB call_len_seq (by rfl) T.n_len PySem.boot_len (pa_cons (pv 1) pa_nil)) pe_int (nomark _)) (pss_one (ps_ret (StK.pe_callFK G_torn_repair (hr.mono (by decide)) (by rfl) T.g_torn_repair T.k_torn_repair pass0 (pa_cons (pv 0) (pa_cons (pe_ix ix_list (pv 1) pe_int (fun _ _ => rfl)) (pa_cons (pe_ix ix_list (pv 1) pe_int (fun _ _ => rfl)) (pa_cons (pe_ix ix_list (pv 1) pe_int (fun _ _ => rfl)) (pa_cons (pe_ix ix_list (pv 1) pe_int (fun _ _ => rfl)) pa_nil))))) (pk_cons (pv 2) pk_nil)))) pss_nil)
      (pss_cons (ps_if (pt_cmpR op_eq (pe_callB call_len_seq (by rfl) T.n_len PySem.boot_len (pa_cons (pv 1) pa_nil)) pe_int (nomark _)) (pss_one (ps_ret (StK.pe_callFK G_torn_repair (hr.mono (by decide)) (by rfl) T.g_torn_repair T.k_torn_repair pass0 (pa_cons (pv 0) (pa_cons (pe_ix ix_list (pv 1) pe_int (fun _ _ => rfl)) (pa_cons (pe_ix ix_list (pv 1) pe_int (fun _ _ => rfl)) (pa_cons (pe_ix ix_list (pv 1) pe_int (fun _ _ => rfl)) (pa_cons (pe_ix ix_list (pv 1) pe_int (fun _ _ => rfl)) (pa_cons (pe_ix ix_list (pv 1) pe_int (fun _ _ => rfl)) pa_nil)))))) (pk_cons (pv 2) pk_nil)))) pss_nil)
      (pss_cons (ps_set (i := 3) sc_law_torn.nd rfl (Or.inl rfl) (pe_ix ix_list (pv 1) pe_int (fun _ _ => rfl)))
      (pss_cons (ps_set (i := 4) sc_law_torn.nd rfl (Or.inl rfl) (pe_ix ix_list (pv 1) pe_int (fun _ _ => rfl)))
      (pss_cons (ps_if (pt_cmpR op_eq (pe_callB call_len_seq (by rfl) T.n_len PySem.boot_len (pa_cons (pv 1) pa_nil)) pe_int (nomark _)) (pss_one (ps_ret (StK.pe_callFK G_torn_repair (hr.mono (by decide)) (by rfl) T.g_torn_repair T.k_torn_repair pass0 (pa_cons (pv 0) (pa_cons (pv 3) (pa_cons (pv 4) (pa_cons (pe_ix ix_list (pv 1) pe_int (fun _ _ => rfl)) (pa_cons (pe_ix ix_list (pv 1) pe_int (fun _ _ => rfl)) (pa_cons (pe_ix ix_list (pv 1) pe_int (fun _ _ => rfl)) (pa_cons (pe_ix ix_list (pv 1) pe_int (fun _ _ => rfl)) pa_nil))))))) (pk_cons (pv 2) pk_nil)))) pss_nil)
      (pss_cons (ps_if (pt_cmpR op_eq (pe_callB call_len_seq (by rfl) T.n_len PySem.boot_len (pa_cons (pv 1) pa_nil)) pe_int (nomark _)) (pss_one (ps_ret (StK.pe_callFK G_torn_repair (hr.mono (by decide)) (by rfl) T.g_torn_repair T.k_torn_repair pass0 (pa_cons (pv 0) (pa_cons (pv 3) (pa_cons (pv 4) (pa_cons (pe_ix ix_list (pv 1) pe_int (fun _ _ => rfl)) (pa_cons (pe_ix ix_list (pv 1) pe_int (fun _ _ => rfl)) (pa_cons (pe_ix ix_list (pv 1) pe_int (fun _ _ => rfl)) (pa_cons (pe_ix ix_list (pv 1) pe_int (fun _ _ => rfl)) (pa_cons (pe_ix ix_list (pv 1) pe_int (fun _ _ => rfl)) pa_nil)))))))) (pk_cons (pv 2) pk_nil)))) pss_nil)
      (pss_one (ps_ret (StK.pe_callFK G_torn_repair (hr.mono (by decide)) (by rfl) T.g_torn_repair T.k_torn_repair pass0 (pa_cons (pv 0) (pa_cons (pv 3) (pa_cons (pv 4) (pa_cons (pe_ix ix_list (pv 1) pe_int (fun _ _ => rfl)) (pa_cons (pe_ix ix_list (pv 1) pe_int (fun _ _ => rfl)) (pa_cons (pe_ix ix_list (pv 1) pe_int (fun _ _ => rfl)) (pa_cons (pe_ix ix_list (pv 1) pe_int (fun _ _ => rfl)) (pa_cons (pe_ix ix_list (pv 1) pe_int (fun _ _ => rfl)) (pa_cons (pe_ix ix_list (pv 1) pe_int (fun _ _ => rfl)) pa_nil))))))))) (pk_cons (pv 2) pk_nil)))))))))))), ?_⟩
    match ds, p0, p4, hd, al, k with
    | [], _, _, hd, al, k =>
      refine ⟨_, rfl, d, _, rfl, .inl hd.sz, rfl, _, rfl, ?_⟩
      refine iteT ?_
      exact ⟨_, rfl, _, rfl, rfl, a, v, ys, rb, [], bs, rfl, rfl, (by show 0 ≤ 1000; decide), ha, hG, RV, al, k⟩
    | [x0], _, _, hd, al, k =>
      refine ⟨_, rfl, d, _, rfl, .inl hd.sz, rfl, _, rfl, ?_⟩
      refine iteF ?_
      refine ⟨_, rfl, d, _, rfl, .inl hd.sz, _, _, rfl, rfl, _, rfl, ?_⟩
      refine iteT ?_
      exact ⟨_, rfl, _, rfl, _, rfl, a, d, v, ys, rb, [x0], bs, rfl, ha, hd, (by show 1 ≤ 1; decide), (by show 1 ≤ 3; decide), hG, RV, al, k⟩
    | [x0, x1], _, _, hd, al, k =>
      refine ⟨_, rfl, d, _, rfl, .inl hd.sz, rfl, _, rfl, ?_⟩
      refine iteF ?_
      refine ⟨_, rfl, d, _, rfl, .inl hd.sz, _, _, rfl, rfl, _, rfl, ?_⟩
      refine iteT ?_
      exact ⟨_, rfl, _, rfl, _, rfl, a, d, v, ys, rb, [x0, x1], bs, rfl, ha, hd, (by show 1 ≤ 2; decide), (by show 2 ≤ 3; decide), hG, RV, al, k⟩
    | [x0, x1, x2], _, _, hd, al, k =>
      refine ⟨_, rfl, d, _, rfl, .inl hd.sz, rfl, _, rfl, ?_⟩
      refine iteF ?_
      refine ⟨_, rfl, d, _, rfl, .inl hd.sz, _, _, rfl, rfl, _, rfl, ?_⟩
      refine iteT ?_
      exact ⟨_, rfl, _, rfl, _, rfl, a, d, v, ys, rb, [x0, x1, x2], bs, rfl, ha, hd, (by show 1 ≤ 3; decide), (by show 3 ≤ 3; decide), hG, RV, al, k⟩
    | [x0, x1, x2, x3], _, _, hd, al, k =>
      refine ⟨_, rfl, d, _, rfl, .inl hd.sz, rfl, _, rfl, ?_⟩
      refine iteF ?_
      refine ⟨_, rfl, d, _, rfl, .inl hd.sz, _, _, rfl, rfl, _, rfl, ?_⟩
      refine iteF ?_
      refine ⟨_, rfl, d, _, rfl, .inl hd.sz, rfl, _, rfl, ?_⟩
      refine iteT ?_
      exact ⟨_, rfl, _, rfl, d, _, _, _, rfl, rfl, hd.sz, (show atI (nI [x0, x1, x2, x3]) (0 : Int) = some (V.int ((x0 : Nat) : Int)) from atI_nat rfl), _, rfl, d, _, _, _, rfl, rfl, hd.sz, (show atI (nI [x0, x1, x2, x3]) (1 : Int) = some (V.int ((x1 : Nat) : Int)) from atI_nat rfl), _, rfl, d, _, _, _, rfl, rfl, hd.sz, (show atI (nI [x0, x1, x2, x3]) (2 : Int) = some (V.int ((x2 : Nat) : Int)) from atI_nat rfl), _, rfl, d, _, _, _, rfl, rfl, hd.sz, (show atI (nI [x0, x1, x2, x3]) (3 : Int) = some (V.int ((x3 : Nat) : Int)) from atI_nat rfl), _, rfl, rfl, a, v, ys, rb, [x0, x1, x2, x3], bs, rfl, rfl, (by show 4 ≤ 1000; decide), ha, hG, RV, al, k⟩
    | [x0, x1, x2, x3, x4], _, _, hd, al, k =>
      refine ⟨_, rfl, d, _, rfl, .inl hd.sz, rfl, _, rfl, ?_⟩
      refine iteF ?_
      refine ⟨_, rfl, d, _, rfl, .inl hd.sz, _, _, rfl, rfl, _, rfl, ?_⟩
      refine iteF ?_
      refine ⟨_, rfl, d, _, rfl, .inl hd.sz, rfl, _, rfl, ?_⟩
      refine iteF ?_
      refine ⟨_, rfl, d, _, rfl, .inl hd.sz, rfl, _, rfl, ?_⟩
      refine iteT ?_
      exact ⟨_, rfl, _, rfl, d, _, _, _, rfl, rfl, hd.sz, (show atI (nI [x0, x1, x2, x3, x4]) (0 : Int) = some (V.int ((x0 : Nat) : Int)) from atI_nat rfl), _, rfl, d, _, _, _, rfl, rfl, hd.sz, (show atI (nI [x0, x1, x2, x3, x4]) (1 : Int) = some (V.int ((x1 : Nat) : Int)) from atI_nat rfl), _, rfl, d, _, _, _, rfl, rfl, hd.sz, (show atI (nI [x0, x1, x2, x3, x4]) (2 : Int) = some (V.int ((x2 : Nat) : Int)) from atI_nat rfl), _, rfl, d, _, _, _, rfl, rfl, hd.sz, (show atI (nI [x0, x1, x2, x3, x4]) (3 : Int) = some (V.int ((x3 : Nat) : Int)) from atI_nat rfl), _, rfl, d, _, _, _, rfl, rfl, hd.sz, (show atI (nI [x0, x1, x2, x3, x4]) (4 : Int) = some (V.int ((x4 : Nat) : Int)) from atI_nat rfl), _, rfl, rfl, a, v, ys, rb, [x0, x1, x2, x3, x4], bs, rfl, rfl, (by show 5 ≤ 1000; decide), ha, hG, RV, al, k⟩
    | [x0, x1, x2, x3, x4, x5], _, _, hd, al, k =>
      refine ⟨_, rfl, d, _, rfl, .inl hd.sz, rfl, _, rfl, ?_⟩
      refine iteF ?_
      refine ⟨_, rfl, d, _, rfl, .inl hd.sz, _, _, rfl, rfl, _, rfl, ?_⟩
      refine iteF ?_
      refine ⟨_, rfl, d, _, rfl, .inl hd.sz, rfl, _, rfl, ?_⟩
      refine iteF ?_
      refine ⟨_, rfl, d, _, rfl, .inl hd.sz, rfl, _, rfl, ?_⟩
      refine iteF ?_
      refine ⟨_, rfl, d, _, _, _, rfl, rfl, hd.sz, (show atI (nI [x0, x1, x2, x3, x4, x5]) (0 : Int) = some (V.int ((x0 : Nat) : Int)) from atI_nat rfl), ?_⟩
      refine ⟨_, rfl, d, _, _, _, rfl, rfl, hd.sz, (show atI (nI [x0, x1, x2, x3, x4, x5]) (1 : Int) = some (V.int ((x1 : Nat) : Int)) from atI_nat rfl), ?_⟩
      refine ⟨_, rfl, d, _, rfl, .inl hd.sz, rfl, _, rfl, ?_⟩
      refine iteT ?_
      exact ⟨_, rfl, _, rfl, _, rfl, _, rfl, d, _, _, _, rfl, rfl, hd.sz, (show atI (nI [x0, x1, x2, x3, x4, x5]) (2 : Int) = some (V.int ((x2 : Nat) : Int)) from atI_nat rfl), _, rfl, d, _, _, _, rfl, rfl, hd.sz, (show atI (nI [x0, x1, x2, x3, x4, x5]) (3 : Int) = some (V.int ((x3 : Nat) : Int)) from atI_nat rfl), _, rfl, d, _, _, _, rfl, rfl, hd.sz, (show atI (nI [x0, x1, x2, x3, x4, x5]) (4 : Int) = some (V.int ((x4 : Nat) : Int)) from atI_nat rfl), _, rfl, d, _, _, _, rfl, rfl, hd.sz, (show atI (nI [x0, x1, x2, x3, x4, x5]) (5 : Int) = some (V.int ((x5 : Nat) : Int)) from atI_nat rfl), _, rfl, rfl, a, v, ys, rb, [x0, x1, x2, x3, x4, x5], bs, rfl, rfl, (by show 6 ≤ 1000; decide), ha, hG, RV, al, k⟩
    | [x0, x1, x2, x3, x4, x5, x6], _, _, hd, al, k =>
      refine ⟨_, rfl, d, _, rfl, .inl hd.sz, rfl, _, rfl, ?_⟩
      refine iteF ?_
      refine ⟨_, rfl, d, _, rfl, .inl hd.sz, _, _, rfl, rfl, _, rfl, ?_⟩
      refine iteF ?_
      refine ⟨_, rfl, d, _, rfl, .inl hd.sz, rfl, _, rfl, ?_⟩
      refine iteF ?_
      refine ⟨_, rfl, d, _, rfl, .inl hd.sz, rfl, _, rfl, ?_⟩
      refine iteF ?_
      refine ⟨_, rfl, d, _, _, _, rfl, rfl, hd.sz, (show atI (nI [x0, x1, x2, x3, x4, x5, x6]) (0 : Int) = some (V.int ((x0 : Nat) : Int)) from atI_nat rfl), ?_⟩
      refine ⟨_, rfl, d, _, _, _, rfl, rfl, hd.sz, (show atI (nI [x0, x1, x2, x3, x4, x5, x6]) (1 : Int) = some (V.int ((x1 : Nat) : Int)) from atI_nat rfl), ?_⟩
      refine ⟨_, rfl, d, _, rfl, .inl hd.sz, rfl, _, rfl, ?_⟩
      refine iteF ?_
      refine ⟨_, rfl, d, _, rfl, .inl hd.sz, rfl, _, rfl, ?_⟩
      refine iteT ?_
      exact ⟨_, rfl, _, rfl, _, rfl, _, rfl, d, _, _, _, rfl, rfl, hd.sz, (show atI (nI [x0, x1, x2, x3, x4, x5, x6]) (2 : Int) = some (V.int ((x2 : Nat) : Int)) from atI_nat rfl), _, rfl, d, _, _, _, rfl, rfl, hd.sz, (show atI (nI [x0, x1, x2, x3, x4, x5, x6]) (3 : Int) = some (V.int ((x3 : Nat) : Int)) from atI_nat rfl), _, rfl, d, _, _, _, rfl, rfl, hd.sz, (show atI (nI [x0, x1, x2, x3, x4, x5, x6]) (4 : Int) = some (V.int ((x4 : Nat) : Int)) from atI_nat rfl), _, rfl, d, _, _, _, rfl, rfl, hd.sz, (show atI (nI [x0, x1, x2, x3, x4, x5, x6]) (5 : Int) = some (V.int ((x5 : Nat) : Int)) from atI_nat rfl), _, rfl, d, _, _, _, rfl, rfl, hd.sz, (show atI (nI [x0, x1, x2, x3, x4, x5, x6]) (6 : Int) = some (V.int ((x6 : Nat) : Int)) from atI_nat rfl), _, rfl, rfl, a, v, ys, rb, [x0, x1, x2, x3, x4, x5, x6], bs, rfl, rfl, (by show 7 ≤ 1000; decide), ha, hG, RV, al, k⟩
    | [x0, x1, x2, x3, x4, x5, x6, x7], _, _, hd, al, k =>
      refine ⟨_, rfl, d, _, rfl, .inl hd.sz, rfl, _, rfl, ?_⟩
      refine iteF ?_
      refine ⟨_, rfl, d, _, rfl, .inl hd.sz, _, _, rfl, rfl, _, rfl, ?_⟩
      refine iteF ?_
      refine ⟨_, rfl, d, _, rfl, .inl hd.sz, rfl, _, rfl, ?_⟩
      refine iteF ?_
      refine ⟨_, rfl, d, _, rfl, .inl hd.sz, rfl, _, rfl, ?_⟩
      refine iteF ?_
      refine ⟨_, rfl, d, _, _, _, rfl, rfl, hd.sz, (show atI (nI [x0, x1, x2, x3, x4, x5, x6, x7]) (0 : Int) = some (V.int ((x0 : Nat) : Int)) from atI_nat rfl), ?_⟩
      refine ⟨_, rfl, d, _, _, _, rfl, rfl, hd.sz, (show atI (nI [x0, x1, x2, x3, x4, x5, x6, x7]) (1 : Int) = some (V.int ((x1 : Nat) : Int)) from atI_nat rfl), ?_⟩
      refine ⟨_, rfl, d, _, rfl, .inl hd.sz, rfl, _, rfl, ?_⟩
      refine iteF ?_
      refine ⟨_, rfl, d, _, rfl, .inl hd.sz, rfl, _, rfl, ?_⟩
      refine iteF ?_
      exact ⟨_, rfl, _, rfl, _, rfl, _, rfl, d, _, _, _, rfl, rfl, hd.sz, (show atI (nI [x0, x1, x2, x3, x4, x5, x6, x7]) (2 : Int) = some (V.int ((x2 : Nat) : Int)) from atI_nat rfl), _, rfl, d, _, _, _, rfl, rfl, hd.sz, (show atI (nI [x0, x1, x2, x3, x4, x5, x6, x7]) (3 : Int) = some (V.int ((x3 : Nat) : Int)) from atI_nat rfl), _, rfl, d, _, _, _, rfl, rfl, hd.sz, (show atI (nI [x0, x1, x2, x3, x4, x5, x6, x7]) (4 : Int) = some (V.int ((x4 : Nat) : Int)) from atI_nat rfl), _, rfl, d, _, _, _, rfl, rfl, hd.sz, (show atI (nI [x0, x1, x2, x3, x4, x5, x6, x7]) (5 : Int) = some (V.int ((x5 : Nat) : Int)) from atI_nat rfl), _, rfl, d, _, _, _, rfl, rfl, hd.sz, (show atI (nI [x0, x1, x2, x3, x4, x5, x6, x7]) (6 : Int) = some (V.int ((x6 : Nat) : Int)) from atI_nat rfl), _, rfl, d, _, _, _, rfl, rfl, hd.sz, (show atI (nI [x0, x1, x2, x3, x4, x5, x6, x7]) (7 : Int) = some (V.int ((x7 : Nat) : Int)) from atI_nat rfl), _, rfl, rfl, a, v, ys, rb, [x0, x1, x2, x3, x4, x5, x6, x7], bs, rfl, rfl, (by show 8 ≤ 1000; decide), ha, hG, RV, al, k⟩

end

section
variable {P : Program} {w : World} {K : PySem.W.Frag} {mg : Str → Option Value} {base : Heap} {A : Ad}
theorem dpN {K : PySem.W.Frag} {H : Hp} {l : Addr} {xs : List Nat} (h : ListN H l xs) : Dp K H (.ref l) (dN xs) := .lst h.sz (dpAll_N _)
theorem canN (xs : List Nat) : PyData.canLay0 (dN xs) = true := by
  unfold dN
  simp only [PyData.canLay0]
  exact lay_N xs
theorem shaped_N (xs : List Nat) : SeqAt.shaped (dN xs) = true := by
  have h2 : PyData.depth (dN xs) ≤ 64 := by
    have := deep_N xs
    unfold dN
    simp only [PyData.depth]
    omega
  unfold SeqAt.shaped
  rw [decide_eq_true h2, canN]
  rfl
theorem eqvAllN : ∀ xs ys : List Nat, PyData.eqvAll (xs.map fun x : Nat => PyData.int (x : Int)) (ys.map fun x : Nat => PyData.int (x : Int)) = decide (xs = ys)
  | [], [] => rfl
  | [], _ :: _ => rfl
  | _ :: _, [] => rfl
  | x :: xs, y :: ys => by
    have ih := eqvAllN xs ys
    simp only [List.map_cons, PyData.eqvAll, PyData.eqv, ih]
    rw [Bool.eq_iff_iff]
    simp only [Bool.and_eq_true, beq_iff_eq, decide_eq_true_eq, List.cons.injEq]
    constructor
    · exact fun h => ⟨by omega, h.2⟩
    · exact fun h => ⟨by omega, h.2⟩
theorem eqvN15 (xs ys : List Nat) : PyData.eqv (dN xs) (dN ys) = decide (xs = ys) := by
  unfold dN
  simp only [PyData.eqv]
  exact eqvAllN xs ys
/-- the rules lie apart from a stream -/
def ApV (A : Ad) (H : Hp) (v : V) (bits : List Nat) (st : Addr) : Prop := (v = .non ∧ bits = zero5) ∨ ∃ a k, v = .ref a ∧ Ru A H a k bits ∧ a ≠ st ∧ k ≠ st
theorem ApV.ruv {A : Ad} {H : Hp} {v : V} {bits : List Nat} {st : Addr} (h : ApV A H v bits st) : RuV A H v bits := h.imp id fun ⟨a, k, h1, h2, _⟩ => ⟨a, k, h1, h2⟩
theorem ApV.mut {A : Ad} {H H' : Hp} {v : V} {bits : List Nat} {st : Addr} (h : ApV A H v bits st) (m : ∀ x u, x ≠ st → H x = some u → H' x = some u) : ApV A H' v bits st := h.imp id fun ⟨a, k, h1, h2, h3, h4⟩ => ⟨a, k, h1, h2.keep (fun o ho => m _ _ h3 ho) (fun o ho => m _ _ h4 ho), h3, h4⟩
def spMor (A : Ad) : Sp := fun vs H Q _ => ∃ (st im go : Addr) (v : V) (ys zs bits : List Nat) (bs : List Bk) (m : Nat), vs = [.ref st, .ref im, .ref go, v, .int (m : Int)] ∧ Strm H st ∧ ListN H im ys ∧ ListN H go zs ∧ im ≠ st ∧ go ≠ st ∧ ApV A H v bits st ∧ Good ys bs ∧ bits ∈ stB ∧ Mend (chB bits) ys bs zs ∧ m ≤ 8 ∧
  ∀ p ys2 bs2 H', H p = none → Strm H' st → Mut st H H' → ListN H' p ys2 → ys2.length = ys.length → Good ys2 bs2 → Mend (chB bits) ys2 bs2 zs → Q (.ref p) H'
theorem ok_law_morning (T : Txt K mg A) (g_repair : OkdR P w K mg base A) (g_writes : Okd_writes P w K mg base A) (g_law_draw : Okd P w K mg base CX0 1 A.law_draw P_law_draw spDraw) (g_is_repairable : Okd P w K mg base CX0 3 A.is_repairable P_is_repairable spRep) (g_law_same : Okd P w K mg base CX0 2 A.law_same P_law_same spSm) (g_law_torn : Okd P w K mg base CX0 11 A.law_torn P_law_torn (spTnB A 0 8)) : Okd P w K mg base CX0 12 A.law_morning P_law_morning (spMor A) := by
  obtain ⟨fd, F⟩ := T.d_law_morning
  obtain ⟨fd_repair, G_repair, ⟨ds1_repair, v1_repair, b1_repair⟩, ⟨ds2_repair, v2_repair, b2_repair⟩⟩ := g_repair
  obtain ⟨fd_writes, G_writes, ⟨ds1_writes, v1_writes, b1_writes⟩, ⟨ds2_writes, v2_writes, b2_writes⟩⟩ := g_writes
  obtain ⟨fd_law_draw, G_law_draw, b_law_draw⟩ := g_law_draw
  obtain ⟨fd_is_repairable, G_is_repairable, b_is_repairable⟩ := g_is_repairable
  obtain ⟨fd_law_same, G_law_same, b_law_same⟩ := g_law_same
  obtain ⟨fd_law_torn, G_law_torn, b_law_torn⟩ := g_law_torn
  refine ⟨fd, F.ok sc_law_morning (fun vs H Q E h => ?_) (fun cdv A' outer s H vs Q E hr h => ?_), F.binds fun _ _ _ _ _ _ us hl => match us, hl with | [_, _, _, _, _], _ => rfl⟩
  · obtain ⟨st, im, go, v, ys, zs, bits, bs, m, rfl, _⟩ := h
    rfl
  · obtain ⟨st, im, go, v, ys, zs, bits, bs, m, rfl, S, hi, hg, nis, ngs, AV, G, hb, M, m8, k⟩ := h
    refine ⟨_, (pss_cons (ps_set (i := 5) sc_law_morning.nd rfl (Or.inl rfl) (pe_call G_law_draw (hr.mono (by decide)) (by rfl) T.g_law_draw T.k_law_draw b_law_draw .nil pass0 (pa_cons (pv 0) (pa_cons (pe_op op_add (pv 4) pe_int) pa_nil))))
      (pss_cons (ps_setLc (i := 6) (own := [("x", 11)]) (tt := _) (by rfl) sc_law_morning.nd rfl rfl (sw_true rfl rfl rfl (by decide +kernel)) (pi_range1 (by rfl) T.n_range (pa_cons (pe_callB call_len_seq (by rfl) T.n_len PySem.boot_len (pa_cons (pv 1) pa_nil)) pa_nil)) (blkOk_by (own := [("x", 11)]) (N := N_law_morning) (sc := defScope s_law_morning) (by decide +kernel)) (fun _ _ _ _ _ => (pg_name (i := 11) sc_law_morning.nd rfl (Or.inl rfl))) (fun _ _ _ _ _ => (pts_one (pt_cmpR op_ne (pe_ix (ix_listK (K := K) rfl) (pv 1) (pv 11) (fun _ _ => rfl)) (pe_ix (ix_listK (K := K) rfl) (pv 2) (pv 11) (fun _ _ => rfl)) (nomark _)))) (fun _ _ _ _ _ => (pv 11)))
      (pss_cons (ps_set (i := 7) sc_law_morning.nd rfl (Or.inl rfl) (pe_callTy call_list_of (by rfl) T.n_list (by decide +kernel) (pa_cons (pv 1) pa_nil)))
      (pss_cons (ps_if (PW.pt (pw_or (pt_cmpR op_notBl (pe_call G_is_repairable (hr.mono (by decide)) (by rfl) T.g_is_repairable T.k_is_repairable b_is_repairable .nil pass0 (pa_cons (pv 7) pa_nil)) pe_bl (nomark _)) (pw_or1 (pt_not (pt_val (pe_call G_law_same (hr.mono (by decide)) (by rfl) T.g_law_same T.k_law_same b_law_same .nil pass0 (pa_cons (pe_call G_writes (hr.mono (by decide)) (by rfl) T.g_writes T.k_writes b2_writes v2_writes pass0 (pa_cons (pv 7) (pa_cons (pv 3) pa_nil))) (pa_cons (pv 6) pa_nil)))))))) (pss_one (ps_ret pe_non)) pss_nil)
      (pss_cons (ps_set (i := 8) sc_law_morning.nd rfl (Or.inr rfl) (pe_lst pa_nil))
      (pss_cons (ps_for PassesOwn.never rfl (pi_range1 (by rfl) T.n_range (pa_cons (pv 5) pa_nil)) (pg_name (i := 9) sc_law_morning.nd rfl (Or.inl rfl)) (pss_one (ps_if (pt_cmpR (op_neD hr.units) (pv 6) (pe_lst pa_nil) (nomark _)) (pss_one (ps_expr (pe_bm PySem.F.plainAttrs_list PySem.F.slot_list_append PySem.F.type_list_append mt_append (pv 8) (pa_cons (pe_ix ix_list (pv 6) (pe_call G_law_draw (hr.mono (by decide)) (by rfl) T.g_law_draw T.k_law_draw b_law_draw .nil pass0 (pa_cons (pv 0) (pa_cons (pe_callB call_len_seq (by rfl) T.n_len PySem.boot_len (pa_cons (pv 6) pa_nil)) pa_nil))) (fun _ _ => rfl)) pa_nil)))) pss_nil)))
      (pss_cons (ps_setLc (i := 10) (own := [("x", 11)]) (tt := tYes) (by rfl) sc_law_morning.nd rfl rfl (sw_true rfl rfl rfl (by decide +kernel)) (pi_range1 (by rfl) T.n_range (pa_cons (pe_callB call_len_seq (by rfl) T.n_len PySem.boot_len (pa_cons (pv 1) pa_nil)) pa_nil)) (blkOk_by (own := [("x", 11)]) (N := N_law_morning) (sc := defScope s_law_morning) (by decide +kernel)) (fun _ _ _ _ _ => (pg_name (i := 11) sc_law_morning.nd rfl (Or.inl rfl))) (fun _ _ _ _ _ => pts_nil) (fun _ _ _ _ _ => (pe_ifExp (pt_cmpR (op_inK (K := K) rfl) (pv 11) (pv 8) (by with_unfolding_all rfl)) (pe_ix (ix_listK (K := K) rfl) (pv 2) (pv 11) (fun _ _ => rfl)) (pe_ix (ix_listK (K := K) rfl) (pv 1) (pv 11) (fun _ _ => rfl)))))
      (pss_cons (ps_if (PW.pt (pw_or (pt_not (pt_val (pe_call G_law_same (hr.mono (by decide)) (by rfl) T.g_law_same T.k_law_same b_law_same .nil pass0 (pa_cons (pe_call G_law_torn (hr.mono (by decide)) (by rfl) T.g_law_torn T.k_law_torn b_law_torn .nil pass0 (pa_cons (pv 7) (pa_cons (pv 8) (pa_cons (pv 3) pa_nil)))) (pa_cons (pv 10) pa_nil))))) (pw_or1 (pt_cmpR (op_neD hr.units) (pv 7) (pv 1) (nomark _))))) (pss_one (ps_ret pe_non)) pss_nil)
      (pss_cons (ps_if (pt_not (pt_val (pe_call G_law_same (hr.mono (by decide)) (by rfl) T.g_law_same T.k_law_same b_law_same .nil pass0 (pa_cons (pe_call G_repair (hr.mono (by decide)) (by rfl) T.g_repair T.k_repair b2_repair v2_repair pass0 (pa_cons (pe_callTy call_list_of (by rfl) T.n_list (by decide +kernel) (pa_cons (pv 10) pa_nil)) (pa_cons (pv 3) pa_nil))) (pa_cons (pv 2) pa_nil))))) (pss_one (ps_ret pe_non)) pss_nil)
      (pss_one (ps_ret (pv 10)))))))))))), ?_⟩
    have h64 := G.len
    have zl := M.len
    refine ⟨_, rfl, _, rfl, _, _, rfl, rfl, st, (m : Int) + 1, rfl, by omega, by omega, S, fun many H1 y0 y1 S1 M1 => ?_⟩
    obtain ⟨many, rfl⟩ := Int.eq_ofNat_of_zero_le y0
    have hi1 : ListN H1 im ys := M1 _ _ nis hi
    have hg1 : ListN H1 go zs := M1 _ _ ngs hg
    have AV1 := AV.mut M1
    refine ⟨_, rfl, im, _, rfl, .inl hi1.sz, _, rfl, by rw [nI_len]; omega, by rw [nI_len]; omega, fun du hdu => ?_⟩
    rw [nI_len, Int.toNat_natCast]
    refine lc_range (lo := 0) (n := ys.length) (fun j G => Ex H1 G ∧ ListN G du (difF ys zs j)) ⟨Ex.new hdu, upd_same⟩ ?_ ?_
    · rintro j G hj ⟨e, hd'⟩
      rw [Int.zero_add]
      refine ⟨rfl, ?_⟩
      refine ⟨_, rfl, _, rfl, im, _, _, _, rfl, rfl, (hi1.ex e).sz, atN hj, _, rfl, _, rfl, go, _, _, _, rfl, rfl, (hg1.ex e).sz, atN (by rw [zl]; exact hj), rfl, _, rfl, ?_⟩
      rw [dif_step, dec_nat16]
      refine ite_b (fun c => ?_) (fun c => ?_)
      · have c' : ys.getD j 0 ≠ zs.getD j 0 := by simpa using c
        rw [if_pos (decide_eq_true c')]
        refine ⟨_, rfl, _, hd', ?_, fun b o ho => ?_, ?_⟩
        · have := dif_len (ys := ys) (zs := zs) (i := j)
          rw [nI_len]
          exact small1000 (by omega)
        · rw [upd_ne (ne_of_none ho hdu)]
          exact e b o ho
        · show upd G du _ du = _
          rw [upd_same, nI_app]
      · have c' : ¬ ys.getD j 0 ≠ zs.getD j 0 := by simpa using c
        rw [if_neg (by rw [decide_eq_false c']; decide), List.append_nil]
        exact ⟨e, hd'⟩
    rintro G2 ⟨e2, ldu⟩
    have hi2 := hi1.ex e2
    refine ⟨_, rfl, im, _, rfl, Or.inl hi2.sz, fun mi hmi => ?_⟩
    have lmi : ListN (upd G2 mi (.lst (nI ys))) mi ys := upd_same
    have e3 := e2.trans (Ex.new (o := .lst (nI ys)) hmi)
    have ldu3 := ldu.ex (Ex.new (o := .lst (nI ys)) hmi)
    generalize upd G2 mi (.lst (nI ys)) = G3 at lmi e3 ldu3 ⊢
    refine ⟨_, rfl, mi, ys, bs, rfl, lmi, G, fun G4 e4 => ?_⟩
    refine ⟨true, true, rfl, rfl, _, rfl, ?_⟩
    refine iteF ?_
    have e14' := e3.trans e4
    have lmi4 := lmi.ex e4
    have AV4 := AV1.mut fun x u _ h => e14' x u h
    refine ⟨_, rfl, _, rfl, mi, v, ys, bits, bs, rfl, lmi4, G, AV4.ruv, fun wr zs1 G5 hwr e5 Mz lwr => ?_⟩
    have ez := M.uniq Mz
    subst ez
    have dl := dif_len (ys := ys) (zs := zs) (i := ys.length)
    have ldu5 := (ldu3.ex e4).ex e5
    refine ⟨_, rfl, wr, du, _, rfl, lwr, ldu5, by omega, fun G6 e6 => ⟨true, rfl, ?_⟩⟩
    have e16 := (e14'.trans e5).trans e6
    have S6 := S1.ex e16
    refine ⟨(by show 0 ≤ sizeLine; decide), fun dn hdn => ?_⟩
    have ldn0 : ListN (upd G6 dn (.lst [])) dn [] := upd_same
    have e7 := e16.trans (Ex.new (o := .lst []) hdn)
    have S7 := S1.ex e7
    have ldu7 : ListN (upd G6 dn (.lst [])) du (difF ys zs ys.length) := (ldu5.ex e6).ex (Ex.new hdn)
    have lmi7 : ListN (upd G6 dn (.lst [])) mi ys := ((lmi4.ex e5).ex e6).ex (Ex.new hdn)
    have nds : dn ≠ st := (S1.ex e16).ne hdn
    have ndu : du ≠ dn := ne_of_none (show G6 du = some _ from ldu5.ex e6) hdn
    have nmi : mi ≠ dn := ne_of_none (show G6 mi = some _ from (lmi4.ex e5).ex e6) hdn
    have nus : du ≠ st := S1.ne hdu
    have nms : mi ≠ st := (S1.ex e2).ne hmi
    have fdn : H1 dn = none := back_none e16 hdn
    generalize upd G6 dn (.lst []) = G7 at ldn0 e7 S7 ldu7 lmi7 ⊢
    refine ⟨_, rfl, _, rfl, by omega, by omega, ?_⟩
    rw [Int.toNat_natCast]
    refine for_range (lo := 0) (n := many) (fun t σ G' => ∃ (v9 : Option V) (ds : List Nat), σ = [some (.ref st), some (.ref im), some (.ref go), some v, some (.int (m : Int)), some (.int (many : Int)), some (.ref du), some (.ref mi), some (.ref dn), v9, none, none] ∧ Strm G' st ∧ (∀ x u, x ≠ st → x ≠ dn → G7 x = some u → G' x = some u) ∧ ListN G' dn ds ∧ ds.length ≤ t ∧ ∀ x ∈ ds, x ∈ difF ys zs ys.length) ⟨none, [], rfl, S7, (fun _ _ _ _ h => h), ldn0, Nat.le_refl _, fun x hx => (by cases hx)⟩ ?_ ?_
    · rintro t σ G8 ht ⟨v9, ds, rfl, S8, K8, ld8, dsl, dsm⟩
      have ldu8 : ListN G8 du (difF ys zs ys.length) := K8 _ _ nus ndu ldu7
      refine ⟨_, rfl, (by show 0 ≤ sizeLine; decide), fun z hz => ?_⟩
      have eZ := Ex.new (o := .lst []) hz
      refine ⟨dN (difF ys zs ys.length), .list [], dpN (ldu8.ex eZ), .lst (SqL.of upd_same) .nil, shaped_N _, (by decide), _, rfl, ?_⟩
      have ldn9 := ld8.ex eZ
      have ldu9 := ldu8.ex eZ
      have S9 := S8.ex eZ
      have K9 : ∀ x u, x ≠ st → x ≠ dn → G7 x = some u → upd G8 z (.lst []) x = some u := fun x u h1 h2 h => eZ _ _ (K8 x u h1 h2 h)
      generalize upd G8 z (.lst []) = G9 at ldn9 ldu9 S9 K9 ⊢
      have fin0 : ∃ (v9 : Option V) (ds : List Nat), [some (.ref st), some (.ref im), some (.ref go), some v, some (.int (m : Int)), some (.int (many : Int)), some (.ref du), some (.ref mi), some (.ref dn), some (V.int (0 + (t : Int))), none, none] = [some (.ref st), some (.ref im), some (.ref go), some v, some (.int (m : Int)), some (.int (many : Int)), some (.ref du), some (.ref mi), some (.ref dn), v9, none, none] ∧ Strm G9 st ∧ (∀ x u, x ≠ st → x ≠ dn → G7 x = some u → G9 x = some u) ∧ ListN G9 dn ds ∧ ds.length ≤ t + 1 ∧ ∀ x ∈ ds, x ∈ difF ys zs ys.length := ⟨_, ds, rfl, S9, K9, ldn9, Nat.le_succ_of_le dsl, dsm⟩
      cases hdf : difF ys zs ys.length with
      | nil =>
        refine iteF ?_
        rw [hdf] at fin0
        exact fin0
      | cons x0 xs0 =>
        refine iteT ?_
        rw [← hdf]
        have dpos : 0 < (difF ys zs ys.length).length := by rw [hdf]; exact Nat.succ_pos _
        refine ⟨_, rfl, Or.inl ⟨rfl, _, ldn9.sz⟩, _, rfl, _, rfl, _, rfl, du, _, rfl, .inl ldu9.sz, st, ((nI (difF ys zs ys.length)).length : Int), rfl, by rw [nI_len]; omega, by rw [nI_len]; omega, S9, fun d GA d0 d1 SA MA => ?_⟩
        obtain ⟨d, rfl⟩ := Int.eq_ofNat_of_zero_le d0
        rw [nI_len] at d1
        have hdl : d < (difF ys zs ys.length).length := by omega
        have lduA : ListN GA du (difF ys zs ys.length) := MA _ _ nus ldu9
        have ldnA : ListN GA dn ds := MA _ _ nds ldn9
        refine ⟨du, _, _, _, rfl, rfl, lduA.sz, atN hdl, ?_⟩
        refine ⟨_, _, _, rfl, rfl, ldnA, small1000 (by rw [nI_len]; omega), ?_⟩
        refine ⟨_, ds ++ [(difF ys zs ys.length).getD d 0], rfl, SA.keep (fun o ho => by rw [upd_ne (Ne.symm nds)]; exact ho), fun x u h1 h2 h => ?_, ?_, by rw [List.length_append]; exact Nat.succ_le_succ dsl, fun x hx => ?_⟩
        · rw [upd_ne h2]
          exact MA _ _ h1 (K9 x u h1 h2 h)
        · show upd GA dn _ dn = _
          rw [upd_same, nI_app]
        · rcases List.mem_append.mp hx with hx | hx
          · exact dsm x hx
          · rw [List.mem_singleton.mp hx]
            exact getD_mem hdl
    rintro σ G8 ⟨v9, ds, rfl, S8, K8, ld8, dsl, dsm⟩
    have toG8 : ∀ x u, x ≠ st → H1 x = some u → G8 x = some u := fun x u hx h => K8 x u hx (ne_of_none h fdn) (e7 x u h)
    have hi8 : ListN G8 im ys := toG8 _ _ nis hi1
    have hg8 : ListN G8 go zs := toG8 _ _ ngs hg1
    have AV8 := AV1.mut toG8
    have lmi8 : ListN G8 mi ys := K8 _ _ nms nmi lmi7
    have R8 : Row bits ys zs ds bs := ⟨hb, G, M, fun x hx => by
      have h := dsm x hx
      unfold difF at h
      rw [List.mem_filter, List.mem_range, decide_eq_true_eq] at h
      exact h⟩
    obtain ⟨bs2, G2', Mr, _⟩ := R8.next
    refine ⟨_, rfl, im, _, rfl, .inl hi8.sz, _, rfl, by rw [nI_len]; omega, by rw [nI_len]; omega, fun rw_ hrw => ?_⟩
    rw [nI_len, Int.toNat_natCast]
    refine lc_range (lo := 0) (n := ys.length) (fun j G => Ex G8 G ∧ ListN G rw_ (torF ys zs ds j)) ⟨Ex.new hrw, upd_same⟩ ?_ ?_
    · rintro j G hj ⟨e, hd'⟩
      rw [Int.zero_add]
      refine ⟨rfl, ?_⟩
      have fin : ∀ z : Nat, z = (if j ∈ ds then zs.getD j 0 else ys.getD j 0) → ∃ acc, G rw_ = some (.lst acc) ∧ acc.length < sizeLine ∧ Ex G8 (upd G rw_ (.lst (acc ++ [V.int (z : Int)]))) ∧ ListN (upd G rw_ (.lst (acc ++ [V.int (z : Int)]))) rw_ (torF ys zs ds (j + 1)) := fun z hz => by
        refine ⟨_, hd', ?_, fun b o ho => ?_, ?_⟩
        · rw [nI_len, tor_len]
          exact small1000 (by omega)
        · rw [upd_ne (ne_of_none ho hrw)]
          exact e b o ho
        · show upd G rw_ _ rw_ = _
          rw [upd_same, tor_step, ← hz, nI_app]
      refine ⟨_, rfl, _, rfl, dn, _, rfl, Or.inl (ld8.ex e).sz, rfl, flat_nI _, _, rfl, ?_⟩
      show if (inV (V.int (j : Int)) (nI ds)) = true then _ else _
      rw [inV_nI]
      refine ite_b (fun c => ?_) (fun c => ?_)
      · have c : j ∈ ds := List.contains_iff_mem.mp c
        refine ⟨_, rfl, _, rfl, go, _, _, _, rfl, rfl, (hg8.ex e).sz, atN (by rw [zl]; exact hj), ?_⟩
        exact fin _ (by rw [if_pos c])
      · have c : j ∉ ds := fun z => by rw [List.contains_iff_mem.mpr z] at c; cases c
        refine ⟨_, rfl, _, rfl, im, _, _, _, rfl, rfl, (hi8.ex e).sz, atN hj, ?_⟩
        exact fin _ (by rw [if_neg c])
    rintro G9 ⟨e9, lrow⟩
    have lmi9 := lmi8.ex e9
    have ldn9 := ld8.ex e9
    have AV9 := AV8.mut fun x u _ h => e9 x u h
    refine ⟨_, rfl, _, rfl, _, rfl, mi, dn, v, ys, bits, ds, bs, rfl, lmi9, ldn9, Nat.zero_le _, by omega, G, AV9.ruv, (fun w Mw x hx => ?_), fun t1 zs2 GA ht1 eA M2 lt1 => ?_⟩
    · have := M.uniq Mw
      subst this
      exact dsm x hx
    have ez2 := M.uniq M2
    subst ez2
    have lrA := lrow.ex eA
    refine ⟨_, rfl, t1, rw_, _, rfl, lt1, lrA, by rw [tor_len]; omega, fun GB eB => ⟨true, rfl, ?_⟩⟩
    have eAB := eA.trans eB
    have lmiB := lmi9.ex eAB
    have hiB : ListN GB im ys := (hi8.ex e9).ex eAB
    refine ⟨_, rfl, _, rfl, dN ys, dN ys, dpN lmiB, dpN hiB, shaped_N _, shaped_N _, _, rfl, ?_⟩
    rw [eqvN15, decide_eq_true rfl]
    refine iteF ?_
    have lrB := lrow.ex eAB
    refine ⟨_, rfl, rw_, _, rfl, Or.inl lrB.sz, fun m3 hm3 => ?_⟩
    have lm3 : ListN (upd GB m3 (.lst (nI (torF ys zs ds ys.length)))) m3 (torF ys zs ds ys.length) := upd_same
    have eM3 := Ex.new (o := .lst (nI (torF ys zs ds ys.length))) hm3
    have AV3 := (AV9.mut fun x u _ h => eAB x u h).mut fun x u _ h => eM3 x u h
    refine ⟨_, rfl, m3, v, _, bits, bs2, rfl, lm3, G2', AV3.ruv, fun s3 ws GC hs3 eC ls3 M3 => ?_⟩
    have ez3 := Mr.uniq M3
    subst ez3
    have hgC : ListN GC go zs := (((hg8.ex e9).ex eAB).ex eM3).ex eC
    refine ⟨_, rfl, s3, go, zs, rfl, ls3, hgC, by omega, fun GD eD => ⟨true, rfl, ?_⟩⟩
    have e8D := ((e9.trans eAB).trans (eM3.trans eC)).trans eD
    have frw : H rw_ = none := by
      cases q : H rw_ with
      | none => rfl
      | some u =>
        by_cases z : rw_ = st
        · obtain ⟨r, s, t, hb, _⟩ := S8
          rw [z, hb] at hrw
          cases hrw
        · have := toG8 _ _ z (M1 _ _ z q)
          rw [hrw] at this
          cases this
    refine ⟨_, rfl, k rw_ _ bs2 GD frw (S8.ex e8D) (fun x u hx h => e8D _ _ (toG8 _ _ hx (M1 _ _ hx h))) (lrow.ex ((eAB.trans (eM3.trans eC)).trans eD)) tor_len G2' Mr⟩

end

section
variable {P : Program} {w : World} {K : PySem.W.Frag} {mg : Str → Option Value} {base : Heap} {A : Ad}
/-- what a repair leaves is settled -/
theorem settled {bits ys zs : List Nat} {bs : List Bk} (hb : bits ∈ stB) (G : Good ys bs) (M : Mend (chB bits) ys bs zs) : ∃ cs, Good zs cs ∧ ∀ b ∈ cs, b.1 < 2 := by
  have R : Row bits ys zs (difF ys zs ys.length) bs := ⟨hb, G, M, fun x h => by
    unfold difF at h
    rw [List.mem_filter, List.mem_range, decide_eq_true_eq] at h
    exact h⟩
  obtain ⟨cs, h1, _, h3⟩ := R.next
  have e : rowT ys zs (difF ys zs ys.length) = zs := by
    apply List.ext_getElem?
    intro x
    by_cases hx : x < ys.length
    · have g : ∀ l : List Nat, l.length = ys.length → l[x]? = some (l.getD x 0) := fun l hl => by
        rw [List.getD_eq_getElem?_getD, List.getElem?_eq_getElem (by omega)]
        rfl
      rw [g _ R.lenR, g _ M.len, R.at_ hx]
      congr 1
      split
      · rfl
      · rename_i c
        exact Decidable.byContradiction fun n => c (by
          unfold difF
          rw [List.mem_filter, List.mem_range, decide_eq_true_eq]
          exact ⟨hx, n⟩)
    · rw [List.getElem?_eq_none (by rw [R.lenR]; omega), List.getElem?_eq_none (by rw [M.len]; omega)]
  rw [e] at h1
  exact ⟨cs, h1, h3 fun x hx n => by
    unfold difF
    rw [List.mem_filter, List.mem_range, decide_eq_true_eq]
    exact ⟨hx, n⟩⟩
theorem dif_self {zs : List Nat} {i : Nat} : difF zs zs i = [] := by
  unfold difF
  rw [List.filter_eq_nil_iff]
  intro x _ h
  exact of_decide_eq_true h rfl
def spRst (A : Ad) : Sp := fun vs H Q _ => ∃ (go : Addr) (v : V) (zs bits : List Nat) (cs : List Bk), vs = [.ref go, v] ∧ ListN H go zs ∧ Good zs cs ∧ (∀ b ∈ cs, b.1 < 2) ∧ RuV A H v bits ∧ ∀ H', Ex H H' → Q (.bl true) H'
theorem ok_law_rests (T : Txt K mg A) (g_repair : OkdR P w K mg base A) (g_writes : Okd_writes P w K mg base A) (g_law_same : Okd P w K mg base CX0 2 A.law_same P_law_same spSm) : Okd P w K mg base CX0 9 A.law_rests P_law_rests (spRst A) := by
  obtain ⟨fd, F⟩ := T.d_law_rests
  obtain ⟨fd_repair, G_repair, ⟨ds1_repair, v1_repair, b1_repair⟩, ⟨ds2_repair, v2_repair, b2_repair⟩⟩ := g_repair
  obtain ⟨fd_writes, G_writes, ⟨ds1_writes, v1_writes, b1_writes⟩, ⟨ds2_writes, v2_writes, b2_writes⟩⟩ := g_writes
  obtain ⟨fd_law_same, G_law_same, b_law_same⟩ := g_law_same
  refine ⟨fd, F.ok sc_law_rests (fun vs H Q E h => ?_) (fun cdv A' outer s H vs Q E hr h => ?_), F.binds fun _ _ _ _ _ _ us hl => match us, hl with | [_, _], _ => rfl⟩
  · obtain ⟨go, v, zs, bits, cs, rfl, _⟩ := h
    rfl
  · obtain ⟨go, v, zs, bits, cs, rfl, hg, G, h2, RV, k⟩ := h
    refine ⟨_, (pss_one (ps_ret (pe_and (pe_call G_law_same (hr.mono (by decide)) (by rfl) T.g_law_same T.k_law_same b_law_same .nil pass0 (pa_cons (pe_call G_writes (hr.mono (by decide)) (by rfl) T.g_writes T.k_writes b2_writes v2_writes pass0 (pa_cons (pe_callTy call_list_of (by rfl) T.n_list (by decide +kernel) (pa_cons (pv 0) pa_nil)) (pa_cons (pv 1) pa_nil))) (pa_cons (pe_lst pa_nil) pa_nil))) (pe_one (pe_call G_law_same (hr.mono (by decide)) (by rfl) T.g_law_same T.k_law_same b_law_same .nil pass0 (pa_cons (pe_call G_repair (hr.mono (by decide)) (by rfl) T.g_repair T.k_repair b2_repair v2_repair pass0 (pa_cons (pe_callTy call_list_of (by rfl) T.n_list (by decide +kernel) (pa_cons (pv 0) pa_nil)) (pa_cons (pv 1) pa_nil))) (pa_cons (pv 0) pa_nil))))))), ?_⟩
    refine ⟨_, rfl, go, _, rfl, Or.inl hg.sz, fun m1 hm1 => ?_⟩
    have lm1 : ListN (upd H m1 (.lst (nI zs))) m1 zs := upd_same
    have e1 := Ex.new (o := .lst (nI zs)) hm1
    refine ⟨_, rfl, m1, v, zs, bits, cs, rfl, lm1, G, RV.ex e1, fun wr z1 H1 hwr e2 M1 lw => ?_⟩
    have ez := Row.done G h2 M1
    subst ez
    rw [dif_self] at lw
    refine ⟨(by show 0 ≤ sizeLine; decide), fun n0 hn0 => ?_⟩
    have e3 := Ex.new (o := .lst []) hn0
    refine ⟨wr, n0, [], rfl, lw.ex e3, upd_same, (by decide), fun H2 e4 => ?_⟩
    refine ⟨true, rfl, ?_⟩
    refine iteT ?_
    have eA := ((e1.trans e2).trans e3).trans e4
    have hgA := hg.ex eA
    refine ⟨_, rfl, go, _, rfl, Or.inl hgA.sz, fun m2 hm2 => ?_⟩
    have lm2 : ListN (upd H2 m2 (.lst (nI z1))) m2 z1 := upd_same
    have e5 := Ex.new (o := .lst (nI z1)) hm2
    refine ⟨_, rfl, m2, v, z1, bits, cs, rfl, lm2, G, (RV.ex eA).ex e5, fun rp z2 H3 hrp e6 lr M2 => ?_⟩
    have ez := Row.done G h2 M2
    subst ez
    have l64 := G.len
    exact ⟨_, rfl, rp, go, z2, rfl, lr, (hgA.ex e5).ex e6, l64, fun H4 e7 => k H4 (((eA.trans e5).trans e6).trans e7)⟩

end

section
variable {P : Program} {w : World} {K : PySem.W.Frag} {mg : Str → Option Value} {base : Heap} {A : Ad}
theorem Ru.uniq {A : Ad} {H : Hp} {a k k' : Addr} {b b' : List Nat} (R : Ru A H a k b) (R' : Ru A H a k' b') : k = k' := by
  obtain ⟨_, _, h, _⟩ := R
  obtain ⟨_, _, h', _⟩ := R'
  rw [h] at h'
  cases h'
  rfl
theorem Ru.dict {A : Ad} {H : Hp} {a k : Addr} {b : List Nat} (R : Ru A H a k b) : ∃ kvs, H k = some (.dK kvs) := by
  obtain ⟨_, kvs, _, h, _⟩ := R
  exact ⟨kvs, h⟩
def spLaw (K : PySem.W.Frag) : Sp := fun vs H Q _ => ∃ (a : Addr) (ns : List Int), vs = [.ref a] ∧ SqL K H a (ns.map V.int) ∧ ns.length ≤ 63 ∧ ∀ H', Q (.bl true) H'
theorem sqL_ex7 {K : PySem.W.Frag} {H H1 : Hp} {a : Addr} {ns : List Int} (e : Ex H H1) (h : SqL K H a (ns.map V.int)) : SqL K H1 a (ns.map V.int) := by
  rcases h with (h | ⟨o, h⟩) | h
  · exact .inl (.inl (e _ _ h))
  · exact .inl (.inr ⟨o, e _ _ h⟩)
  · exact .inr h
theorem mut_ex7 {b : Addr} {H G G' : Hp} (e : Ex H G) (hb : H b = none) (m : Mut b G G') : Ex H G' := fun x o ho => m x o (ne_of_none ho hb) (e x o ho)
theorem num_st : (stB.all fun bits => 2 * bits.getD 1 0 + 4 * bits.getD 2 0 + 16 * bits.getD 4 0 == numF bits) = true := by decide +kernel
theorem num_of {bits : List Nat} (hb : bits ∈ stB) : (2 : Int) * ((bits.getD 1 0 : Nat) : Int) + 4 * ((bits.getD 2 0 : Nat) : Int) + 16 * ((bits.getD 4 0 : Nat) : Int) = ((numF bits : Nat) : Int) := by
  have h := num_st
  rw [List.all_eq_true] at h
  have h := beq_iff_eq.mp (h bits hb)
  omega
theorem HeldN.ruv {A : Ad} {H0 H : Hp} {v : V} {c : Addr} {bs : List Nat} (h : HeldN A H0 H v c bs) : RuV A H v bs := h.v.imp id fun ⟨a, k, z, _, _, R⟩ => ⟨a, k, z, R⟩
theorem apv_of {A : Ad} {H G : Hp} {v : V} {bits : List Nat} {st : Addr} (h : RuV A H v bits) (e : Ex H G) (hs : H st = none) : ApV A G v bits st := h.imp id fun ⟨a, k, z, R⟩ => by
  obtain ⟨dx, ha⟩ := R.at
  obtain ⟨kvs, hk⟩ := R.dict
  exact ⟨a, k, z, R.ex e, ne_of_none ha hs, ne_of_none hk hs⟩
theorem all2_ex {H H1 : Hp} {p : Addr} {bs : List Bk} (e : Ex H H1) (h : All2 BlkAt H p bs) : All2 BlkAt H1 p bs := by
  obtain ⟨qs, h1, h2, h3⟩ := h
  exact ⟨qs, e _ _ h1, h2, fun j q b x y => (h3 j q b x y).ex e⟩
/-- an image and what it is to become -/
def Mor (bits : List Nat) (G : Hp) (im go : Addr) (ys zs : List Nat) : Prop := ListN G im ys ∧ ListN G go zs ∧ ∃ bs, Good ys bs ∧ Mend (chB bits) ys bs zs
theorem Mor.ex {bits : List Nat} {G G' : Hp} {im go : Addr} {ys zs : List Nat} (h : Mor bits G im go ys zs) (e : Ex G G') : Mor bits G' im go ys zs := ⟨h.1.ex e, h.2.1.ex e, h.2.2⟩
theorem st_two {bits : List Nat} (h : bits ∈ stB) {i : Nat} (hi : i < 5) : bits.getD i 0 < 2 := by
  have : (stB.all fun bits => (List.range 5).all fun i => decide (bits.getD i 0 < 2)) = true := by decide
  rw [List.all_eq_true] at this
  have := this bits h
  rw [List.all_eq_true] at this
  exact of_decide_eq_true (this i (List.mem_range.mpr hi))
theorem bits_st {bits : List Nat} (h : bits ∈ stB) : bits.length = 5 := by
  have : (stB.all fun bits => bits.length == 5) = true := by decide
  rw [List.all_eq_true] at this
  exact beq_iff_eq.mp (this bits h)
theorem ok_law {fd : FuncData} (T : Txt K mg A) (F : Fun K "law" "law" s_law A.law fd) (g_repair : OkdR P w K mg base A) (g_law_stream : Okd P w K mg base CX0 2 A.law_stream P_law_stream (spStrm K)) (g_law_draw : Okd P w K mg base CX0 1 A.law_draw P_law_draw spDraw) (g_law_size : Okd P w K mg base CX0 2 A.law_size P_law_size spSz) (g_law_build : Okd P w K mg base CX0 3 A.law_build P_law_build spBld) (g_law_steady : Okd P w K mg base CX0 8 A.law_steady P_law_steady (spStd A)) (g_law_goal : Okd P w K mg base CX0 2 A.law_goal P_law_goal spGoalB) (g_law_same : Okd P w K mg base CX0 2 A.law_same P_law_same spSm) (g_law_rests : Okd P w K mg base CX0 9 A.law_rests P_law_rests (spRst A)) (g_law_morning : Okd P w K mg base CX0 12 A.law_morning P_law_morning (spMor A)) (g_m_number : Okd P w K mg base CX0 1 A.m_number P_m_number (spNum A)) (g_law_integer : Okd P w K mg base CX0 1 A.law_integer P_law_integer spInt) : FnOk P w K mg base CX0 13 A.law fd P_law (spLaw K) := by
  obtain ⟨fd_repair, G_repair, ⟨ds1_repair, v1_repair, b1_repair⟩, ⟨ds2_repair, v2_repair, b2_repair⟩⟩ := g_repair
  obtain ⟨fd_law_stream, G_law_stream, b_law_stream⟩ := g_law_stream
  obtain ⟨fd_law_draw, G_law_draw, b_law_draw⟩ := g_law_draw
  obtain ⟨fd_law_size, G_law_size, b_law_size⟩ := g_law_size
  obtain ⟨fd_law_build, G_law_build, b_law_build⟩ := g_law_build
  obtain ⟨fd_law_steady, G_law_steady, b_law_steady⟩ := g_law_steady
  obtain ⟨fd_law_goal, G_law_goal, b_law_goal⟩ := g_law_goal
  obtain ⟨fd_law_same, G_law_same, b_law_same⟩ := g_law_same
  obtain ⟨fd_law_rests, G_law_rests, b_law_rests⟩ := g_law_rests
  obtain ⟨fd_law_morning, G_law_morning, b_law_morning⟩ := g_law_morning
  obtain ⟨fd_m_number, G_m_number, b_m_number⟩ := g_m_number
  obtain ⟨fd_law_integer, G_law_integer, b_law_integer⟩ := g_law_integer
  refine F.ok sc_law (fun vs H Q E h => ?_) (fun cdv A' outer s H vs Q E hr h => ?_)
  · obtain ⟨a, ns, rfl, _⟩ := h
    rfl
  · obtain ⟨a, ns, rfl, hs, hl, kk⟩ := h
    refine ⟨_, (pss_cons (ps_set (i := 1) sc_law.nd rfl (Or.inl rfl) (pe_call G_law_stream (hr.mono (by decide)) (by rfl) T.g_law_stream T.k_law_stream b_law_stream .nil pass0 (pa_cons (pv 0) (pa_cons pe_int pa_nil))))
      (pss_cons (ps_set (i := 2) sc_law.nd rfl (Or.inl rfl) (pe_cmpR op_eq (pe_call G_law_draw (hr.mono (by decide)) (by rfl) T.g_law_draw T.k_law_draw b_law_draw .nil pass0 (pa_cons (pv 1) (pa_cons pe_int pa_nil))) pe_int (nomark _)))
      (pss_cons (ps_set (i := 3) sc_law.nd rfl (Or.inl rfl) (pe_call G_law_size (hr.mono (by decide)) (by rfl) T.g_law_size T.k_law_size b_law_size .nil pass0 (pa_cons (pv 1) pa_nil)))
      (pss_cons (ps_set (i := 4) sc_law.nd rfl (Or.inl rfl) (pe_call G_law_draw (hr.mono (by decide)) (by rfl) T.g_law_draw T.k_law_draw b_law_draw .nil pass0 (pa_cons (pv 1) (pa_cons pe_int pa_nil))))
      (pss_cons (ps_set (i := 5) sc_law.nd rfl (Or.inl rfl) (pe_ix ix_list (pe_lst (pa_cons pe_int (pa_cons pe_int (pa_cons pe_int (pa_cons pe_int pa_nil))))) (pe_call G_law_draw (hr.mono (by decide)) (by rfl) T.g_law_draw T.k_law_draw b_law_draw .nil pass0 (pa_cons (pv 1) (pa_cons pe_int pa_nil))) (fun _ _ => rfl)))
      (pss_cons (ps_asg (pe_call G_law_build (hr.mono (by decide)) (by rfl) T.g_law_build T.k_law_build b_law_build .nil pass0 (pa_cons (pe_call G_law_stream (hr.mono (by decide)) (by rfl) T.g_law_stream T.k_law_stream b_law_stream .nil pass0 (pa_cons (pv 0) (pa_cons pe_int pa_nil))) (pa_cons (pv 3) (pa_cons (pe_lst pa_nil) (pa_cons (pv 2) (pa_cons pe_int pa_nil)))))) (pg_unl (by rfl) (pgs_cons (pg_name (i := 6) sc_law.nd rfl (Or.inl rfl)) (pgs_cons (pg_name (i := 7) sc_law.nd rfl (Or.inl rfl)) (pgs_cons (pg_name (i := 8) sc_law.nd rfl (Or.inl rfl)) pgs_nil)))))
      (pss_cons (ps_asg (pe_call G_law_steady (hr.mono (by decide)) (by rfl) T.g_law_steady T.k_law_steady b_law_steady .nil pass0 (pa_cons (pe_call G_law_stream (hr.mono (by decide)) (by rfl) T.g_law_stream T.k_law_stream b_law_stream .nil pass0 (pa_cons (pv 0) (pa_cons pe_int pa_nil))) pa_nil)) (pg_unl (by rfl) (pgs_cons (pg_name (i := 9) sc_law.nd rfl (Or.inl rfl)) (pgs_cons (pg_name (i := 10) sc_law.nd rfl (Or.inl rfl)) pgs_nil))))
      (pss_cons (ps_set (i := 11) sc_law.nd rfl (Or.inl rfl) (pe_call G_law_goal (hr.mono (by decide)) (by rfl) T.g_law_goal T.k_law_goal b_law_goal .nil pass0 (pa_cons (pv 6) (pa_cons (pv 7) (pa_cons (pv 10) pa_nil)))))
      (pss_cons (ps_if (pt_not (pt_val (pe_call G_law_same (hr.mono (by decide)) (by rfl) T.g_law_same T.k_law_same b_law_same .nil pass0 (pa_cons (pe_call G_repair (hr.mono (by decide)) (by rfl) T.g_repair T.k_repair b2_repair v2_repair pass0 (pa_cons (pe_callTy call_list_of (by rfl) T.n_list (by decide +kernel) (pa_cons (pv 6) pa_nil)) (pa_cons (pv 9) pa_nil))) (pa_cons (pv 11) pa_nil))))) (pss_one (ps_ret pe_bl)) pss_nil)
      (pss_cons (ps_for PassesOwn.never rfl (pi_range1 (by rfl) T.n_range (pa_cons (pv 4) pa_nil)) (pg_name (i := 12) sc_law.nd rfl (Or.inl rfl)) (pss_cons (ps_set (i := 13) sc_law.nd rfl (Or.inl rfl) (pe_call G_law_stream (hr.mono (by decide)) (by rfl) T.g_law_stream T.k_law_stream b_law_stream .nil pass0 (pa_cons (pv 0) (pa_cons (pe_op op_add pe_int (pv 12)) pa_nil))))
      (pss_cut (ps_if (pt_cmpR (op_eqD hr.units) (pv 6) (pv 11) (nomark _)) (pss_cons (ps_if (pt_not (pt_val (pe_call G_law_rests (hr.mono (by decide)) (by rfl) T.g_law_rests T.k_law_rests b_law_rests .nil pass0 (pa_cons (pv 11) (pa_cons (pv 9) pa_nil))))) (pss_one (ps_ret pe_bl)) pss_nil)
      (pss_cons (ps_asg (pe_call G_law_build (hr.mono (by decide)) (by rfl) T.g_law_build T.k_law_build b_law_build .nil pass0 (pa_cons (pv 13) (pa_cons (pv 3) (pa_cons (pe_lst pa_nil) (pa_cons (pv 2) (pa_cons pe_int pa_nil)))))) (pg_unl (by rfl) (pgs_cons (pg_name (i := 6) sc_law.nd rfl (Or.inl rfl)) (pgs_cons (pg_name (i := 7) sc_law.nd rfl (Or.inl rfl)) (pgs_cons (pg_name (i := 8) sc_law.nd rfl (Or.inl rfl)) pgs_nil)))))
      (pss_one (ps_set (i := 11) sc_law.nd rfl (Or.inl rfl) (pe_call G_law_goal (hr.mono (by decide)) (by rfl) T.g_law_goal T.k_law_goal b_law_goal .nil pass0 (pa_cons (pv 6) (pa_cons (pv 7) (pa_cons (pv 10) pa_nil)))))))) pss_nil)
      (pss_cons (ps_set (i := 6) sc_law.nd rfl (Or.inl rfl) (pe_call G_law_morning (hr.mono (by decide)) (by rfl) T.g_law_morning T.k_law_morning b_law_morning .nil pass0 (pa_cons (pv 13) (pa_cons (pv 6) (pa_cons (pv 11) (pa_cons (pv 9) (pa_cons (pv 5) pa_nil)))))))
      (pss_one (ps_if (pt_cmpR op_isN (pv 6) pe_non (nomark _)) (pss_one (ps_ret pe_bl)) pss_nil))))))
      (pss_cons (ps_if (PW.pt (pw_or (pt_not (pt_val (pe_call G_law_same (hr.mono (by decide)) (by rfl) T.g_law_same T.k_law_same b_law_same .nil pass0 (pa_cons (pe_call G_repair (hr.mono (by decide)) (by rfl) T.g_repair T.k_repair b2_repair v2_repair pass0 (pa_cons (pe_callTy call_list_of (by rfl) T.n_list (by decide +kernel) (pa_cons (pv 6) pa_nil)) (pa_cons (pv 9) pa_nil))) (pa_cons (pv 11) pa_nil))))) (pw_or1 (pt_not (pt_val (pe_call G_law_rests (hr.mono (by decide)) (by rfl) T.g_law_rests T.k_law_rests b_law_rests .nil pass0 (pa_cons (pv 11) (pa_cons (pv 9) pa_nil)))))))) (pss_one (ps_ret pe_bl)) pss_nil)
      (pss_cons (ps_if (pt_cmpR op_isN (pv 9) pe_non (nomark _)) (pss_one (ps_ret pe_bl)) pss_nil)
      (pss_cons (ps_set (i := 14) sc_law.nd rfl (Or.inl rfl) (pe_prop (pv 9) T.cR T.pp_number G_m_number (hr.mono (by decide)) b_m_number .nil pass0 rfl))
      (pss_one (ps_ret (pe_and (pe_call G_law_integer (hr.mono (by decide)) (by rfl) T.g_law_integer T.k_law_integer b_law_integer .nil pass0 (pa_cons (pv 14) pa_nil)) (pe_one (pe_cmpR op_eq (pv 14) (pe_op op_add (pe_op op_add (pe_op op_mul pe_int (pe_ix ix_list (pv 10) pe_int (fun _ _ => rfl))) (pe_op op_mul pe_int (pe_ix ix_list (pv 10) pe_int (fun _ _ => rfl)))) (pe_op op_mul pe_int (pe_ix ix_list (pv 10) pe_int (fun _ _ => rfl)))) (nomark _))))))))))))))))))), ?_⟩
    refine ⟨_, rfl, a, ns, 0, rfl, by decide, hs, fun st H1 hst e1 S1 => ?_⟩
    refine ⟨_, rfl, st, 3, rfl, by decide, by decide, S1, fun ba H2 _ _ S2 M2 => ⟨rfl, ?_⟩⟩
    refine ⟨_, rfl, st, rfl, S2, fun n H3 n64 S3 M3 => ?_⟩
    refine ⟨_, rfl, st, 31, rfl, by decide, by decide, S3, fun mo H4 mo0 mo1 S4 M4 => ?_⟩
    obtain ⟨mo, rfl⟩ := Int.eq_ofNat_of_zero_le mo0
    refine ⟨(by show 4 ≤ sizeLine; decide), fun ml hml => ?_⟩
    have lml : ListN (upd H4 ml (.lst (nI [1, 2, 4, 8]))) ml [1, 2, 4, 8] := upd_same
    have eml := Ex.new (o := .lst (nI [1, 2, 4, 8])) hml
    have nml := S4.ne hml
    refine ⟨_, rfl, st, 4, rfl, by decide, by decide, S4.ex eml, fun mi H5 mi0 mi1 S5 M5 => ?_⟩
    obtain ⟨mi, rfl⟩ := Int.eq_ofNat_of_zero_le mi0
    have lml5 : ListN H5 ml [1, 2, 4, 8] := M5 _ _ nml lml
    have hmi : mi < 4 := by omega
    refine ⟨ml, _, _, _, rfl, rfl, lml5.sz, atN (show mi < [1, 2, 4, 8].length from hmi), ?_⟩
    have most8 : [1, 2, 4, 8].getD mi 0 ≤ 8 := by
      have : ∀ i, i < 4 → [1, 2, 4, 8].getD i 0 ≤ 8 := by decide
      exact this mi hmi
    generalize [1, 2, 4, 8].getD mi 0 = most at most8 ⊢
    generalize decide (V.int ba = V.int 0) = bare
    have e5 : Ex H H5 := mut_ex7 e1 hst (((M2.trans M3).trans M4).trans ((Mut.of_ex eml).trans M5))
    refine ⟨_, rfl, a, ns, 1, rfl, by decide, sqL_ex7 e5 hs, fun s1 H6 hs1 e6 T1 => ?_⟩
    refine ⟨_, rfl, (by show 0 ≤ sizeLine; decide), fun br hbr => ?_⟩
    have eBr := Ex.new (o := .lst []) hbr
    have hbr0 : upd H6 br (.lst []) br = some (.lst []) := upd_same
    generalize upd H6 br (.lst []) = H7 at eBr hbr0 ⊢
    refine ⟨_, rfl, s1, br, n, bare, 64, rfl, n64, T1.ex eBr, hbr0, fun p q r l ys bs H8 hp hq T8 M8 hpl lq yl hB G => ?_⟩
    refine ⟨p, _, rfl, SqL.of hpl, rfl, _, _, rfl, _, _, rfl, _, _, rfl, rfl, ?_⟩
    have e8 : Ex H H8 := mut_ex7 ((e5.trans e6).trans eBr) (back_none e5 hs1) M8
    refine ⟨_, rfl, a, ns, 2, rfl, by decide, sqL_ex7 e8 hs, fun s2 H9 hs2 e9 T9 => ?_⟩
    refine ⟨s2, rfl, T9, fun q2 v c bits HA hq2 TA MA hq2l HN hb => ?_⟩
    refine ⟨q2, _, rfl, SqL.of hq2l, rfl, _, _, rfl, _, _, rfl, rfl, ?_⟩
    have e9A : Ex H8 HA := mut_ex7 e9 hs2 MA
    have lqA := lq.ex e9A
    have hBA := all2_ex e9A hB
    have hbk := G.built
    refine ⟨_, rfl, _, rfl, _, rfl, q, r, c, ys, bits, bs, rfl, lqA, (fun b hb => ⟨(hbk.blk b hb).w, (hbk.blk b hb).len, fun x hx => hbk.lt hb hx⟩), hBA, HN.l, bits_st hb, fun go HB hgo eB lgo => ?_⟩
    have MM := goal_Mend hb hbk
    have RVA := HN.ruv
    have lqB := lqA.ex eB
    have zl := MM.len
    refine ⟨_, rfl, q, _, rfl, Or.inl lqB.sz, fun m1 hm1 => ?_⟩
    have lm1 : ListN (upd HB m1 (.lst (nI ys))) m1 ys := upd_same
    have eM1 := Ex.new (o := .lst (nI ys)) hm1
    refine ⟨_, rfl, m1, v, ys, bits, bs, rfl, lm1, G, (RVA.ex eB).ex eM1, fun rp z1 HC hrp eC lrp M1' => ?_⟩
    have ez := MM.uniq M1'
    generalize goalG ys bits bs = zs at lgo MM zl ez
    subst ez
    have l64 := G.len
    have eBC := eM1.trans eC
    refine ⟨_, rfl, rp, go, _, rfl, lrp, lgo.ex eBC, by omega, fun HD eD => ⟨true, rfl, ?_⟩⟩
    have eBD := eBC.trans eD
    have eAD := eB.trans eBD
    have eHD : Ex H HD := (e8.trans e9A).trans eAD
    have RVD := RVA.ex eAD
    have lcD := HN.l.ex eAD
    have mor0 : Mor bits HD q go ys zs := ⟨lqB.ex eBD, lgo.ex eBD, bs, G, MM⟩
    refine ⟨_, rfl, _, rfl, by omega, by omega, ?_⟩
    rw [Int.toNat_natCast]
    refine for_range (lo := 0) (n := mo) (fun t σ G => ∃ (im go : Addr) (v7 v8 v12 v13 : Option V) (ys zs : List Nat), σ = [some (.ref a), some (.ref st), some (.bl bare), some (.int (n : Int)), some (.int (mo : Int)), some (.int (most : Int)), some (.ref im), v7, v8, some v, some (.ref c), some (.ref go), v12, v13, none] ∧ Ex HD G ∧ Mor bits G im go ys zs) ⟨q, go, _, _, none, none, ys, zs, rfl, Ex.refl _, mor0⟩ ?_ ?_
    · rintro t σ G1 ht ⟨im, go, v7, v8, v12, v13, ys, zs, rfl, eG, mor⟩
      rw [Int.zero_add]
      refine ⟨_, rfl, _, rfl, _, _, rfl, rfl, a, ns, 3 + t, (by rw [Int.natCast_add]; rfl), by omega, sqL_ex7 (eHD.trans eG) hs, fun sb G2 hsb e2 SB => ?_⟩
      have mor2 := mor.ex e2
      obtain ⟨li1, lg1, bs1, G1', M1''⟩ := mor
      have nis : im ≠ sb := ne_of_none li1 hsb
      have ngs : go ≠ sb := ne_of_none lg1 hsb
      have fsb : HD sb = none := back_none eG hsb
      refine ⟨fun σ G => ∃ (im go : Addr) (v7 v8 : Option V) (ys zs : List Nat), σ = [some (.ref a), some (.ref st), some (.bl bare), some (.int (n : Int)), some (.int (mo : Int)), some (.int (most : Int)), some (.ref im), v7, v8, some v, some (.ref c), some (.ref go), some (.int (t : Int)), some (.ref sb), none] ∧ Ex HD G ∧ Strm G sb ∧ im ≠ sb ∧ go ≠ sb ∧ Mor bits G im go ys zs, ?_, ?_⟩
      · have mor2' := mor2
        obtain ⟨li2, lg2, _⟩ := mor2'
        refine ⟨_, rfl, _, rfl, dN ys, dN zs, dpN li2, dpN lg2, shaped_N _, shaped_N _, _, rfl, ?_⟩
        rw [eqvN15]
        refine ite_b (fun _ => ?_) (fun _ => ⟨im, go, v7, v8, ys, zs, rfl, eG.trans e2, SB, nis, ngs, mor2⟩)
        obtain ⟨cs, Gc, c2⟩ := settled hb G1' M1''
        have e2' := eG.trans e2
        refine ⟨_, rfl, _, rfl, go, v, zs, bits, cs, rfl, lg2, Gc, c2, RVD.ex e2', fun G3 e3 => ⟨true, rfl, ?_⟩⟩
        have e3' := e2'.trans e3
        have SB3 := SB.ex e3
        refine ⟨_, rfl, _, rfl, (by show 0 ≤ sizeLine; decide), fun br2 hbr2 => ?_⟩
        have eb2 := Ex.new (o := .lst []) hbr2
        have hb2 : upd G3 br2 (.lst []) br2 = some (.lst []) := upd_same
        generalize upd G3 br2 (.lst []) = G4 at eb2 hb2 ⊢
        refine ⟨_, rfl, sb, br2, n, bare, 64, rfl, n64, SB3.ex eb2, hb2, fun p2 q3 r2 l2 ys2 bs2 G5 hp2 hq3 SB5 M5' hpl2 lq2 yl2 hB2 GG2 => ?_⟩
        refine ⟨p2, _, rfl, SqL.of hpl2, rfl, _, _, rfl, _, _, rfl, _, _, rfl, rfl, ?_⟩
        have e5' : Ex HD G5 := mut_ex7 (e3'.trans eb2) fsb M5'
        have hbk2 := GG2.built
        refine ⟨_, rfl, _, rfl, _, rfl, q3, r2, c, ys2, bits, bs2, rfl, lq2, (fun b hb => ⟨(hbk2.blk b hb).w, (hbk2.blk b hb).len, fun x hx => hbk2.lt hb hx⟩), hB2, lcD.ex e5', bits_st hb, fun go2 G6 hgo2 e6' lgo2 => ?_⟩
        exact ⟨q3, go2, _, _, ys2, goalG ys2 bits bs2, rfl, e5'.trans e6', SB5.ex e6', (SB3.ex eb2).ne hq3, SB5.ne hgo2, lq2.ex e6', lgo2, bs2, GG2, goal_Mend hb hbk2⟩
      rintro σ G3 ⟨im, go, v7, v8, ys, zs, rfl, e3, SB3, nis, ngs, li, lg, bs3, GG, MG⟩
      refine ⟨_, rfl, _, rfl, _, rfl, _, rfl, _, rfl, sb, im, go, v, ys, zs, bits, bs3, most, rfl, SB3, li, lg, nis, ngs, apv_of RVD e3 fsb, GG, hb, MG, most8, fun p3 ys3 bs4 G4 hp3 SB4 M4' lp3 _ GG3 MG3 => ?_⟩
      refine ⟨_, rfl, rfl, _, rfl, ?_⟩
      refine iteF ?_
      exact ⟨p3, go, _, _, _, _, ys3, zs, rfl, mut_ex7 e3 fsb M4', lp3, M4' _ _ ngs lg, bs4, GG3, MG3⟩
    · rintro σ G1 ⟨im, go, v7, v8, v12, v13, ys, zs, rfl, eG, li, lg, bs3, GG, MG⟩
      have zl2 := MG.len
      have l642 := GG.len
      refine ⟨_, rfl, im, _, rfl, Or.inl li.sz, fun m2 hm2 => ?_⟩
      have lm2 : ListN (upd G1 m2 (.lst (nI ys))) m2 ys := upd_same
      have eM2 := Ex.new (o := .lst (nI ys)) hm2
      refine ⟨_, rfl, m2, v, ys, bits, bs3, rfl, lm2, GG, (RVD.ex eG).ex eM2, fun rp2 z2 G2 hrp2 e2 lrp2 M2' => ?_⟩
      have ez2 := MG.uniq M2'
      subst ez2
      have e12 := eM2.trans e2
      refine ⟨_, rfl, rp2, go, _, rfl, lrp2, lg.ex e12, by omega, fun G3 e3 => ⟨true, rfl, ?_⟩⟩
      obtain ⟨cs, Gc, c2⟩ := settled hb GG MG
      have e13 := e12.trans e3
      have eD3 := eG.trans e13
      refine ⟨_, rfl, _, rfl, go, v, zs, bits, cs, rfl, lg.ex e13, Gc, c2, RVD.ex eD3, fun G4 e4 => ⟨true, rfl, ?_⟩⟩
      have eD4 := eD3.trans e4
      rcases RVD with ⟨rfl, _⟩ | ⟨ra, rk, rfl, RU⟩
      · refine ⟨_, rfl, rfl, _, rfl, ?_⟩
        refine iteT ?_
        exact kk _
      · refine ⟨_, rfl, rfl, _, rfl, ?_⟩
        refine iteF ?_
        have RU4 := RU.ex eD4
        obtain ⟨dx, hra⟩ := RU4.at
        refine ⟨_, rfl, ra, dx, _, rfl, hra, ra, rk, bits, rfl, RU4, fun G5 e5 => ?_⟩
        refine ⟨_, rfl, _, rfl, ?_⟩
        refine ⟨true, rfl, ?_⟩
        refine iteT ?_
        have lc5 := (lcD.ex eD4).ex e5
        have b5 := bits_st hb
        have q1 := st_two hb (show 1 < 5 by decide)
        have q2 := st_two hb (show 2 < 5 by decide)
        have q4 := st_two hb (show 4 < 5 by decide)
        refine ⟨_, rfl, _, rfl, c, _, _, _, rfl, rfl, lc5.sz, (show atI (nI bits) ((1 : Nat) : Int) = some (V.int ((bits.getD 1 0 : Nat) : Int)) from atN (by omega)), _, _, rfl, rfl, Or.inl ⟨by omega, by omega⟩, _, rfl, c, _, _, _, rfl, rfl, lc5.sz, (show atI (nI bits) ((2 : Nat) : Int) = some (V.int ((bits.getD 2 0 : Nat) : Int)) from atN (by omega)), _, _, rfl, rfl, Or.inl ⟨by omega, by omega⟩, _, _, rfl, rfl, _, rfl, c, _, _, _, rfl, rfl, lc5.sz, (show atI (nI bits) ((4 : Nat) : Int) = some (V.int ((bits.getD 4 0 : Nat) : Int)) from atN (by omega)), _, _, rfl, rfl, Or.inl ⟨by omega, by omega⟩, _, _, rfl, rfl, rfl, ?_⟩
        rw [show (fun i j => V.int (i + j)) ((2 : Int) * ((bits.getD 1 0 : Nat) : Int) + 4 * ((bits.getD 2 0 : Nat) : Int)) (16 * ((bits.getD 4 0 : Nat) : Int)) = V.int ((numF bits : Nat) : Int) from congrArg V.int (num_of hb), decide_eq_true rfl]
        exact kk _

end
end Pv
namespace Pv
open PySem L2 Evl
theorem all_mk {l : PySem.W.OpenLaw} {w : World} {K : PySem.W.Frag} {h : Heap} {mg : Str → Option Value} {fa f_own f_check_image f_groups f_least_records f_pieces f_is_repairable f_torn_pieces f_piece_of f_row_of f_m_init kd_in f_m_number f_m_change f_m_copy f_m_numbered f_or_standard f_repair dt_repair f_writes dt_writes f_torn_repair kd_torn_repair f_choices f_chosen f_law_integer f_law_same f_law_cell f_law_stream f_law_draw f_law_size f_law_order f_law_length f_law_part f_law_shown f_law_mended f_law_goal f_law_words f_law_build f_law_steady f_law_some f_law_torn f_law_morning f_law_rests f_law c_WORDS c_WHOLE c_FORMS c_CHOICES wk0 wk1 wk2 wk3 wk4 kk0 kk1 kk2 kk3 kk4 kk5 kk6 kk7 ck0 ck1 ck2 ck3 ck4 ck5 ca0 ca1 ca2 ca3 ca4 ca5 cb0 cb1 cb2 cb3 cb4 cb5 c_MendError N_MendError_ c_InvalidNumber N_InvalidNumber_ i_InvalidNumber c_InvalidRules N_InvalidRules_ i_InvalidRules c_Rules c_NAMES p_number p_numbered : Addr}
    {od_own an_own od_check_image an_check_image od_groups an_groups od_least_records an_least_records od_pieces an_pieces od_is_repairable an_is_repairable od_torn_pieces an_torn_pieces od_piece_of an_piece_of od_row_of an_row_of od_m_init an_m_init od_m_number an_m_number od_m_change an_m_change od_m_copy an_m_copy od_m_numbered an_m_numbered od_or_standard an_or_standard od_repair an_repair od_dt_repair od_writes an_writes od_dt_writes od_torn_repair an_torn_repair od_choices an_choices od_chosen an_chosen od_law_integer an_law_integer od_law_same an_law_same od_law_cell an_law_cell od_law_stream an_law_stream od_law_draw an_law_draw od_law_size an_law_size od_law_order an_law_order od_law_length an_law_length od_law_part an_law_part od_law_shown an_law_shown od_law_mended an_law_mended od_law_goal an_law_goal od_law_words an_law_words od_law_build an_law_build od_law_steady an_law_steady od_law_some an_law_some od_law_torn an_law_torn od_law_morning an_law_morning od_law_rests an_law_rests od_law an_law wod0 wod1 wod2 wod3 wod4 odc_WHOLE odF0 odF1 odF2 odF3 odF4 odF5 odF6 odF7 cod0 cod1 cod2 cod3 cod4 cod5 coa0 coa1 coa2 coa3 coa4 coa5 cob0 cob1 cob2 cob3 cob4 cob5 dd_MendError dd_InvalidNumber od_i_InvalidNumber an_i_InvalidNumber dd_InvalidRules od_i_InvalidRules an_i_InvalidRules : Option Addr}
    {sl_own sl_check_image sl_groups sl_least_records sl_pieces sl_is_repairable sl_torn_pieces sl_piece_of sl_row_of sl_m_init sl_m_number sl_m_change sl_m_copy sl_m_numbered sl_or_standard sl_repair sl_dt_repair sl_writes sl_dt_writes sl_torn_repair sl_choices sl_chosen sl_law_integer sl_law_same sl_law_cell sl_law_stream sl_law_draw sl_law_size sl_law_order sl_law_length sl_law_part sl_law_shown sl_law_mended sl_law_goal sl_law_words sl_law_build sl_law_steady sl_law_some sl_law_torn sl_law_morning sl_law_rests sl_law wsl0 wsl1 wsl2 wsl3 wsl4 slc_WHOLE slF0 slF1 slF2 slF3 slF4 slF5 slF6 slF7 csl0 csl1 csl2 csl3 csl4 csl5 csa0 csa1 csa2 csa3 csa4 csa5 csb0 csb1 csb2 csb3 csb4 csb5 sl_i_InvalidNumber sl_i_InvalidRules slNM : Array (Option Value)}
    {oc_own doc_own pm_own cd_own ct_own kV_own oc_check_image doc_check_image pm_check_image cd_check_image ct_check_image kV_check_image oc_groups doc_groups pm_groups cd_groups ct_groups kV_groups oc_least_records doc_least_records pm_least_records cd_least_records ct_least_records kV_least_records oc_pieces doc_pieces pm_pieces cd_pieces ct_pieces kV_pieces oc_is_repairable doc_is_repairable pm_is_repairable cd_is_repairable ct_is_repairable kV_is_repairable oc_torn_pieces doc_torn_pieces pm_torn_pieces cd_torn_pieces ct_torn_pieces kV_torn_pieces oc_piece_of doc_piece_of pm_piece_of cd_piece_of ct_piece_of kV_piece_of oc_row_of doc_row_of pm_row_of cd_row_of ct_row_of kV_row_of oc_m_init doc_m_init pm_m_init cd_m_init ct_m_init oc_m_number doc_m_number pm_m_number cd_m_number ct_m_number kV_m_number oc_m_change doc_m_change pm_m_change cd_m_change ct_m_change kV_m_change oc_m_copy doc_m_copy pm_m_copy cd_m_copy ct_m_copy kV_m_copy oc_m_numbered doc_m_numbered pm_m_numbered cd_m_numbered ct_m_numbered kV_m_numbered oc_or_standard doc_or_standard pm_or_standard cd_or_standard ct_or_standard kV_or_standard oc_repair doc_repair pm_repair cd_repair ct_repair kV_repair oc_writes doc_writes pm_writes cd_writes ct_writes kV_writes oc_torn_repair doc_torn_repair pm_torn_repair cd_torn_repair ct_torn_repair oc_choices doc_choices pm_choices cd_choices ct_choices kV_choices oc_chosen doc_chosen pm_chosen cd_chosen ct_chosen kV_chosen oc_law_integer doc_law_integer pm_law_integer cd_law_integer ct_law_integer kV_law_integer oc_law_same doc_law_same pm_law_same cd_law_same ct_law_same kV_law_same oc_law_cell doc_law_cell pm_law_cell cd_law_cell ct_law_cell kV_law_cell oc_law_stream doc_law_stream pm_law_stream cd_law_stream ct_law_stream kV_law_stream oc_law_draw doc_law_draw pm_law_draw cd_law_draw ct_law_draw kV_law_draw oc_law_size doc_law_size pm_law_size cd_law_size ct_law_size kV_law_size oc_law_order doc_law_order pm_law_order cd_law_order ct_law_order kV_law_order oc_law_length doc_law_length pm_law_length cd_law_length ct_law_length kV_law_length oc_law_part doc_law_part pm_law_part cd_law_part ct_law_part kV_law_part oc_law_shown doc_law_shown pm_law_shown cd_law_shown ct_law_shown kV_law_shown oc_law_mended doc_law_mended pm_law_mended cd_law_mended ct_law_mended kV_law_mended oc_law_goal doc_law_goal pm_law_goal cd_law_goal ct_law_goal kV_law_goal oc_law_words doc_law_words pm_law_words cd_law_words ct_law_words kV_law_words oc_law_build doc_law_build pm_law_build cd_law_build ct_law_build kV_law_build oc_law_steady doc_law_steady pm_law_steady cd_law_steady ct_law_steady kV_law_steady oc_law_some doc_law_some pm_law_some cd_law_some ct_law_some kV_law_some oc_law_torn doc_law_torn pm_law_torn cd_law_torn ct_law_torn kV_law_torn oc_law_morning doc_law_morning pm_law_morning cd_law_morning ct_law_morning kV_law_morning oc_law_rests doc_law_rests pm_law_rests cd_law_rests ct_law_rests kV_law_rests oc_law doc_law pm_law cd_law ct_law kV_law oc_i_InvalidNumber kV_i_InvalidNumber doc_i_InvalidNumber pm_i_InvalidNumber cd_i_InvalidNumber ct_i_InvalidNumber oc_i_InvalidRules kV_i_InvalidRules doc_i_InvalidRules pm_i_InvalidRules cd_i_InvalidRules ct_i_InvalidRules : Value}
    {dt0 dt1 dt2 dt3 dt4 wt0 wt1 wt2 wt3 wt4 wx0 wx1 wx2 wx3 wx4 wy0 wy1 wy2 wy3 wy4 tWHOLE_0 tWHOLE_1 tF0 tF1 tF2 tF3 tF4 tF5 tF6 tF7 aF0_0 aF1_0 aF1_1 aF2_0 aF2_1 aF3_0 aF3_1 aF3_2 aF4_0 aF4_1 aF4_2 aF5_0 aF5_1 aF5_2 aF5_3 aF6_0 aF6_1 aF6_2 aF6_3 aF7_0 aF7_1 aF7_2 aF7_3 ct0 ct1 ct2 ct3 ct4 ct5 c0_0_0 c0_0_1 c0_1_0 c0_1_1 c1_0_0 c1_0_1 c1_0_2 c1_1_0 c1_1_1 c1_1_2 c2_0_0 c2_0_1 c2_0_2 c2_1_0 c2_1_1 c2_1_2 c3_0_0 c3_0_1 c3_0_2 c3_0_3 c3_1_0 c3_1_1 c3_1_2 c3_1_3 c4_0_0 c4_0_1 c4_0_2 c4_0_3 c4_1_0 c4_1_1 c4_1_2 c4_1_3 c5_0_0 c5_0_1 c5_0_2 c5_0_3 c5_1_0 c5_1_1 c5_1_2 c5_1_3 ct32 nt0 nt1 nt2 nt3 nt4 : Tok}
    {n_dt_repair n_dt_writes wep wn0 wn1 wn2 wn3 wn4 nc_WHOLE epF nF0 nF1 nF2 nF3 nF4 nF5 nF6 nF7 cep cn0 cn1 cn2 cn3 cn4 cn5 cna0 cna1 cna2 cna3 cna4 cna5 cnb0 cnb1 cnb2 cnb3 cnb4 cnb5 nNM : Nat}
    {nm_MendError q_MendError nm_InvalidNumber q_InvalidNumber nm_InvalidRules q_InvalidRules : Str}
    {bs_MendError sub_MendError bm_MendError bs_InvalidNumber sub_InvalidNumber bs_InvalidRules sub_InvalidRules rr_number rr_numbered : List Value}
    {sn_MendError sn_InvalidNumber sn_InvalidRules : List Str}
    {ab_MendError ab_InvalidNumber ab_InvalidRules : Bool}
    {col_MendError col_InvalidNumber col_InvalidRules : Option Bool}
    {k0_MendError k1_MendError k2_MendError k3_MendError k5_MendError k0_InvalidNumber k1_InvalidNumber k2_InvalidNumber k3_InvalidNumber k5_InvalidNumber k0_InvalidRules k1_InvalidRules k2_InvalidRules k3_InvalidRules k5_InvalidRules : Option Value}
    (X : K.In h) (G : h.Ns mainGlobals mg) (hfa : mg "law" = some (.ref fa))
    (a_Rules : PySem.W.nsIn K mainGlobals "Rules" = some (some (.ref c_Rules)))
    (rm2 : PySem.W.findIn K (.ref c_Rules) "__init__" = some (some (.ref f_m_init)))
    (me_change : PySem.W.findIn K (.ref c_Rules) "change" = some (some (.ref f_m_change)))
    (me_copy : PySem.W.findIn K (.ref c_Rules) "copy" = some (some (.ref f_m_copy)))
    (pa_number : PySem.W.findIn K (.ref c_Rules) "number" = some (some (.ref p_number)))
    (pd_number : PySem.W.recIn K p_number "property" = some (.ref f_m_number :: rr_number))
    (u1 : PySem.W.findCls K (.ref c_Rules) (.type "type") "numbered" = some (.get (.builtin "classmethod.__get__") (.ref p_numbered) .none (.ref c_Rules)))
    (u2 : PySem.W.recIn K p_numbered "classmethod" = some (.ref f_m_numbered :: rr_numbered))
    (a_own : PySem.W.nsIn K mainGlobals "_own" = some (some (.ref f_own)))
    (l_own : K.lookup f_own = some ⟨oc_own, od_own, .func (PySem.W.fnOf "_own" "_own" (defArgs s_own) (defBody s_own) (defScope s_own) .none kV_own doc_own pm_own an_own cd_own ct_own), sl_own⟩)
    (cd_is_own : PySem.W.codeIn K cd_own "_own" = true)
    (k_own : PySem.W.keepIn K (.ref f_own) = true)
    (a_check_image : PySem.W.nsIn K mainGlobals "check_image" = some (some (.ref f_check_image)))
    (l_check_image : K.lookup f_check_image = some ⟨oc_check_image, od_check_image, .func (PySem.W.fnOf "check_image" "check_image" (defArgs s_check_image) (defBody s_check_image) (defScope s_check_image) .none kV_check_image doc_check_image pm_check_image an_check_image cd_check_image ct_check_image), sl_check_image⟩)
    (cd_is_check_image : PySem.W.codeIn K cd_check_image "check_image" = true)
    (k_check_image : PySem.W.keepIn K (.ref f_check_image) = true)
    (a_groups : PySem.W.nsIn K mainGlobals "groups" = some (some (.ref f_groups)))
    (l_groups : K.lookup f_groups = some ⟨oc_groups, od_groups, .func (PySem.W.fnOf "groups" "groups" (defArgs s_groups) (defBody s_groups) (defScope s_groups) .none kV_groups doc_groups pm_groups an_groups cd_groups ct_groups), sl_groups⟩)
    (cd_is_groups : PySem.W.codeIn K cd_groups "groups" = true)
    (k_groups : PySem.W.keepIn K (.ref f_groups) = true)
    (a_least_records : PySem.W.nsIn K mainGlobals "_least_records" = some (some (.ref f_least_records)))
    (l_least_records : K.lookup f_least_records = some ⟨oc_least_records, od_least_records, .func (PySem.W.fnOf "_least_records" "_least_records" (defArgs s_least_records) (defBody s_least_records) (defScope s_least_records) .none kV_least_records doc_least_records pm_least_records an_least_records cd_least_records ct_least_records), sl_least_records⟩)
    (cd_is_least_records : PySem.W.codeIn K cd_least_records "_least_records" = true)
    (k_least_records : PySem.W.keepIn K (.ref f_least_records) = true)
    (a_pieces : PySem.W.nsIn K mainGlobals "pieces" = some (some (.ref f_pieces)))
    (l_pieces : K.lookup f_pieces = some ⟨oc_pieces, od_pieces, .func (PySem.W.fnOf "pieces" "pieces" (defArgs s_pieces) (defBody s_pieces) (defScope s_pieces) .none kV_pieces doc_pieces pm_pieces an_pieces cd_pieces ct_pieces), sl_pieces⟩)
    (cd_is_pieces : PySem.W.codeIn K cd_pieces "pieces" = true)
    (k_pieces : PySem.W.keepIn K (.ref f_pieces) = true)
    (a_is_repairable : PySem.W.nsIn K mainGlobals "is_repairable" = some (some (.ref f_is_repairable)))
    (l_is_repairable : K.lookup f_is_repairable = some ⟨oc_is_repairable, od_is_repairable, .func (PySem.W.fnOf "is_repairable" "is_repairable" (defArgs s_is_repairable) (defBody s_is_repairable) (defScope s_is_repairable) .none kV_is_repairable doc_is_repairable pm_is_repairable an_is_repairable cd_is_repairable ct_is_repairable), sl_is_repairable⟩)
    (cd_is_is_repairable : PySem.W.codeIn K cd_is_repairable "is_repairable" = true)
    (k_is_repairable : PySem.W.keepIn K (.ref f_is_repairable) = true)
    (a_torn_pieces : PySem.W.nsIn K mainGlobals "torn_pieces" = some (some (.ref f_torn_pieces)))
    (l_torn_pieces : K.lookup f_torn_pieces = some ⟨oc_torn_pieces, od_torn_pieces, .func (PySem.W.fnOf "torn_pieces" "torn_pieces" (defArgs s_torn_pieces) (defBody s_torn_pieces) (defScope s_torn_pieces) .none kV_torn_pieces doc_torn_pieces pm_torn_pieces an_torn_pieces cd_torn_pieces ct_torn_pieces), sl_torn_pieces⟩)
    (cd_is_torn_pieces : PySem.W.codeIn K cd_torn_pieces "torn_pieces" = true)
    (k_torn_pieces : PySem.W.keepIn K (.ref f_torn_pieces) = true)
    (a_piece_of : PySem.W.nsIn K mainGlobals "_piece_of" = some (some (.ref f_piece_of)))
    (l_piece_of : K.lookup f_piece_of = some ⟨oc_piece_of, od_piece_of, .func (PySem.W.fnOf "_piece_of" "_piece_of" (defArgs s_piece_of) (defBody s_piece_of) (defScope s_piece_of) .none kV_piece_of doc_piece_of pm_piece_of an_piece_of cd_piece_of ct_piece_of), sl_piece_of⟩)
    (cd_is_piece_of : PySem.W.codeIn K cd_piece_of "_piece_of" = true)
    (k_piece_of : PySem.W.keepIn K (.ref f_piece_of) = true)
    (a_row_of : PySem.W.nsIn K mainGlobals "_row_of" = some (some (.ref f_row_of)))
    (l_row_of : K.lookup f_row_of = some ⟨oc_row_of, od_row_of, .func (PySem.W.fnOf "_row_of" "_row_of" (defArgs s_row_of) (defBody s_row_of) (defScope s_row_of) .none kV_row_of doc_row_of pm_row_of an_row_of cd_row_of ct_row_of), sl_row_of⟩)
    (cd_is_row_of : PySem.W.codeIn K cd_row_of "_row_of" = true)
    (k_row_of : PySem.W.keepIn K (.ref f_row_of) = true)
    (l_m_init : K.lookup f_m_init = some ⟨oc_m_init, od_m_init, .func (PySem.W.fnOf "__init__" "Rules.__init__" (defArgs s_m_init) (defBody s_m_init) (defScope s_m_init) .none (.ref kd_in) doc_m_init pm_m_init an_m_init cd_m_init ct_m_init), sl_m_init⟩)
    (cd_is_m_init : PySem.W.codeIn K cd_m_init "Rules.__init__" = true)
    (k_m_init : PySem.W.keepIn K (.ref f_m_init) = true)
    (kd_hook : PySem.W.nsIn K kd_in "hook" = some (some (.str "back" dt0)))
    (kd_relay : PySem.W.nsIn K kd_in "relay" = some (some (.str "near" dt1)))
    (kd_clamp : PySem.W.nsIn K kd_in "clamp" = some (some (.str "inner" dt2)))
    (kd_trail : PySem.W.nsIn K kd_in "trail" = some (some (.str "near" dt3)))
    (kd_wheel : PySem.W.nsIn K kd_in "wheel" = some (some (.str "even" dt4)))
    (l_m_number : K.lookup f_m_number = some ⟨oc_m_number, od_m_number, .func (PySem.W.fnOf "number" "Rules.number" (defArgs s_m_number) (defBody s_m_number) (defScope s_m_number) .none kV_m_number doc_m_number pm_m_number an_m_number cd_m_number ct_m_number), sl_m_number⟩)
    (cd_is_m_number : PySem.W.codeIn K cd_m_number "Rules.number" = true)
    (k_m_number : PySem.W.keepIn K (.ref f_m_number) = true)
    (l_m_change : K.lookup f_m_change = some ⟨oc_m_change, od_m_change, .func (PySem.W.fnOf "change" "Rules.change" (defArgs s_m_change) (defBody s_m_change) (defScope s_m_change) .none kV_m_change doc_m_change pm_m_change an_m_change cd_m_change ct_m_change), sl_m_change⟩)
    (cd_is_m_change : PySem.W.codeIn K cd_m_change "Rules.change" = true)
    (k_m_change : PySem.W.keepIn K (.ref f_m_change) = true)
    (l_m_copy : K.lookup f_m_copy = some ⟨oc_m_copy, od_m_copy, .func (PySem.W.fnOf "copy" "Rules.copy" (defArgs s_m_copy) (defBody s_m_copy) (defScope s_m_copy) .none kV_m_copy doc_m_copy pm_m_copy an_m_copy cd_m_copy ct_m_copy), sl_m_copy⟩)
    (cd_is_m_copy : PySem.W.codeIn K cd_m_copy "Rules.copy" = true)
    (k_m_copy : PySem.W.keepIn K (.ref f_m_copy) = true)
    (l_m_numbered : K.lookup f_m_numbered = some ⟨oc_m_numbered, od_m_numbered, .func (PySem.W.fnOf "numbered" "Rules.numbered" (defArgs s_m_numbered) (defBody s_m_numbered) (defScope s_m_numbered) .none kV_m_numbered doc_m_numbered pm_m_numbered an_m_numbered cd_m_numbered ct_m_numbered), sl_m_numbered⟩)
    (cd_is_m_numbered : PySem.W.codeIn K cd_m_numbered "Rules.numbered" = true)
    (k_m_numbered : PySem.W.keepIn K (.ref f_m_numbered) = true)
    (a_or_standard : PySem.W.nsIn K mainGlobals "or_standard" = some (some (.ref f_or_standard)))
    (l_or_standard : K.lookup f_or_standard = some ⟨oc_or_standard, od_or_standard, .func (PySem.W.fnOf "or_standard" "or_standard" (defArgs s_or_standard) (defBody s_or_standard) (defScope s_or_standard) .none kV_or_standard doc_or_standard pm_or_standard an_or_standard cd_or_standard ct_or_standard), sl_or_standard⟩)
    (cd_is_or_standard : PySem.W.codeIn K cd_or_standard "or_standard" = true)
    (k_or_standard : PySem.W.keepIn K (.ref f_or_standard) = true)
    (a_repair : PySem.W.nsIn K mainGlobals "repair" = some (some (.ref f_repair)))
    (l_repair : K.lookup f_repair = some ⟨oc_repair, od_repair, .func (PySem.W.fnOf "repair" "repair" (defArgs s_repair) (defBody s_repair) (defScope s_repair) (.ref dt_repair) kV_repair doc_repair pm_repair an_repair cd_repair ct_repair), sl_repair⟩)
    (cd_is_repair : PySem.W.codeIn K cd_repair "repair" = true)
    (k_repair : PySem.W.keepIn K (.ref f_repair) = true)
    (l_dt_repair : K.lookup dt_repair = some ⟨.type "tuple", od_dt_repair, .seq #[.none] n_dt_repair, sl_dt_repair⟩)
    (a_writes : PySem.W.nsIn K mainGlobals "writes" = some (some (.ref f_writes)))
    (l_writes : K.lookup f_writes = some ⟨oc_writes, od_writes, .func (PySem.W.fnOf "writes" "writes" (defArgs s_writes) (defBody s_writes) (defScope s_writes) (.ref dt_writes) kV_writes doc_writes pm_writes an_writes cd_writes ct_writes), sl_writes⟩)
    (cd_is_writes : PySem.W.codeIn K cd_writes "writes" = true)
    (k_writes : PySem.W.keepIn K (.ref f_writes) = true)
    (l_dt_writes : K.lookup dt_writes = some ⟨.type "tuple", od_dt_writes, .seq #[.none] n_dt_writes, sl_dt_writes⟩)
    (a_torn_repair : PySem.W.nsIn K mainGlobals "torn_repair" = some (some (.ref f_torn_repair)))
    (l_torn_repair : K.lookup f_torn_repair = some ⟨oc_torn_repair, od_torn_repair, .func (PySem.W.fnOf "torn_repair" "torn_repair" (defArgs s_torn_repair) (defBody s_torn_repair) (defScope s_torn_repair) .none (.ref kd_torn_repair) doc_torn_repair pm_torn_repair an_torn_repair cd_torn_repair ct_torn_repair), sl_torn_repair⟩)
    (cd_is_torn_repair : PySem.W.codeIn K cd_torn_repair "torn_repair" = true)
    (k_torn_repair : PySem.W.keepIn K (.ref f_torn_repair) = true)
    (kq_torn_repair : PySem.W.nsIn K kd_torn_repair "rules" = some (some .none))
    (a_choices : PySem.W.nsIn K mainGlobals "choices" = some (some (.ref f_choices)))
    (l_choices : K.lookup f_choices = some ⟨oc_choices, od_choices, .func (PySem.W.fnOf "choices" "choices" (defArgs s_choices) (defBody s_choices) (defScope s_choices) .none kV_choices doc_choices pm_choices an_choices cd_choices ct_choices), sl_choices⟩)
    (cd_is_choices : PySem.W.codeIn K cd_choices "choices" = true)
    (k_choices : PySem.W.keepIn K (.ref f_choices) = true)
    (a_chosen : PySem.W.nsIn K mainGlobals "_chosen" = some (some (.ref f_chosen)))
    (l_chosen : K.lookup f_chosen = some ⟨oc_chosen, od_chosen, .func (PySem.W.fnOf "_chosen" "_chosen" (defArgs s_chosen) (defBody s_chosen) (defScope s_chosen) .none kV_chosen doc_chosen pm_chosen an_chosen cd_chosen ct_chosen), sl_chosen⟩)
    (cd_is_chosen : PySem.W.codeIn K cd_chosen "_chosen" = true)
    (k_chosen : PySem.W.keepIn K (.ref f_chosen) = true)
    (a_law_integer : PySem.W.nsIn K mainGlobals "_law_integer" = some (some (.ref f_law_integer)))
    (l_law_integer : K.lookup f_law_integer = some ⟨oc_law_integer, od_law_integer, .func (PySem.W.fnOf "_law_integer" "_law_integer" (defArgs s_law_integer) (defBody s_law_integer) (defScope s_law_integer) .none kV_law_integer doc_law_integer pm_law_integer an_law_integer cd_law_integer ct_law_integer), sl_law_integer⟩)
    (cd_is_law_integer : PySem.W.codeIn K cd_law_integer "_law_integer" = true)
    (k_law_integer : PySem.W.keepIn K (.ref f_law_integer) = true)
    (a_law_same : PySem.W.nsIn K mainGlobals "_law_same" = some (some (.ref f_law_same)))
    (l_law_same : K.lookup f_law_same = some ⟨oc_law_same, od_law_same, .func (PySem.W.fnOf "_law_same" "_law_same" (defArgs s_law_same) (defBody s_law_same) (defScope s_law_same) .none kV_law_same doc_law_same pm_law_same an_law_same cd_law_same ct_law_same), sl_law_same⟩)
    (cd_is_law_same : PySem.W.codeIn K cd_law_same "_law_same" = true)
    (k_law_same : PySem.W.keepIn K (.ref f_law_same) = true)
    (a_law_cell : PySem.W.nsIn K mainGlobals "_law_cell" = some (some (.ref f_law_cell)))
    (l_law_cell : K.lookup f_law_cell = some ⟨oc_law_cell, od_law_cell, .func (PySem.W.fnOf "_law_cell" "_law_cell" (defArgs s_law_cell) (defBody s_law_cell) (defScope s_law_cell) .none kV_law_cell doc_law_cell pm_law_cell an_law_cell cd_law_cell ct_law_cell), sl_law_cell⟩)
    (cd_is_law_cell : PySem.W.codeIn K cd_law_cell "_law_cell" = true)
    (k_law_cell : PySem.W.keepIn K (.ref f_law_cell) = true)
    (a_law_stream : PySem.W.nsIn K mainGlobals "_law_stream" = some (some (.ref f_law_stream)))
    (l_law_stream : K.lookup f_law_stream = some ⟨oc_law_stream, od_law_stream, .func (PySem.W.fnOf "_law_stream" "_law_stream" (defArgs s_law_stream) (defBody s_law_stream) (defScope s_law_stream) .none kV_law_stream doc_law_stream pm_law_stream an_law_stream cd_law_stream ct_law_stream), sl_law_stream⟩)
    (cd_is_law_stream : PySem.W.codeIn K cd_law_stream "_law_stream" = true)
    (k_law_stream : PySem.W.keepIn K (.ref f_law_stream) = true)
    (a_law_draw : PySem.W.nsIn K mainGlobals "_law_draw" = some (some (.ref f_law_draw)))
    (l_law_draw : K.lookup f_law_draw = some ⟨oc_law_draw, od_law_draw, .func (PySem.W.fnOf "_law_draw" "_law_draw" (defArgs s_law_draw) (defBody s_law_draw) (defScope s_law_draw) .none kV_law_draw doc_law_draw pm_law_draw an_law_draw cd_law_draw ct_law_draw), sl_law_draw⟩)
    (cd_is_law_draw : PySem.W.codeIn K cd_law_draw "_law_draw" = true)
    (k_law_draw : PySem.W.keepIn K (.ref f_law_draw) = true)
    (a_law_size : PySem.W.nsIn K mainGlobals "_law_size" = some (some (.ref f_law_size)))
    (l_law_size : K.lookup f_law_size = some ⟨oc_law_size, od_law_size, .func (PySem.W.fnOf "_law_size" "_law_size" (defArgs s_law_size) (defBody s_law_size) (defScope s_law_size) .none kV_law_size doc_law_size pm_law_size an_law_size cd_law_size ct_law_size), sl_law_size⟩)
    (cd_is_law_size : PySem.W.codeIn K cd_law_size "_law_size" = true)
    (k_law_size : PySem.W.keepIn K (.ref f_law_size) = true)
    (a_law_order : PySem.W.nsIn K mainGlobals "_law_order" = some (some (.ref f_law_order)))
    (l_law_order : K.lookup f_law_order = some ⟨oc_law_order, od_law_order, .func (PySem.W.fnOf "_law_order" "_law_order" (defArgs s_law_order) (defBody s_law_order) (defScope s_law_order) .none kV_law_order doc_law_order pm_law_order an_law_order cd_law_order ct_law_order), sl_law_order⟩)
    (cd_is_law_order : PySem.W.codeIn K cd_law_order "_law_order" = true)
    (k_law_order : PySem.W.keepIn K (.ref f_law_order) = true)
    (a_law_length : PySem.W.nsIn K mainGlobals "_law_length" = some (some (.ref f_law_length)))
    (l_law_length : K.lookup f_law_length = some ⟨oc_law_length, od_law_length, .func (PySem.W.fnOf "_law_length" "_law_length" (defArgs s_law_length) (defBody s_law_length) (defScope s_law_length) .none kV_law_length doc_law_length pm_law_length an_law_length cd_law_length ct_law_length), sl_law_length⟩)
    (cd_is_law_length : PySem.W.codeIn K cd_law_length "_law_length" = true)
    (k_law_length : PySem.W.keepIn K (.ref f_law_length) = true)
    (a_law_part : PySem.W.nsIn K mainGlobals "_law_part" = some (some (.ref f_law_part)))
    (l_law_part : K.lookup f_law_part = some ⟨oc_law_part, od_law_part, .func (PySem.W.fnOf "_law_part" "_law_part" (defArgs s_law_part) (defBody s_law_part) (defScope s_law_part) .none kV_law_part doc_law_part pm_law_part an_law_part cd_law_part ct_law_part), sl_law_part⟩)
    (cd_is_law_part : PySem.W.codeIn K cd_law_part "_law_part" = true)
    (k_law_part : PySem.W.keepIn K (.ref f_law_part) = true)
    (a_law_shown : PySem.W.nsIn K mainGlobals "_law_shown" = some (some (.ref f_law_shown)))
    (l_law_shown : K.lookup f_law_shown = some ⟨oc_law_shown, od_law_shown, .func (PySem.W.fnOf "_law_shown" "_law_shown" (defArgs s_law_shown) (defBody s_law_shown) (defScope s_law_shown) .none kV_law_shown doc_law_shown pm_law_shown an_law_shown cd_law_shown ct_law_shown), sl_law_shown⟩)
    (cd_is_law_shown : PySem.W.codeIn K cd_law_shown "_law_shown" = true)
    (k_law_shown : PySem.W.keepIn K (.ref f_law_shown) = true)
    (a_law_mended : PySem.W.nsIn K mainGlobals "_law_mended" = some (some (.ref f_law_mended)))
    (l_law_mended : K.lookup f_law_mended = some ⟨oc_law_mended, od_law_mended, .func (PySem.W.fnOf "_law_mended" "_law_mended" (defArgs s_law_mended) (defBody s_law_mended) (defScope s_law_mended) .none kV_law_mended doc_law_mended pm_law_mended an_law_mended cd_law_mended ct_law_mended), sl_law_mended⟩)
    (cd_is_law_mended : PySem.W.codeIn K cd_law_mended "_law_mended" = true)
    (k_law_mended : PySem.W.keepIn K (.ref f_law_mended) = true)
    (a_law_goal : PySem.W.nsIn K mainGlobals "_law_goal" = some (some (.ref f_law_goal)))
    (l_law_goal : K.lookup f_law_goal = some ⟨oc_law_goal, od_law_goal, .func (PySem.W.fnOf "_law_goal" "_law_goal" (defArgs s_law_goal) (defBody s_law_goal) (defScope s_law_goal) .none kV_law_goal doc_law_goal pm_law_goal an_law_goal cd_law_goal ct_law_goal), sl_law_goal⟩)
    (cd_is_law_goal : PySem.W.codeIn K cd_law_goal "_law_goal" = true)
    (k_law_goal : PySem.W.keepIn K (.ref f_law_goal) = true)
    (a_law_words : PySem.W.nsIn K mainGlobals "_law_words" = some (some (.ref f_law_words)))
    (l_law_words : K.lookup f_law_words = some ⟨oc_law_words, od_law_words, .func (PySem.W.fnOf "_law_words" "_law_words" (defArgs s_law_words) (defBody s_law_words) (defScope s_law_words) .none kV_law_words doc_law_words pm_law_words an_law_words cd_law_words ct_law_words), sl_law_words⟩)
    (cd_is_law_words : PySem.W.codeIn K cd_law_words "_law_words" = true)
    (k_law_words : PySem.W.keepIn K (.ref f_law_words) = true)
    (a_law_build : PySem.W.nsIn K mainGlobals "_law_build" = some (some (.ref f_law_build)))
    (l_law_build : K.lookup f_law_build = some ⟨oc_law_build, od_law_build, .func (PySem.W.fnOf "_law_build" "_law_build" (defArgs s_law_build) (defBody s_law_build) (defScope s_law_build) .none kV_law_build doc_law_build pm_law_build an_law_build cd_law_build ct_law_build), sl_law_build⟩)
    (cd_is_law_build : PySem.W.codeIn K cd_law_build "_law_build" = true)
    (k_law_build : PySem.W.keepIn K (.ref f_law_build) = true)
    (a_law_steady : PySem.W.nsIn K mainGlobals "_law_steady" = some (some (.ref f_law_steady)))
    (l_law_steady : K.lookup f_law_steady = some ⟨oc_law_steady, od_law_steady, .func (PySem.W.fnOf "_law_steady" "_law_steady" (defArgs s_law_steady) (defBody s_law_steady) (defScope s_law_steady) .none kV_law_steady doc_law_steady pm_law_steady an_law_steady cd_law_steady ct_law_steady), sl_law_steady⟩)
    (cd_is_law_steady : PySem.W.codeIn K cd_law_steady "_law_steady" = true)
    (k_law_steady : PySem.W.keepIn K (.ref f_law_steady) = true)
    (a_law_some : PySem.W.nsIn K mainGlobals "_law_some" = some (some (.ref f_law_some)))
    (l_law_some : K.lookup f_law_some = some ⟨oc_law_some, od_law_some, .func (PySem.W.fnOf "_law_some" "_law_some" (defArgs s_law_some) (defBody s_law_some) (defScope s_law_some) .none kV_law_some doc_law_some pm_law_some an_law_some cd_law_some ct_law_some), sl_law_some⟩)
    (cd_is_law_some : PySem.W.codeIn K cd_law_some "_law_some" = true)
    (k_law_some : PySem.W.keepIn K (.ref f_law_some) = true)
    (a_law_torn : PySem.W.nsIn K mainGlobals "_law_torn" = some (some (.ref f_law_torn)))
    (l_law_torn : K.lookup f_law_torn = some ⟨oc_law_torn, od_law_torn, .func (PySem.W.fnOf "_law_torn" "_law_torn" (defArgs s_law_torn) (defBody s_law_torn) (defScope s_law_torn) .none kV_law_torn doc_law_torn pm_law_torn an_law_torn cd_law_torn ct_law_torn), sl_law_torn⟩)
    (cd_is_law_torn : PySem.W.codeIn K cd_law_torn "_law_torn" = true)
    (k_law_torn : PySem.W.keepIn K (.ref f_law_torn) = true)
    (a_law_morning : PySem.W.nsIn K mainGlobals "_law_morning" = some (some (.ref f_law_morning)))
    (l_law_morning : K.lookup f_law_morning = some ⟨oc_law_morning, od_law_morning, .func (PySem.W.fnOf "_law_morning" "_law_morning" (defArgs s_law_morning) (defBody s_law_morning) (defScope s_law_morning) .none kV_law_morning doc_law_morning pm_law_morning an_law_morning cd_law_morning ct_law_morning), sl_law_morning⟩)
    (cd_is_law_morning : PySem.W.codeIn K cd_law_morning "_law_morning" = true)
    (k_law_morning : PySem.W.keepIn K (.ref f_law_morning) = true)
    (a_law_rests : PySem.W.nsIn K mainGlobals "_law_rests" = some (some (.ref f_law_rests)))
    (l_law_rests : K.lookup f_law_rests = some ⟨oc_law_rests, od_law_rests, .func (PySem.W.fnOf "_law_rests" "_law_rests" (defArgs s_law_rests) (defBody s_law_rests) (defScope s_law_rests) .none kV_law_rests doc_law_rests pm_law_rests an_law_rests cd_law_rests ct_law_rests), sl_law_rests⟩)
    (cd_is_law_rests : PySem.W.codeIn K cd_law_rests "_law_rests" = true)
    (k_law_rests : PySem.W.keepIn K (.ref f_law_rests) = true)
    (a_law : PySem.W.nsIn K mainGlobals "law" = some (some (.ref f_law)))
    (l_law : K.lookup f_law = some ⟨oc_law, od_law, .func (PySem.W.fnOf "law" "law" (defArgs s_law) (defBody s_law) (defScope s_law) .none kV_law doc_law pm_law an_law cd_law ct_law), sl_law⟩)
    (cd_is_law : PySem.W.codeIn K cd_law "law" = true)
    (k_law : PySem.W.keepIn K (.ref f_law) = true)
    (a_WORDS : PySem.W.nsIn K mainGlobals "_WORDS" = some (some (.ref c_WORDS)))
    (a_WHOLE : PySem.W.nsIn K mainGlobals "_WHOLE" = some (some (.ref c_WHOLE)))
    (a_FORMS : PySem.W.nsIn K mainGlobals "_FORMS" = some (some (.ref c_FORMS)))
    (a_CHOICES : PySem.W.nsIn K mainGlobals "_CHOICES" = some (some (.ref c_CHOICES)))
    (sm_WORDS : (c_WORDS == sysModules) = false)
    (l_WORDS : K.lookup c_WORDS = some ⟨.type "dict", none, .dict #[⟨PyData.keyHash w.params "hook", .str "hook" wt0, .ref wk0⟩, ⟨PyData.keyHash w.params "relay", .str "relay" wt1, .ref wk1⟩, ⟨PyData.keyHash w.params "clamp", .str "clamp" wt2, .ref wk2⟩, ⟨PyData.keyHash w.params "trail", .str "trail" wt3, .ref wk3⟩, ⟨PyData.keyHash w.params "wheel", .str "wheel" wt4, .ref wk4⟩] wep, #[]⟩)
    (l_W0 : K.lookup wk0 = some ⟨.type "tuple", wod0, .seq #[.str "back" wx0, .str "forward" wy0] wn0, wsl0⟩)
    (l_W1 : K.lookup wk1 = some ⟨.type "tuple", wod1, .seq #[.str "near" wx1, .str "far" wy1] wn1, wsl1⟩)
    (l_W2 : K.lookup wk2 = some ⟨.type "tuple", wod2, .seq #[.str "inner" wx2, .str "outer" wy2] wn2, wsl2⟩)
    (l_W3 : K.lookup wk3 = some ⟨.type "tuple", wod3, .seq #[.str "near" wx3, .str "far" wy3] wn3, wsl3⟩)
    (l_W4 : K.lookup wk4 = some ⟨.type "tuple", wod4, .seq #[.str "even" wx4, .str "odd" wy4] wn4, wsl4⟩)
    (l_WHOLE : K.lookup c_WHOLE = some ⟨.type "tuple", odc_WHOLE, .seq #[.str "free" tWHOLE_0, .str "pair" tWHOLE_1] nc_WHOLE, slc_WHOLE⟩)
    (sm_FORMS : (c_FORMS == sysModules) = false)
    (l_FORMS : K.lookup c_FORMS = some { cls := .type "dict", data := .dict #[⟨-8753497827991233192, .ref kk0, .str "free" tF0⟩, ⟨-5164621852614943976, .ref kk1, .str "pair" tF1⟩, ⟨8389048192121911274, .ref kk2, .str "claim" tF2⟩, ⟨3313134723150563520, .ref kk3, .str "hook" tF3⟩, ⟨-1579939305822132846, .ref kk4, .str "relay" tF4⟩, ⟨8677768113715720416, .ref kk5, .str "clamp" tF5⟩, ⟨3374690043038133861, .ref kk6, .str "trail" tF6⟩, ⟨1760123315908831802, .ref kk7, .str "wheel" tF7⟩] epF })
    (l_F0 : K.lookup kk0 = some ⟨.type "tuple", odF0, .seq #[.int 0 aF0_0] nF0, slF0⟩)
    (l_F1 : K.lookup kk1 = some ⟨.type "tuple", odF1, .seq #[.int 1 aF1_0, .int 0 aF1_1] nF1, slF1⟩)
    (l_F2 : K.lookup kk2 = some ⟨.type "tuple", odF2, .seq #[.int 1 aF2_0, .int 1 aF2_1] nF2, slF2⟩)
    (l_F3 : K.lookup kk3 = some ⟨.type "tuple", odF3, .seq #[.int 1 aF3_0, .int 2 aF3_1, .int 1 aF3_2] nF3, slF3⟩)
    (l_F4 : K.lookup kk4 = some ⟨.type "tuple", odF4, .seq #[.int 1 aF4_0, .int 2 aF4_1, .int 2 aF4_2] nF4, slF4⟩)
    (l_F5 : K.lookup kk5 = some ⟨.type "tuple", odF5, .seq #[.int 1 aF5_0, .int 2 aF5_1, .int 1 aF5_2, .int 2 aF5_3] nF5, slF5⟩)
    (l_F6 : K.lookup kk6 = some ⟨.type "tuple", odF6, .seq #[.int 1 aF6_0, .int 2 aF6_1, .int 3 aF6_2, .int 2 aF6_3] nF6, slF6⟩)
    (l_F7 : K.lookup kk7 = some ⟨.type "tuple", odF7, .seq #[.int 1 aF7_0, .int 2 aF7_1, .int 3 aF7_2, .int 0 aF7_3] nF7, slF7⟩)
    (sm_CHOICES : (c_CHOICES == sysModules) = false)
    (l_CHOICES : K.lookup c_CHOICES = some ⟨.type "dict", none, .dict #[⟨PyData.keyHash w.params "claim", .str "claim" ct0, .ref ck0⟩, ⟨PyData.keyHash w.params "hook", .str "hook" ct1, .ref ck1⟩, ⟨PyData.keyHash w.params "relay", .str "relay" ct2, .ref ck2⟩, ⟨PyData.keyHash w.params "clamp", .str "clamp" ct3, .ref ck3⟩, ⟨PyData.keyHash w.params "trail", .str "trail" ct4, .ref ck4⟩, ⟨PyData.keyHash w.params "wheel", .str "wheel" ct5, .ref ck5⟩] cep, #[]⟩)
    (l_C0 : K.lookup ck0 = some ⟨.type "tuple", cod0, .seq #[.ref ca0, .ref cb0] cn0, csl0⟩)
    (l_Ca0 : K.lookup ca0 = some ⟨.type "tuple", coa0, .seq #[.int 1 c0_0_0, .int 0 c0_0_1] cna0, csa0⟩)
    (l_Cb0 : K.lookup cb0 = some ⟨.type "tuple", cob0, .seq #[.int 0 c0_1_0, .int 1 c0_1_1] cnb0, csb0⟩)
    (l_C1 : K.lookup ck1 = some ⟨.type "tuple", cod1, .seq #[.ref ca1, .ref cb1] cn1, csl1⟩)
    (l_Ca1 : K.lookup ca1 = some ⟨.type "tuple", coa1, .seq #[.int 0 c1_0_0, .int 2 c1_0_1, .int 1 c1_0_2] cna1, csa1⟩)
    (l_Cb1 : K.lookup cb1 = some ⟨.type "tuple", cob1, .seq #[.int 1 c1_1_0, .int 0 c1_1_1, .int 2 c1_1_2] cnb1, csb1⟩)
    (l_C2 : K.lookup ck2 = some ⟨.type "tuple", cod2, .seq #[.ref ca2, .ref cb2] cn2, csl2⟩)
    (l_Ca2 : K.lookup ca2 = some ⟨.type "tuple", coa2, .seq #[.int 1 c2_0_0, .int 0 c2_0_1, .int 2 c2_0_2] cna2, csa2⟩)
    (l_Cb2 : K.lookup cb2 = some ⟨.type "tuple", cob2, .seq #[.int 0 c2_1_0, .int 2 c2_1_1, .int 1 c2_1_2] cnb2, csb2⟩)
    (l_C3 : K.lookup ck3 = some ⟨.type "tuple", cod3, .seq #[.ref ca3, .ref cb3] cn3, csl3⟩)
    (l_Ca3 : K.lookup ca3 = some ⟨.type "tuple", coa3, .seq #[.int 1 c3_0_0, .int 0 c3_0_1, .int 3 c3_0_2, .int 2 c3_0_3] cna3, csa3⟩)
    (l_Cb3 : K.lookup cb3 = some ⟨.type "tuple", cob3, .seq #[.int 3 c3_1_0, .int 2 c3_1_1, .int 1 c3_1_2, .int 0 c3_1_3] cnb3, csb3⟩)
    (l_C4 : K.lookup ck4 = some ⟨.type "tuple", cod4, .seq #[.ref ca4, .ref cb4] cn4, csl4⟩)
    (l_Ca4 : K.lookup ca4 = some ⟨.type "tuple", coa4, .seq #[.int 1 c4_0_0, .int 0 c4_0_1, .int 3 c4_0_2, .int 2 c4_0_3] cna4, csa4⟩)
    (l_Cb4 : K.lookup cb4 = some ⟨.type "tuple", cob4, .seq #[.int 3 c4_1_0, .int 2 c4_1_1, .int 1 c4_1_2, .int 0 c4_1_3] cnb4, csb4⟩)
    (l_C5 : K.lookup ck5 = some ⟨.type "tuple", cod5, .seq #[.ref ca5, .ref cb5] cn5, csl5⟩)
    (l_Ca5 : K.lookup ca5 = some ⟨.type "tuple", coa5, .seq #[.int 1 c5_0_0, .int 0 c5_0_1, .int 3 c5_0_2, .int 2 c5_0_3] cna5, csa5⟩)
    (l_Cb5 : K.lookup cb5 = some ⟨.type "tuple", cob5, .seq #[.int 3 c5_1_0, .int 2 c5_1_1, .int 1 c5_1_2, .int 0 c5_1_3] cnb5, csb5⟩)
    (a_MendError : PySem.W.nsIn K mainGlobals "MendError" = some (some (.ref c_MendError)))
    (x_MendError : K.lookup c_MendError = some (excClassObj nm_MendError q_MendError c_MendError N_MendError_ bs_MendError bm_MendError true sn_MendError sub_MendError ab_MendError col_MendError dd_MendError k0_MendError k1_MendError k2_MendError k3_MendError k5_MendError "ValueError.__new__"))
    (a_InvalidNumber : PySem.W.nsIn K mainGlobals "InvalidNumber" = some (some (.ref c_InvalidNumber)))
    (x_InvalidNumber : K.lookup c_InvalidNumber = some (excClassObj nm_InvalidNumber q_InvalidNumber c_InvalidNumber N_InvalidNumber_ bs_InvalidNumber [.ref c_MendError, .type "ValueError", .type "Exception", .type "BaseException", .type "object"] true sn_InvalidNumber sub_InvalidNumber ab_InvalidNumber col_InvalidNumber dd_InvalidNumber k0_InvalidNumber k1_InvalidNumber k2_InvalidNumber k3_InvalidNumber k5_InvalidNumber "ValueError.__new__"))
    (kc_InvalidNumber : PySem.W.keepIn K (.ref c_InvalidNumber) = true)
    (sa_InvalidNumber : PySem.W.findIn K (.ref c_InvalidNumber) "__setattr__" = some (some (.builtin "object.__setattr__")))
    (ga_InvalidNumber : PySem.W.findIn K (.ref c_InvalidNumber) "__getattribute__" = some (some (.builtin "BaseException.__getattribute__")))
    (gg_InvalidNumber : PySem.W.findIn K (.ref c_InvalidNumber) "__getattr__" = some none)
    (ca_InvalidNumber : PySem.W.findIn K (.ref c_InvalidNumber) "__class__" = some (some (.builtin "object.__class__")))
    (i_is_InvalidNumber : PySem.W.findIn K (.ref c_InvalidNumber) "__init__" = some (some (.ref i_InvalidNumber)))
    (t_InvalidNumber : PySem.W.typeIn K (.ref i_InvalidNumber) = some (.type "function"))
    (nf_InvalidNumber : PySem.W.findIn K (.ref c_InvalidNumber) "value" = some none)
    (l_i_InvalidNumber : K.lookup i_InvalidNumber = some ⟨oc_i_InvalidNumber, od_i_InvalidNumber, .func (PySem.W.fnOf "__init__" "InvalidNumber.__init__" (defArgs s_InvalidNumber) (defBody s_InvalidNumber) (defScope s_InvalidNumber) .none kV_i_InvalidNumber doc_i_InvalidNumber pm_i_InvalidNumber an_i_InvalidNumber cd_i_InvalidNumber ct_i_InvalidNumber), sl_i_InvalidNumber⟩)
    (cd_is_i_InvalidNumber : PySem.W.codeIn K cd_i_InvalidNumber "InvalidNumber.__init__" = true)
    (k_i_InvalidNumber : PySem.W.keepIn K (.ref i_InvalidNumber) = true)
    (a_InvalidRules : PySem.W.nsIn K mainGlobals "InvalidRules" = some (some (.ref c_InvalidRules)))
    (x_InvalidRules : K.lookup c_InvalidRules = some (excClassObj nm_InvalidRules q_InvalidRules c_InvalidRules N_InvalidRules_ bs_InvalidRules [.ref c_MendError, .type "ValueError", .type "Exception", .type "BaseException", .type "object"] true sn_InvalidRules sub_InvalidRules ab_InvalidRules col_InvalidRules dd_InvalidRules k0_InvalidRules k1_InvalidRules k2_InvalidRules k3_InvalidRules k5_InvalidRules "ValueError.__new__"))
    (kc_InvalidRules : PySem.W.keepIn K (.ref c_InvalidRules) = true)
    (sa_InvalidRules : PySem.W.findIn K (.ref c_InvalidRules) "__setattr__" = some (some (.builtin "object.__setattr__")))
    (ga_InvalidRules : PySem.W.findIn K (.ref c_InvalidRules) "__getattribute__" = some (some (.builtin "BaseException.__getattribute__")))
    (gg_InvalidRules : PySem.W.findIn K (.ref c_InvalidRules) "__getattr__" = some none)
    (ca_InvalidRules : PySem.W.findIn K (.ref c_InvalidRules) "__class__" = some (some (.builtin "object.__class__")))
    (i_is_InvalidRules : PySem.W.findIn K (.ref c_InvalidRules) "__init__" = some (some (.ref i_InvalidRules)))
    (t_InvalidRules : PySem.W.typeIn K (.ref i_InvalidRules) = some (.type "function"))
    (nf_InvalidRules : PySem.W.findIn K (.ref c_InvalidRules) "name" = some none)
    (l_i_InvalidRules : K.lookup i_InvalidRules = some ⟨oc_i_InvalidRules, od_i_InvalidRules, .func (PySem.W.fnOf "__init__" "InvalidRules.__init__" (defArgs s_InvalidRules) (defBody s_InvalidRules) (defScope s_InvalidRules) .none kV_i_InvalidRules doc_i_InvalidRules pm_i_InvalidRules an_i_InvalidRules cd_i_InvalidRules ct_i_InvalidRules), sl_i_InvalidRules⟩)
    (cd_is_i_InvalidRules : PySem.W.codeIn K cd_i_InvalidRules "InvalidRules.__init__" = true)
    (k_i_InvalidRules : PySem.W.keepIn K (.ref i_InvalidRules) = true)
    (nd : [c_MendError, c_InvalidNumber, c_InvalidRules].Nodup)
    (rc1 : PySem.W.plainGet K c_Rules Str.empty = true)
    (rc2 : PySem.W.hasDictIn K c_Rules = true)
    (rc3 : PySem.W.plainOver K c_Rules = true)
    (rc4 : PySem.W.findIn K (.ref c_Rules) "__setattr__" = some (some (.builtin "object.__setattr__")))
    (rm1 : PySem.W.makesIn K c_Rules = true)
    (rm3 : PySem.W.isFn K (.ref f_m_init) = true)
    (rm4 : PySem.W.keepIn K (.ref c_Rules) = true)
    (mf_change : PySem.W.isFn K (.ref f_m_change) = true)
    (mf_copy : PySem.W.isFn K (.ref f_m_copy) = true)
    (pb_number : PySem.W.specialIn K (.ref p_number) "__get__" = some (some (.builtin "property.__get__")))
    (pc_number : PySem.W.takesIn K (.ref p_number) = some true)
    (nc_is : PySem.W.findIn K (.ref c_Rules) "_choices" = some none)
    (rq1 : PySem.W.readsIn K c_Rules (.type "type") = true)
    (rq2 : PySem.W.specialIn K (.ref c_Rules) "__getattribute__" = some (some (.builtin "type.__getattribute__")))
    (v_NAMES : PySem.W.findCls K (.ref c_Rules) (.type "type") "NAMES" = some (.val (.ref c_NAMES)))
    (l_NAMES : K.lookup c_NAMES = some ⟨.type "tuple", none, .seq #[.str "hook" nt0, .str "relay" nt1, .str "clamp" nt2, .str "trail" nt3, .str "wheel" nt4] nNM, slNM⟩)
    (v_COUNT : PySem.W.findCls K (.ref c_Rules) (.type "type") "COUNT" = some (.val (.int 32 ct32)))
    (u3 : PySem.W.fnIn K f_m_numbered = true)
    (z_int : PySem.W.nsIn K mainGlobals "int" = some none)
    (z_bool : PySem.W.nsIn K mainGlobals "bool" = some none)
    (z_str : PySem.W.nsIn K mainGlobals "str" = some none)
    (z_list : PySem.W.nsIn K mainGlobals "list" = some none)
    (z_tuple : PySem.W.nsIn K mainGlobals "tuple" = some none)
    (z_dict : PySem.W.nsIn K mainGlobals "dict" = some none)
    (z_len : PySem.W.nsIn K mainGlobals "len" = some none)
    (z_range : PySem.W.nsIn K mainGlobals "range" = some none)
    (z_enumerate : PySem.W.nsIn K mainGlobals "enumerate" = some none)
    (z_isinstance : PySem.W.nsIn K mainGlobals "isinstance" = some none)
    (z_sum : PySem.W.nsIn K mainGlobals "sum" = some none)
    (z_min : PySem.W.nsIn K mainGlobals "min" = some none)
    (z_max : PySem.W.nsIn K mainGlobals "max" = some none)
    (z_zip : PySem.W.nsIn K mainGlobals "zip" = some none)
    (z_all : PySem.W.nsIn K mainGlobals "all" = some none)
    (z_sorted : PySem.W.nsIn K mainGlobals "sorted" = some none)
    : ∃ fd : FuncData, (∀ (s : Shared) (v : Value), BindsTo s fd ⟨[v], []⟩ [("script", v)]) ∧ ∀ base : Heap, K.In base → base.Ns mainGlobals mg → FnOk l.prog w K mg base CX0 13 fa fd ["script"] (spLaw K) := by
  have e := hfa.symm.trans (PySem.W.mg_of X G a_law)
  cases e
  obtain ⟨A, hA⟩ : ∃ A : Ad, A = ⟨f_own, f_check_image, f_groups, f_least_records, f_pieces, f_is_repairable, f_torn_pieces, f_piece_of, f_row_of, f_m_init, f_m_number, f_m_change, f_m_copy, f_m_numbered, f_or_standard, f_repair, f_writes, f_torn_repair, f_choices, f_chosen, f_law_integer, f_law_same, f_law_cell, f_law_stream, f_law_draw, f_law_size, f_law_order, f_law_length, f_law_part, f_law_shown, f_law_mended, f_law_goal, f_law_words, f_law_build, f_law_steady, f_law_some, f_law_torn, f_law_morning, f_law_rests, fa, c_WORDS, c_WHOLE, c_FORMS, c_CHOICES, c_MendError, c_InvalidNumber, c_InvalidRules, i_InvalidNumber, i_InvalidRules, c_Rules, c_NAMES, p_number, p_numbered⟩ := ⟨_, rfl⟩
  have T : Txt K mg A := {
    g_own := by rw [hA]; exact PySem.W.mg_of X G a_own,
    k_own := by rw [hA]; exact k_own,
    d_own := by rw [hA]; exact ⟨_, fun_mk (st := s_own) l_own cd_is_own k_own⟩,
    g_check_image := by rw [hA]; exact PySem.W.mg_of X G a_check_image,
    k_check_image := by rw [hA]; exact k_check_image,
    d_check_image := by rw [hA]; exact ⟨_, fun_mk (st := s_check_image) l_check_image cd_is_check_image k_check_image⟩,
    g_groups := by rw [hA]; exact PySem.W.mg_of X G a_groups,
    k_groups := by rw [hA]; exact k_groups,
    d_groups := by rw [hA]; exact ⟨_, fun_mk (st := s_groups) l_groups cd_is_groups k_groups⟩,
    g_least_records := by rw [hA]; exact PySem.W.mg_of X G a_least_records,
    k_least_records := by rw [hA]; exact k_least_records,
    d_least_records := by rw [hA]; exact ⟨_, fun_mk (st := s_least_records) l_least_records cd_is_least_records k_least_records⟩,
    g_pieces := by rw [hA]; exact PySem.W.mg_of X G a_pieces,
    k_pieces := by rw [hA]; exact k_pieces,
    d_pieces := by rw [hA]; exact ⟨_, fun_mk (st := s_pieces) l_pieces cd_is_pieces k_pieces⟩,
    g_is_repairable := by rw [hA]; exact PySem.W.mg_of X G a_is_repairable,
    k_is_repairable := by rw [hA]; exact k_is_repairable,
    d_is_repairable := by rw [hA]; exact ⟨_, fun_mk (st := s_is_repairable) l_is_repairable cd_is_is_repairable k_is_repairable⟩,
    g_torn_pieces := by rw [hA]; exact PySem.W.mg_of X G a_torn_pieces,
    k_torn_pieces := by rw [hA]; exact k_torn_pieces,
    d_torn_pieces := by rw [hA]; exact ⟨_, fun_mk (st := s_torn_pieces) l_torn_pieces cd_is_torn_pieces k_torn_pieces⟩,
    g_piece_of := by rw [hA]; exact PySem.W.mg_of X G a_piece_of,
    k_piece_of := by rw [hA]; exact k_piece_of,
    d_piece_of := by rw [hA]; exact ⟨_, fun_mk (st := s_piece_of) l_piece_of cd_is_piece_of k_piece_of⟩,
    g_row_of := by rw [hA]; exact PySem.W.mg_of X G a_row_of,
    k_row_of := by rw [hA]; exact k_row_of,
    d_row_of := by rw [hA]; exact ⟨_, fun_mk (st := s_row_of) l_row_of cd_is_row_of k_row_of⟩,
    d_m_init := by rw [hA]; exact ⟨_, ⟨_, _, _, _, _, _, _, _, _, _, rfl, l_m_init, cd_is_m_init, Or.inl ⟨rfl, rfl⟩, Or.inr ⟨kd_in, rfl, fun q hq => by
      simp only [kwsR, List.mem_cons, List.not_mem_nil, or_false] at hq
      rcases hq with rfl | rfl | rfl | rfl | rfl
      · exact ⟨_, kd_hook, ⟨_, rfl⟩⟩
      · exact ⟨_, kd_relay, ⟨_, rfl⟩⟩
      · exact ⟨_, kd_clamp, ⟨_, rfl⟩⟩
      · exact ⟨_, kd_trail, ⟨_, rfl⟩⟩
      · exact ⟨_, kd_wheel, ⟨_, rfl⟩⟩⟩⟩, k_m_init⟩,
    d_m_number := by rw [hA]; exact ⟨_, fun_mk (st := s_m_number) l_m_number cd_is_m_number k_m_number⟩,
    d_m_change := by rw [hA]; exact ⟨_, fun_mk (st := s_m_change) l_m_change cd_is_m_change k_m_change⟩,
    d_m_copy := by rw [hA]; exact ⟨_, fun_mk (st := s_m_copy) l_m_copy cd_is_m_copy k_m_copy⟩,
    d_m_numbered := by rw [hA]; exact ⟨_, fun_mk (st := s_m_numbered) l_m_numbered cd_is_m_numbered k_m_numbered⟩,
    g_or_standard := by rw [hA]; exact PySem.W.mg_of X G a_or_standard,
    k_or_standard := by rw [hA]; exact k_or_standard,
    d_or_standard := by rw [hA]; exact ⟨_, fun_mk (st := s_or_standard) l_or_standard cd_is_or_standard k_or_standard⟩,
    g_repair := by rw [hA]; exact PySem.W.mg_of X G a_repair,
    k_repair := by rw [hA]; exact k_repair,
    d_repair := by rw [hA]; exact ⟨_, ⟨_, _, _, _, _, _, _, _, _, _, rfl, l_repair, cd_is_repair, Or.inr ⟨by simp, dt_repair, _, [.none], _, rfl, l_dt_repair, rfl, .cons rfl .nil⟩, Or.inl rfl⟩, k_repair⟩,
    g_writes := by rw [hA]; exact PySem.W.mg_of X G a_writes,
    k_writes := by rw [hA]; exact k_writes,
    d_writes := by rw [hA]; exact ⟨_, ⟨_, _, _, _, _, _, _, _, _, _, rfl, l_writes, cd_is_writes, Or.inr ⟨by simp, dt_writes, _, [.none], _, rfl, l_dt_writes, rfl, .cons rfl .nil⟩, Or.inl rfl⟩, k_writes⟩,
    g_torn_repair := by rw [hA]; exact PySem.W.mg_of X G a_torn_repair,
    k_torn_repair := by rw [hA]; exact k_torn_repair,
    d_torn_repair := by rw [hA]; exact ⟨_, ⟨_, _, _, _, _, _, _, _, _, _, rfl, l_torn_repair, cd_is_torn_repair, Or.inl ⟨rfl, rfl⟩, Or.inr ⟨kd_torn_repair, rfl, fun q hq => by
      simp only [List.mem_cons, List.not_mem_nil, or_false] at hq
      subst hq
      exact ⟨_, kq_torn_repair, rfl⟩⟩⟩, k_torn_repair⟩,
    g_choices := by rw [hA]; exact PySem.W.mg_of X G a_choices,
    k_choices := by rw [hA]; exact k_choices,
    d_choices := by rw [hA]; exact ⟨_, fun_mk (st := s_choices) l_choices cd_is_choices k_choices⟩,
    g_chosen := by rw [hA]; exact PySem.W.mg_of X G a_chosen,
    k_chosen := by rw [hA]; exact k_chosen,
    d_chosen := by rw [hA]; exact ⟨_, fun_mk (st := s_chosen) l_chosen cd_is_chosen k_chosen⟩,
    g_law_integer := by rw [hA]; exact PySem.W.mg_of X G a_law_integer,
    k_law_integer := by rw [hA]; exact k_law_integer,
    d_law_integer := by rw [hA]; exact ⟨_, fun_mk (st := s_law_integer) l_law_integer cd_is_law_integer k_law_integer⟩,
    g_law_same := by rw [hA]; exact PySem.W.mg_of X G a_law_same,
    k_law_same := by rw [hA]; exact k_law_same,
    d_law_same := by rw [hA]; exact ⟨_, fun_mk (st := s_law_same) l_law_same cd_is_law_same k_law_same⟩,
    g_law_cell := by rw [hA]; exact PySem.W.mg_of X G a_law_cell,
    k_law_cell := by rw [hA]; exact k_law_cell,
    d_law_cell := by rw [hA]; exact ⟨_, fun_mk (st := s_law_cell) l_law_cell cd_is_law_cell k_law_cell⟩,
    g_law_stream := by rw [hA]; exact PySem.W.mg_of X G a_law_stream,
    k_law_stream := by rw [hA]; exact k_law_stream,
    d_law_stream := by rw [hA]; exact ⟨_, fun_mk (st := s_law_stream) l_law_stream cd_is_law_stream k_law_stream⟩,
    g_law_draw := by rw [hA]; exact PySem.W.mg_of X G a_law_draw,
    k_law_draw := by rw [hA]; exact k_law_draw,
    d_law_draw := by rw [hA]; exact ⟨_, fun_mk (st := s_law_draw) l_law_draw cd_is_law_draw k_law_draw⟩,
    g_law_size := by rw [hA]; exact PySem.W.mg_of X G a_law_size,
    k_law_size := by rw [hA]; exact k_law_size,
    d_law_size := by rw [hA]; exact ⟨_, fun_mk (st := s_law_size) l_law_size cd_is_law_size k_law_size⟩,
    g_law_order := by rw [hA]; exact PySem.W.mg_of X G a_law_order,
    k_law_order := by rw [hA]; exact k_law_order,
    d_law_order := by rw [hA]; exact ⟨_, fun_mk (st := s_law_order) l_law_order cd_is_law_order k_law_order⟩,
    g_law_length := by rw [hA]; exact PySem.W.mg_of X G a_law_length,
    k_law_length := by rw [hA]; exact k_law_length,
    d_law_length := by rw [hA]; exact ⟨_, fun_mk (st := s_law_length) l_law_length cd_is_law_length k_law_length⟩,
    g_law_part := by rw [hA]; exact PySem.W.mg_of X G a_law_part,
    k_law_part := by rw [hA]; exact k_law_part,
    d_law_part := by rw [hA]; exact ⟨_, fun_mk (st := s_law_part) l_law_part cd_is_law_part k_law_part⟩,
    g_law_shown := by rw [hA]; exact PySem.W.mg_of X G a_law_shown,
    k_law_shown := by rw [hA]; exact k_law_shown,
    d_law_shown := by rw [hA]; exact ⟨_, fun_mk (st := s_law_shown) l_law_shown cd_is_law_shown k_law_shown⟩,
    g_law_mended := by rw [hA]; exact PySem.W.mg_of X G a_law_mended,
    k_law_mended := by rw [hA]; exact k_law_mended,
    d_law_mended := by rw [hA]; exact ⟨_, fun_mk (st := s_law_mended) l_law_mended cd_is_law_mended k_law_mended⟩,
    g_law_goal := by rw [hA]; exact PySem.W.mg_of X G a_law_goal,
    k_law_goal := by rw [hA]; exact k_law_goal,
    d_law_goal := by rw [hA]; exact ⟨_, fun_mk (st := s_law_goal) l_law_goal cd_is_law_goal k_law_goal⟩,
    g_law_words := by rw [hA]; exact PySem.W.mg_of X G a_law_words,
    k_law_words := by rw [hA]; exact k_law_words,
    d_law_words := by rw [hA]; exact ⟨_, fun_mk (st := s_law_words) l_law_words cd_is_law_words k_law_words⟩,
    g_law_build := by rw [hA]; exact PySem.W.mg_of X G a_law_build,
    k_law_build := by rw [hA]; exact k_law_build,
    d_law_build := by rw [hA]; exact ⟨_, fun_mk (st := s_law_build) l_law_build cd_is_law_build k_law_build⟩,
    g_law_steady := by rw [hA]; exact PySem.W.mg_of X G a_law_steady,
    k_law_steady := by rw [hA]; exact k_law_steady,
    d_law_steady := by rw [hA]; exact ⟨_, fun_mk (st := s_law_steady) l_law_steady cd_is_law_steady k_law_steady⟩,
    g_law_some := by rw [hA]; exact PySem.W.mg_of X G a_law_some,
    k_law_some := by rw [hA]; exact k_law_some,
    d_law_some := by rw [hA]; exact ⟨_, fun_mk (st := s_law_some) l_law_some cd_is_law_some k_law_some⟩,
    g_law_torn := by rw [hA]; exact PySem.W.mg_of X G a_law_torn,
    k_law_torn := by rw [hA]; exact k_law_torn,
    d_law_torn := by rw [hA]; exact ⟨_, fun_mk (st := s_law_torn) l_law_torn cd_is_law_torn k_law_torn⟩,
    g_law_morning := by rw [hA]; exact PySem.W.mg_of X G a_law_morning,
    k_law_morning := by rw [hA]; exact k_law_morning,
    d_law_morning := by rw [hA]; exact ⟨_, fun_mk (st := s_law_morning) l_law_morning cd_is_law_morning k_law_morning⟩,
    g_law_rests := by rw [hA]; exact PySem.W.mg_of X G a_law_rests,
    k_law_rests := by rw [hA]; exact k_law_rests,
    d_law_rests := by rw [hA]; exact ⟨_, fun_mk (st := s_law_rests) l_law_rests cd_is_law_rests k_law_rests⟩,
    g_law := by rw [hA]; exact PySem.W.mg_of X G a_law,
    k_law := by rw [hA]; exact k_law,
    d_law := by rw [hA]; exact ⟨_, fun_mk (st := s_law) l_law cd_is_law k_law⟩,
    g_WORDS := by rw [hA]; exact PySem.W.mg_of X G a_WORDS,
    g_WHOLE := by rw [hA]; exact PySem.W.mg_of X G a_WHOLE,
    g_FORMS := by rw [hA]; exact PySem.W.mg_of X G a_FORMS,
    g_CHOICES := by rw [hA]; exact PySem.W.mg_of X G a_CHOICES,
    w_WHOLE := by rw [hA]; exact whole_mk l_WHOLE,
    e_MendError := by rw [hA]; exact ⟨PySem.W.mg_of X G a_MendError, ⟨_, _, _, _, _, _, _, _, _, _, _, _, _, _, _, x_MendError⟩⟩,
    e_InvalidNumber := by rw [hA]; exact ⟨PySem.W.mg_of X G a_InvalidNumber, kc_InvalidNumber, ⟨_, _, _, _, _, _, _, _, _, _, _, _, _, _, x_InvalidNumber⟩, sa_InvalidNumber, ga_InvalidNumber, gg_InvalidNumber, ca_InvalidNumber⟩,
    f_InvalidNumber := by rw [hA]; exact ⟨i_is_InvalidNumber, t_InvalidNumber, nf_InvalidNumber, ⟨_, fun_mk (st := s_InvalidNumber) l_i_InvalidNumber cd_is_i_InvalidNumber k_i_InvalidNumber⟩⟩,
    e_InvalidRules := by rw [hA]; exact ⟨PySem.W.mg_of X G a_InvalidRules, kc_InvalidRules, ⟨_, _, _, _, _, _, _, _, _, _, _, _, _, _, x_InvalidRules⟩, sa_InvalidRules, ga_InvalidRules, gg_InvalidRules, ca_InvalidRules⟩,
    f_InvalidRules := by rw [hA]; exact ⟨i_is_InvalidRules, t_InvalidRules, nf_InvalidRules, ⟨_, fun_mk (st := s_InvalidRules) l_i_InvalidRules cd_is_i_InvalidRules k_i_InvalidRules⟩⟩,
    nd := by rw [hA]; exact nd,
    g_Rules := by rw [hA]; exact PySem.W.mg_of X G a_Rules,
    cR := by rw [hA]; exact ⟨rc1, rc2, rc3, rc4⟩,
    mkR := by rw [hA]; exact ⟨rm1, rm2, rm3, rm4⟩,
    mt_change := by rw [hA]; exact ⟨me_change, mf_change, k_m_change⟩,
    mt_copy := by rw [hA]; exact ⟨me_copy, mf_copy, k_m_copy⟩,
    pp_number := by rw [hA]; exact ⟨pa_number, pb_number, pc_number, _, pd_number⟩,
    nc := by rw [hA]; exact nc_is,
    rd := by rw [hA]; exact ⟨rq1, rq2⟩,
    cv_NAMES := by rw [hA]; exact ⟨v_NAMES, rfl⟩,
    tN := by rw [hA]; exact tup5s l_NAMES,
    lN := by rw [hA]; exact ⟨_, l_NAMES, rfl, rfl⟩,
    cv_COUNT := by rw [hA]; exact ⟨_, v_COUNT, ⟨_, rfl⟩⟩,
    cm := by rw [hA]; exact ⟨u1, ⟨_, u2⟩, u3⟩,
    n_int := PySem.W.mg_none_of X G z_int,
    n_bool := PySem.W.mg_none_of X G z_bool,
    n_str := PySem.W.mg_none_of X G z_str,
    n_list := PySem.W.mg_none_of X G z_list,
    n_tuple := PySem.W.mg_none_of X G z_tuple,
    n_dict := PySem.W.mg_none_of X G z_dict,
    n_len := PySem.W.mg_none_of X G z_len,
    n_range := PySem.W.mg_none_of X G z_range,
    n_enumerate := PySem.W.mg_none_of X G z_enumerate,
    n_isinstance := PySem.W.mg_none_of X G z_isinstance,
    n_sum := PySem.W.mg_none_of X G z_sum,
    n_min := PySem.W.mg_none_of X G z_min,
    n_max := PySem.W.mg_none_of X G z_max,
    n_zip := PySem.W.mg_none_of X G z_zip,
    n_all := PySem.W.mg_none_of X G z_all,
    n_sorted := PySem.W.mg_none_of X G z_sorted }
  have hW : WdK w K A.WORDS := by rw [hA]; exact words_mk12 sm_WORDS l_WORDS l_W0 l_W1 l_W2 l_W3 l_W4
  have hF : TabK l.prog w K A.FORMS formsT := by rw [hA]; exact forms_mk sm_FORMS l_FORMS l_F0 l_F1 l_F2 l_F3 l_F4 l_F5 l_F6 l_F7
  have hC : ChK w K A.CHOICES := by rw [hA]; exact choices_mk sm_CHOICES l_CHOICES l_C0 l_Ca0 l_Cb0 l_C1 l_Ca1 l_Cb1 l_C2 l_Ca2 l_Cb2 l_C3 l_Ca3 l_Cb3 l_C4 l_Ca4 l_Cb4 l_C5 l_Ca5 l_Cb5
  have FL := fun_mk (st := s_law) l_law cd_is_law k_law
  have eL : A.law = fa := by rw [hA]
  refine ⟨PySem.W.fnOf "law" "law" (defArgs s_law) (defBody s_law) (defScope s_law) .none kV_law doc_law pm_law an_law cd_law ct_law, fun s v => .of_eq rfl, fun base _ _ => ?_⟩
  rw [← eL] at FL ⊢
  have g_check_image := ok_check_image (P := l.prog) (w := w) (base := base) T 
  have g_least_records := ok_least_records (P := l.prog) (w := w) (base := base) T 
  have g_groups := ok_groups (P := l.prog) (w := w) (base := base) T g_check_image g_least_records
  have g_row_of := ok_row_of (P := l.prog) (w := w) (base := base) T 
  have g_piece_of := ok_piece_of (P := l.prog) (w := w) (base := base) T hF g_row_of
  have g_pieces := ok_pieces (P := l.prog) (w := w) (base := base) T g_groups g_piece_of
  have g_is_repairable := ok_is_repairable (P := l.prog) (w := w) (base := base) T g_groups g_piece_of
  have g_torn_pieces := ok_torn_pieces (P := l.prog) (w := w) (base := base) T g_pieces
  have g_InvalidNumber := ok_InvalidNumber (P := l.prog) (w := w) (base := base) T 
  have g_InvalidRules := ok_InvalidRules (P := l.prog) (w := w) (base := base) T 
  have g_m_change := ok_m_change (P := l.prog) (w := w) (base := base) T hW g_InvalidRules
  have g_m_number := ok_m_number (P := l.prog) (w := w) (base := base) T hW 
  have g_m_init := ok_m_init (P := l.prog) (w := w) (base := base) T g_m_change
  have g_m_numbered := ok_m_numbered (P := l.prog) (w := w) (base := base) T hW g_m_init g_InvalidNumber
  have g_m_copy := ok_m_copy (P := l.prog) (w := w) (base := base) T g_m_numbered g_m_number
  have g_law_integer := ok_law_integer (P := l.prog) (w := w) (base := base) T 
  have g_law_cell := ok_law_cell (P := l.prog) (w := w) (base := base) T 
  have g_law_stream := ok_law_stream (P := l.prog) (w := w) (base := base) T g_law_cell
  have g_law_draw := ok_law_draw (P := l.prog) (w := w) (base := base) T 
  have g_or_standard := ok_or_standard (P := l.prog) (w := w) (base := base) T g_m_init
  have g_chosen := ok_chosen (P := l.prog) (w := w) (base := base) T g_m_number
  have g_choices := ok_choices (P := l.prog) (w := w) (base := base) T hC 
  have g_repair := ok_repair (P := l.prog) (w := w) (base := base) T g_or_standard g_torn_pieces g_choices g_chosen
  have g_law_same := ok_law_same (P := l.prog) (w := w) (base := base) T g_law_integer
  have g_law_mended := ok_law_mended (P := l.prog) (w := w) (base := base) T 
  have g_law_goal := ok_law_goal (P := l.prog) (w := w) (base := base) T g_law_mended
  have g_writes := ok_writes (P := l.prog) (w := w) (base := base) T g_repair
  have g_torn_repair := ok_torn_repair (P := l.prog) (w := w) (base := base) T g_repair g_writes
  have g_law_length := ok_law_length (P := l.prog) (w := w) (base := base) T 
  have g_law_shown := ok_law_shown (P := l.prog) (w := w) (base := base) T 
  have g_law_part := ok_law_part (P := l.prog) (w := w) (base := base) T 
  have g_law_words := ok_law_words (P := l.prog) (w := w) (base := base) T g_law_length
  have g_law_order := ok_law_order (P := l.prog) (w := w) (base := base) T g_law_draw
  have g_law_size := ok_law_size (P := l.prog) (w := w) (base := base) T g_law_draw
  have g_law_build := ok_law_build (P := l.prog) (w := w) (base := base) T g_law_order g_law_words g_law_draw g_law_part g_law_length g_law_shown
  have g_law_steady := ok_law_steady (P := l.prog) (w := w) (base := base) T g_m_init g_law_draw g_m_numbered g_m_copy g_m_change
  have g_law_some := ok_law_some (P := l.prog) (w := w) (base := base) T g_torn_repair
  have g_law_torn := ok_law_torn (P := l.prog) (w := w) (base := base) T g_torn_repair g_law_some
  have g_law_morning := ok_law_morning (P := l.prog) (w := w) (base := base) T g_repair g_writes g_law_draw g_is_repairable g_law_same g_law_torn
  have g_law_rests := ok_law_rests (P := l.prog) (w := w) (base := base) T g_repair g_writes g_law_same
  exact ok_law T FL g_repair g_law_stream g_law_draw g_law_size g_law_build g_law_steady g_law_goal g_law_same g_law_rests g_law_morning g_m_number g_law_integer
theorem walk {l : PySem.W.OpenLaw} {q : Program} {loose : List Str} {XP : (Str → Option Value) → Heap → Prop} {YP : World → Heap → Prop} {d : DefRec} {K : Params → PySem.W.Frag} (hn : l.most = some 63) (hdf : d.params.defaults = [])
    (hY : ∀ (w : World) (h : Heap), YP w h → (K w.params).In h)
    (F : ∀ (w : World) (mg : Str → Option Value) (fa : Addr) (h : Heap), (K w.params).In h → h.Ns mainGlobals mg → mg d.name = some (.ref fa) →
      ∃ fd : FuncData, (∀ (s : Shared) (u : Value), BindsTo s fd ⟨[u], []⟩ [("script", u)]) ∧ ∀ base : Heap, (K w.params).In base → base.Ns mainGlobals mg → FnOk l.prog w (K w.params) mg base CX0 13 fa fd ["script"] (spLaw (K w.params))) :
    PySem.W.WalkO q loose XP YP l.row.toRowW d [] (fun f vs => PySem.call f vs) :=
  L2.walk_of (n := 63) (k := 13) (x := "script") (CX := fun _ => CX0) (sp := fun w => spLaw (K w.params)) hn (by decide) hdf ⟨rfl, by decide, by decide⟩ hY F (fun _ _ a ns hl _ hS => ⟨a, ns, rfl, hS, hl, fun _ => rfl⟩) fun _ _ _ _ _ z => z
end Pv

open PySem PySem.W PyProof.Rows
set_option maxRecDepth 100000 in
set_option maxHeartbeats 0 in
theorem PySem.Challenge.cw_peermend_k15_whole_stopped_repairs_holds : PySem.Challenge.rw_peermend_k15_whole_stopped_repairs.Holds := by
  w_on; o_law; k_head; (case hw => w_witness2)
  k_fill
  refine Pv.walk (l := PySem.Challenge.rw_peermend_k15_whole_stopped_repairs) rfl rfl (fun w h Y => PySem.W.kIn_of Y) ?F
  case F =>
    intro w mg fa h KX G hmg
    refine' Pv.all_mk KX G hmg ?qa_Rules ?qrm2 ?qme_change ?qme_copy ?qpa_number ?qpd_number ?qu1 ?qu2 ?qa_own ?ql_own ?qcd_is_own ?qk_own ?qa_check_image ?ql_check_image ?qcd_is_check_image ?qk_check_image ?qa_groups ?ql_groups ?qcd_is_groups ?qk_groups ?qa_least_records ?ql_least_records ?qcd_is_least_records ?qk_least_records ?qa_pieces ?ql_pieces ?qcd_is_pieces ?qk_pieces ?qa_is_repairable ?ql_is_repairable ?qcd_is_is_repairable ?qk_is_repairable ?qa_torn_pieces ?ql_torn_pieces ?qcd_is_torn_pieces ?qk_torn_pieces ?qa_piece_of ?ql_piece_of ?qcd_is_piece_of ?qk_piece_of ?qa_row_of ?ql_row_of ?qcd_is_row_of ?qk_row_of ?ql_m_init ?qcd_is_m_init ?qk_m_init ?qkd_hook ?qkd_relay ?qkd_clamp ?qkd_trail ?qkd_wheel ?ql_m_number ?qcd_is_m_number ?qk_m_number ?ql_m_change ?qcd_is_m_change ?qk_m_change ?ql_m_copy ?qcd_is_m_copy ?qk_m_copy ?ql_m_numbered ?qcd_is_m_numbered ?qk_m_numbered ?qa_or_standard ?ql_or_standard ?qcd_is_or_standard ?qk_or_standard ?qa_repair ?ql_repair ?qcd_is_repair ?qk_repair ?ql_dt_repair ?qa_writes ?ql_writes ?qcd_is_writes ?qk_writes ?ql_dt_writes ?qa_torn_repair ?ql_torn_repair ?qcd_is_torn_repair ?qk_torn_repair ?qkq_torn_repair ?qa_choices ?ql_choices ?qcd_is_choices ?qk_choices ?qa_chosen ?ql_chosen ?qcd_is_chosen ?qk_chosen ?qa_law_integer ?ql_law_integer ?qcd_is_law_integer ?qk_law_integer ?qa_law_same ?ql_law_same ?qcd_is_law_same ?qk_law_same ?qa_law_cell ?ql_law_cell ?qcd_is_law_cell ?qk_law_cell ?qa_law_stream ?ql_law_stream ?qcd_is_law_stream ?qk_law_stream ?qa_law_draw ?ql_law_draw ?qcd_is_law_draw ?qk_law_draw ?qa_law_size ?ql_law_size ?qcd_is_law_size ?qk_law_size ?qa_law_order ?ql_law_order ?qcd_is_law_order ?qk_law_order ?qa_law_length ?ql_law_length ?qcd_is_law_length ?qk_law_length ?qa_law_part ?ql_law_part ?qcd_is_law_part ?qk_law_part ?qa_law_shown ?ql_law_shown ?qcd_is_law_shown ?qk_law_shown ?qa_law_mended ?ql_law_mended ?qcd_is_law_mended ?qk_law_mended ?qa_law_goal ?ql_law_goal ?qcd_is_law_goal ?qk_law_goal ?qa_law_words ?ql_law_words ?qcd_is_law_words ?qk_law_words ?qa_law_build ?ql_law_build ?qcd_is_law_build ?qk_law_build ?qa_law_steady ?ql_law_steady ?qcd_is_law_steady ?qk_law_steady ?qa_law_some ?ql_law_some ?qcd_is_law_some ?qk_law_some ?qa_law_torn ?ql_law_torn ?qcd_is_law_torn ?qk_law_torn ?qa_law_morning ?ql_law_morning ?qcd_is_law_morning ?qk_law_morning ?qa_law_rests ?ql_law_rests ?qcd_is_law_rests ?qk_law_rests ?qa_law ?ql_law ?qcd_is_law ?qk_law ?qa_WORDS ?qa_WHOLE ?qa_FORMS ?qa_CHOICES ?qsm_WORDS ?ql_WORDS ?ql_W0 ?ql_W1 ?ql_W2 ?ql_W3 ?ql_W4 ?ql_WHOLE ?qsm_FORMS ?ql_FORMS ?ql_F0 ?ql_F1 ?ql_F2 ?ql_F3 ?ql_F4 ?ql_F5 ?ql_F6 ?ql_F7 ?qsm_CHOICES ?ql_CHOICES ?ql_C0 ?ql_Ca0 ?ql_Cb0 ?ql_C1 ?ql_Ca1 ?ql_Cb1 ?ql_C2 ?ql_Ca2 ?ql_Cb2 ?ql_C3 ?ql_Ca3 ?ql_Cb3 ?ql_C4 ?ql_Ca4 ?ql_Cb4 ?ql_C5 ?ql_Ca5 ?ql_Cb5 ?qa_MendError ?qx_MendError ?qa_InvalidNumber ?qx_InvalidNumber ?qkc_InvalidNumber ?qsa_InvalidNumber ?qga_InvalidNumber ?qgg_InvalidNumber ?qca_InvalidNumber ?qi_is_InvalidNumber ?qt_InvalidNumber ?qnf_InvalidNumber ?ql_i_InvalidNumber ?qcd_is_i_InvalidNumber ?qk_i_InvalidNumber ?qa_InvalidRules ?qx_InvalidRules ?qkc_InvalidRules ?qsa_InvalidRules ?qga_InvalidRules ?qgg_InvalidRules ?qca_InvalidRules ?qi_is_InvalidRules ?qt_InvalidRules ?qnf_InvalidRules ?ql_i_InvalidRules ?qcd_is_i_InvalidRules ?qk_i_InvalidRules ?qnd ?qrc1 ?qrc2 ?qrc3 ?qrc4 ?qrm1 ?qrm3 ?qrm4 ?qmf_change ?qmf_copy ?qpb_number ?qpc_number ?qnc_is ?qrq1 ?qrq2 ?qv_NAMES ?ql_NAMES ?qv_COUNT ?qu3 ?qz_int ?qz_bool ?qz_str ?qz_list ?qz_tuple ?qz_dict ?qz_len ?qz_range ?qz_enumerate ?qz_isinstance ?qz_sum ?qz_min ?qz_max ?qz_zip ?qz_all ?qz_sorted
    (case qa_Rules => k_is)
    (case qrm2 => k_is)
    (case qme_change => k_is)
    (case qme_copy => k_is)
    (case qpa_number => k_is)
    (case qpd_number => k_is)
    (case qu1 => k_is)
    (case qu2 => k_is)
    (case qa_own => k_is)
    (case ql_own => k_is)
    (case qcd_is_own => k_is)
    (case qk_own => k_is)
    (case qa_check_image => k_is)
    (case ql_check_image => k_is)
    (case qcd_is_check_image => k_is)
    (case qk_check_image => k_is)
    (case qa_groups => k_is)
    (case ql_groups => k_is)
    (case qcd_is_groups => k_is)
    (case qk_groups => k_is)
    (case qa_least_records => k_is)
    (case ql_least_records => k_is)
    (case qcd_is_least_records => k_is)
    (case qk_least_records => k_is)
    (case qa_pieces => k_is)
    (case ql_pieces => k_is)
    (case qcd_is_pieces => k_is)
    (case qk_pieces => k_is)
    (case qa_is_repairable => k_is)
    (case ql_is_repairable => k_is)
    (case qcd_is_is_repairable => k_is)
    (case qk_is_repairable => k_is)
    (case qa_torn_pieces => k_is)
    (case ql_torn_pieces => k_is)
    (case qcd_is_torn_pieces => k_is)
    (case qk_torn_pieces => k_is)
    (case qa_piece_of => k_is)
    (case ql_piece_of => k_is)
    (case qcd_is_piece_of => k_is)
    (case qk_piece_of => k_is)
    (case qa_row_of => k_is)
    (case ql_row_of => k_is)
    (case qcd_is_row_of => k_is)
    (case qk_row_of => k_is)
    (case ql_m_init => k_is)
    (case qcd_is_m_init => k_is)
    (case qk_m_init => k_is)
    (case qkd_hook => k_is)
    (case qkd_relay => k_is)
    (case qkd_clamp => k_is)
    (case qkd_trail => k_is)
    (case qkd_wheel => k_is)
    (case ql_m_number => k_is)
    (case qcd_is_m_number => k_is)
    (case qk_m_number => k_is)
    (case ql_m_change => k_is)
    (case qcd_is_m_change => k_is)
    (case qk_m_change => k_is)
    (case ql_m_copy => k_is)
    (case qcd_is_m_copy => k_is)
    (case qk_m_copy => k_is)
    (case ql_m_numbered => k_is)
    (case qcd_is_m_numbered => k_is)
    (case qk_m_numbered => k_is)
    (case qa_or_standard => k_is)
    (case ql_or_standard => k_is)
    (case qcd_is_or_standard => k_is)
    (case qk_or_standard => k_is)
    (case qa_repair => k_is)
    (case ql_repair => k_is)
    (case qcd_is_repair => k_is)
    (case qk_repair => k_is)
    (case ql_dt_repair => k_is)
    (case qa_writes => k_is)
    (case ql_writes => k_is)
    (case qcd_is_writes => k_is)
    (case qk_writes => k_is)
    (case ql_dt_writes => k_is)
    (case qa_torn_repair => k_is)
    (case ql_torn_repair => k_is)
    (case qcd_is_torn_repair => k_is)
    (case qk_torn_repair => k_is)
    (case qkq_torn_repair => k_is)
    (case qa_choices => k_is)
    (case ql_choices => k_is)
    (case qcd_is_choices => k_is)
    (case qk_choices => k_is)
    (case qa_chosen => k_is)
    (case ql_chosen => k_is)
    (case qcd_is_chosen => k_is)
    (case qk_chosen => k_is)
    (case qa_law_integer => k_is)
    (case ql_law_integer => k_is)
    (case qcd_is_law_integer => k_is)
    (case qk_law_integer => k_is)
    (case qa_law_same => k_is)
    (case ql_law_same => k_is)
    (case qcd_is_law_same => k_is)
    (case qk_law_same => k_is)
    (case qa_law_cell => k_is)
    (case ql_law_cell => k_is)
    (case qcd_is_law_cell => k_is)
    (case qk_law_cell => k_is)
    (case qa_law_stream => k_is)
    (case ql_law_stream => k_is)
    (case qcd_is_law_stream => k_is)
    (case qk_law_stream => k_is)
    (case qa_law_draw => k_is)
    (case ql_law_draw => k_is)
    (case qcd_is_law_draw => k_is)
    (case qk_law_draw => k_is)
    (case qa_law_size => k_is)
    (case ql_law_size => k_is)
    (case qcd_is_law_size => k_is)
    (case qk_law_size => k_is)
    (case qa_law_order => k_is)
    (case ql_law_order => k_is)
    (case qcd_is_law_order => k_is)
    (case qk_law_order => k_is)
    (case qa_law_length => k_is)
    (case ql_law_length => k_is)
    (case qcd_is_law_length => k_is)
    (case qk_law_length => k_is)
    (case qa_law_part => k_is)
    (case ql_law_part => k_is)
    (case qcd_is_law_part => k_is)
    (case qk_law_part => k_is)
    (case qa_law_shown => k_is)
    (case ql_law_shown => k_is)
    (case qcd_is_law_shown => k_is)
    (case qk_law_shown => k_is)
    (case qa_law_mended => k_is)
    (case ql_law_mended => k_is)
    (case qcd_is_law_mended => k_is)
    (case qk_law_mended => k_is)
    (case qa_law_goal => k_is)
    (case ql_law_goal => k_is)
    (case qcd_is_law_goal => k_is)
    (case qk_law_goal => k_is)
    (case qa_law_words => k_is)
    (case ql_law_words => k_is)
    (case qcd_is_law_words => k_is)
    (case qk_law_words => k_is)
    (case qa_law_build => k_is)
    (case ql_law_build => k_is)
    (case qcd_is_law_build => k_is)
    (case qk_law_build => k_is)
    (case qa_law_steady => k_is)
    (case ql_law_steady => k_is)
    (case qcd_is_law_steady => k_is)
    (case qk_law_steady => k_is)
    (case qa_law_some => k_is)
    (case ql_law_some => k_is)
    (case qcd_is_law_some => k_is)
    (case qk_law_some => k_is)
    (case qa_law_torn => k_is)
    (case ql_law_torn => k_is)
    (case qcd_is_law_torn => k_is)
    (case qk_law_torn => k_is)
    (case qa_law_morning => k_is)
    (case ql_law_morning => k_is)
    (case qcd_is_law_morning => k_is)
    (case qk_law_morning => k_is)
    (case qa_law_rests => k_is)
    (case ql_law_rests => k_is)
    (case qcd_is_law_rests => k_is)
    (case qk_law_rests => k_is)
    (case qa_law => k_is)
    (case ql_law => k_is)
    (case qcd_is_law => k_is)
    (case qk_law => k_is)
    (case qa_WORDS => k_is)
    (case qa_WHOLE => k_is)
    (case qa_FORMS => k_is)
    (case qa_CHOICES => k_is)
    (case qsm_WORDS => first | decide | rfl | k_is)
    (case ql_WORDS => k_is)
    (case ql_W0 => k_is)
    (case ql_W1 => k_is)
    (case ql_W2 => k_is)
    (case ql_W3 => k_is)
    (case ql_W4 => k_is)
    (case ql_WHOLE => k_is)
    (case qsm_FORMS => first | decide | rfl | k_is)
    (case ql_FORMS => k_is)
    (case ql_F0 => k_is)
    (case ql_F1 => k_is)
    (case ql_F2 => k_is)
    (case ql_F3 => k_is)
    (case ql_F4 => k_is)
    (case ql_F5 => k_is)
    (case ql_F6 => k_is)
    (case ql_F7 => k_is)
    (case qsm_CHOICES => first | decide | rfl | k_is)
    (case ql_CHOICES => k_is)
    (case ql_C0 => k_is)
    (case ql_Ca0 => k_is)
    (case ql_Cb0 => k_is)
    (case ql_C1 => k_is)
    (case ql_Ca1 => k_is)
    (case ql_Cb1 => k_is)
    (case ql_C2 => k_is)
    (case ql_Ca2 => k_is)
    (case ql_Cb2 => k_is)
    (case ql_C3 => k_is)
    (case ql_Ca3 => k_is)
    (case ql_Cb3 => k_is)
    (case ql_C4 => k_is)
    (case ql_Ca4 => k_is)
    (case ql_Cb4 => k_is)
    (case ql_C5 => k_is)
    (case ql_Ca5 => k_is)
    (case ql_Cb5 => k_is)
    (case qa_MendError => k_is)
    (case qx_MendError => k_is)
    (case qa_InvalidNumber => k_is)
    (case qx_InvalidNumber => k_is)
    (case qkc_InvalidNumber => k_is)
    (case qsa_InvalidNumber => k_is)
    (case qga_InvalidNumber => k_is)
    (case qgg_InvalidNumber => k_is)
    (case qca_InvalidNumber => k_is)
    (case qi_is_InvalidNumber => k_is)
    (case qt_InvalidNumber => k_is)
    (case qnf_InvalidNumber => k_is)
    (case ql_i_InvalidNumber => k_is)
    (case qcd_is_i_InvalidNumber => k_is)
    (case qk_i_InvalidNumber => k_is)
    (case qa_InvalidRules => k_is)
    (case qx_InvalidRules => k_is)
    (case qkc_InvalidRules => k_is)
    (case qsa_InvalidRules => k_is)
    (case qga_InvalidRules => k_is)
    (case qgg_InvalidRules => k_is)
    (case qca_InvalidRules => k_is)
    (case qi_is_InvalidRules => k_is)
    (case qt_InvalidRules => k_is)
    (case qnf_InvalidRules => k_is)
    (case ql_i_InvalidRules => k_is)
    (case qcd_is_i_InvalidRules => k_is)
    (case qk_i_InvalidRules => k_is)
    (case qnd => decide)
    (case qrc1 => k_is)
    (case qrc2 => k_is)
    (case qrc3 => k_is)
    (case qrc4 => k_is)
    (case qrm1 => k_is)
    (case qrm3 => k_is)
    (case qrm4 => k_is)
    (case qmf_change => k_is)
    (case qmf_copy => k_is)
    (case qpb_number => k_is)
    (case qpc_number => k_is)
    (case qnc_is => k_is)
    (case qrq1 => k_is)
    (case qrq2 => k_is)
    (case qv_NAMES => k_is)
    (case ql_NAMES => k_is)
    (case qv_COUNT => k_is)
    (case qu3 => k_is)
    (case qz_int => k_is)
    (case qz_bool => k_is)
    (case qz_str => k_is)
    (case qz_list => k_is)
    (case qz_tuple => k_is)
    (case qz_dict => k_is)
    (case qz_len => k_is)
    (case qz_range => k_is)
    (case qz_enumerate => k_is)
    (case qz_isinstance => k_is)
    (case qz_sum => k_is)
    (case qz_min => k_is)
    (case qz_max => k_is)
    (case qz_zip => k_is)
    (case qz_all => k_is)
    (case qz_sorted => k_is)
