import PyProof.Rows.All
import Wide.All
import OpenK.AllK
import Wide.FinOn
import KE.KIsAll
import KE.KExcIs
import HandS.ForMost
import HandS.ForExc
import HandS.TryMany
import HandS.ExcInit
import HandS.ExcValue
import HandS.ExcField
import HandS.IsInst
import HandS.ExcIs
import HandS.Small
import HandS.Wide
import HandS.Flow
import HandS.Evl
import HandS.Conv
import HandS.Walk
import KE.KDictKeyed
import KE.KDictList
import KE.KDictDisplayH
import HandS.SetKeys
import HandS.DictComp
import HandS.NoneIn
import HandS.SortInts
import HandS.SortOrd
import HandS.TupAny
import HandS.ListItems
import HandS.SortRule
import HandS.ExcCtx
import HandS.HotCalls
import HandS.ExcInitHot
import HandS.TupSets
import HandS.SetFor
import HandS.Deep
import PyProof.WalkInts
import PyProof.WalksMore
import KE.GoesMore
import HandS.Zip
import HandS.Style
import HandS.HeadHook3
import HandS.Star
import HandS.MakeKwOnly
import HandS.CallLocal
import HandS.ClsMeth
import HandS.ExcOwn
import HandS.Property
import HandS.More
import HandS.SlotsOwn
import HandS.FStr
import HandS.List
import KE.KRevSl
import KE.SortData
import KE.DataCmp
import PySem.Challenge.RW_peermend_k07_whole_parts_of_built_update
set_option Elab.async false
set_option linter.all false
set_option maxRecDepth 100000
set_option maxHeartbeats 4000000
namespace L2
open PySem PySem.Spec PyProof.Rows

/-- an error object held as a value: without a dict, or with one that holds fields -/
def ErrT (H : Hp) (a C : Addr) : Prop := H a = some (ExO (.ref C) a) ∨ ∃ (dx : Addr) (fs : List (Str × V)), H a = some (exo a C (some dx)) ∧ H dx = some (exd dx fs)
/-- isinstance of such a value -/
def rIsX (K : PySem.W.Frag) : List V → Hp → VK → Prop := fun xs H Q => ∃ (a C : Addr) (c : V) (u : Value) (b : Bool), xs = [.ref a, c] ∧ ErrT H a C ∧ ExcC K C ∧ ClsV c u ∧ PySem.W.kitOne K (.ref C) u = some b ∧ Q (.bl b) H
theorem clsIn_some {K : PySem.W.Frag} {C : Addr} (h : PySem.W.hasDictIn K C = true) : (PySem.W.clsIn K C).isSome = true := by
  obtain ⟨cd, hc, _⟩ := PySem.W.any_some h
  rw [hc]
  rfl
theorem kitX_err {K : PySem.W.Frag} {C a : Addr} {oe : Obj} {od : Option Obj} (D : ExcC K C) : PySem.W.KitX K (.ref a) (.ref C) (fun h => PySem.W.InstAt h a oe C od) :=
  PySem.W.kitx_exc (clsIn_some D.hd) D.hg D.hk D.hs D.ha D.hn D.ht D.hm
theorem call_isX {X : Cx} : CallR X (.builtin "isinstance") (rIsX X.K) := by
  intro pins s σ H xs us Q I r h
  obtain ⟨a, C, c, u, b, rfl, T, D, k, e, q⟩ := h
  obtain ⟨u1, u2, rfl, r1, r2⟩ := vals2 r
  have e2 := k.eq r2
  subst e2
  cases (show u1 = Value.ref a from r1)
  rcases T with ea | ⟨dx, fs, ea, ed⟩
  · have x : ObjOk X.prog X.w H s.heap a (ExO (.ref C) a) := I.hok a _ ea
    obtain ⟨⟨oe, vs, ho, hz, hd, _⟩, _, _⟩ := x
    obtain ⟨oc, odi, oda, osl⟩ := oe
    obtain ⟨h1, h2⟩ := hz
    dsimp only at h1 h2 hd
    subst h1 h2 hd
    exact PySem.W.kia_one (kitX_err (od := none) D) I.kIn ⟨ho, rfl, rfl, trivial⟩ e (fun z => nomatch z) fun tk => ⟨.bl b, H, I.tok tk, rfl, q⟩
  · obtain ⟨t1, ho⟩ := exo_at I.hok ea
    obtain ⟨mA, hns, _⟩ := exd_at I.hok ed
    obtain ⟨od, ho2, _⟩ := lookIn_ns hns
    exact PySem.W.kia_one (kitX_err (od := some od) D) I.kIn ⟨ho, rfl, rfl, ho2⟩ e (fun z => nomatch z) fun tk => ⟨.bl b, H, I.tok tk, rfl, q⟩
/-- isinstance(e, c), e the exception that the suite holds, with its dict -/
def rIsS (K : PySem.W.Frag) (a : Addr) (cls : Value) (d : Option Addr) : List V → Hp → VK → Prop := fun xs H Q => ∃ (C dd : Addr) (fs : List (Str × V)) (c : V) (u : Value) (b : Bool), xs = [.ref a, c] ∧ cls = .ref C ∧ d = some dd ∧ H dd = some (.xd fs) ∧
  ExcC K C ∧ ClsV c u ∧ PySem.W.kitOne K (.ref C) u = some b ∧ Q (.bl b) H
theorem call_isS {X : Cx} {K : PySem.W.Frag} {a : Addr} {cls : Value} {d : Option Addr} {oe : Obj} {pn : List (Addr × Obj)} (hK : X.K = K) (hz : Zc cls d oe) (hf : ∃ vs, oe.data = .fields vs) : CallR (X.suite a ((a, oe) :: pn)) (.builtin "isinstance") (rIsS K a cls d) := by
  subst hK
  intro pins s σ H xs us Q I r h
  obtain ⟨C, dd, fs, c, u, b, rfl, rfl, rfl, ea, D, k, e, q⟩ := h
  obtain ⟨u1, u2, rfl, r1, r2⟩ := vals2 r
  have e2 := k.eq r2
  subst e2
  cases (show u1 = Value.ref a from r1)
  obtain ⟨hget, _⟩ := I.pin (a, oe) (List.mem_append.mpr (.inl List.mem_cons_self))
  obtain ⟨vs, hv⟩ := hf
  have hx : ObjOk X.prog X.w H s.heap dd (.xd fs) := I.hok dd _ ea
  obtain ⟨mA, hns, hr⟩ := hx
  obtain ⟨od, ho, hl⟩ := lookIn_ns hns
  have J : PySem.W.InstAt s.heap a oe C (some od) := ⟨hget, hz.1, by unfold PySem.W.notCls; rw [hv] <;> rfl, by rw [hz.2]; exact ho⟩
  exact PySem.W.kia_one (kitX_err D) I.kIn J e (fun z => nomatch z) fun tk => ⟨.bl b, H, I.kept (t' := tk) fun _ _ z => z, rfl, q⟩

section
variable {X : Cx} {C : Addr} {bmB : List Value} {B newId initId : String} {x : Str} {p pos : Pos}
/-- X(), raised: an own exception class without own __init__ -/
theorem pmk_own0 (F : ExcBaseFacts B newId initId bmB) (q : PySem.W.excIn X.K C bmB newId = true) (gC : X.mg x = some (.ref C)) (kC : PySem.W.keepIn X.K (.ref C) = true) (r : Raises X (.ref C)) (hg : Gl X x)
    (hdb : (x == ("__debug__" : Str)) = false := by decide) : PMk X (.Call (.Name x p) [] [] pos) (fun _ H Q => Q (.ref C) none H) := by
  intro pins s σ H Q I h
  refine wpAny_Call_Name_kw (ld_glob I hg gC ?_ hdb)
  refine PySem.W.callWith_K0 I.kIn kC ?_
  obtain ⟨bm, N, nm, qn, bs, hdct, sn, sub, ab, col, dd, k0, k1, k2, k3, k5, mN, hC, hN, hni, T⟩ := exc_obj I.kIn q
  refine wpAny_call_exc_subT F T hC hN hni (fun h' e hm => ?_) (Nat.zero_le _)
  exact mk_of I hm r h (I.hok.gone hm.new)
/-- X(), as a value -/
theorem pe_exc0 (F : ExcBaseFacts B newId initId bmB) (q : PySem.W.excIn X.K C bmB newId = true) (gC : X.mg x = some (.ref C)) (kC : PySem.W.keepIn X.K (.ref C) = true) (hg : Gl X x)
    (hdb : (x == ("__debug__" : Str)) = false := by decide) : PE X (.Call (.Name x p) [] [] pos) (fun _ H Q => ∀ a, H a = none → Q (.ref a) (upd H a (ExO (.ref C) a))) := by
  refine ⟨fun pins s σ H Q I h => ?_⟩
  refine wpAny_Call_Name_kw (ld_glob I hg gC ?_ hdb)
  refine PySem.W.callWith_K0 I.kIn kC ?_
  obtain ⟨bm, N, nm, qn, bs, hdct, sn, sub, ab, col, dd, k0, k1, k2, k3, k5, mN, hC, hN, hni, T⟩ := exc_obj I.kIn q
  refine wpAny_call_exc_subT F T hC hN hni (fun h' a hm => ?_) (Nat.zero_le _)
  have hn : H a = none := I.hok.gone hm.new
  obtain ⟨t, ht, _, _⟩ := hm.there
  exact ⟨.ref a, upd H a (ExO (.ref C) a), I.laidN hm.keeps hm.new hn (exO_ok ht ⟨rfl, rfl⟩ rfl rfl rfl (show 4 < 6 by decide)), rfl, h a hn⟩
end
/-- X(e, ..) as a value, its own __init__ keeping sp -/
def tMkV (C : Addr) (sp : Sp) (ta : TA) : TE := fun σ H Q => ta σ H fun vs H1 => vs.length ≤ 1000 ∧ ∀ a, H1 a = none → sp (.ref a :: vs) (upd H1 a (exo a C none)) (fun v H2 => v = .non ∧ Q (.ref a) H2) (fun _ _ _ => False)
section
variable {X : Cx} {e : Expr} {es : List Expr} {ta : TA} {p pos : Pos}
theorem pe_oexV {CX : CXT} {x : Str} {C fI : Addr} {k : Nat} {fd : FuncData} {ps : List Str} {sp : Sp} (T : OexC X.K C) (iC : PySem.W.findIn X.K (.ref C) "__init__" = some (some (.ref fI))) (tI : PySem.W.typeIn X.K (.ref fI) = some (.type "function"))
    (F1 : FnOk X.prog X.w X.K X.mg X.base CX k fI fd ps sp) (hr : Room (k + 1) X.A) (hb : Binds X.K fd ps []) (hx : Passes CX X (fun _ _ _ => False)) (hg : Gl X x) (hm : X.mg x = some (.ref C)) (ha : PA X (e :: es) ta)
    (hdb : (x == ("__debug__" : Str)) = false := by decide) (he : starEach (e :: es) X.env = (false, eval e X.env) :: starEach es X.env := by rfl) (hpl : (backTo pos (starEach es X.env)).any (·.1) = false := by rfl) :
    PE X (.Call (.Name x p) (e :: es) [] pos) (tMkV C sp ta) := by
  refine ⟨fun pins s σ H Q I h => ?_⟩
  obtain ⟨nm, q, N, bs, bm, sn, sub, ab, col, dd, k0, k1, k2, k3, k5, hC, hmro⟩ := T.cls
  refine wpAny_Call_Name_kw (ld_glob I hg hm ?_ hdb)
  refine PySem.W.callWith_K (h₀ := X.base) I.ok.mod.kin T.kC (thn (ha.run pos pins s σ H _ I h) fun us s1 ⟨vs, H1, I1, r1, hz, q1⟩ => ⟨I1.kIn, ?_⟩) he hpl
  show wpAny _ _ (call (.ref C) us) _ _ _
  obtain ⟨hh, g, dw, tc, ow⟩ := s1
  have hgt : hh.objs.size ≤ hh.objs.size + 1 := Nat.le_succ _
  have fr1 : H1 (hh.objs.size + 1) = none := I1.hok.fresh hgt
  have pr1 := q1 (hh.objs.size + 1) fr1
  have kp1 : ∀ b o, hh.get? b = some o → ((hh.push (PySem.W.kdv_tup us)).push (PySem.HandSPX.excO C hh.objs.size)).get? b = some o := fun b o e => Heap.get?_push_of_some _ (Heap.get?_push_of_some _ e)
  have ob1 : ((hh.push (PySem.W.kdv_tup us)).push (PySem.HandSPX.excO C hh.objs.size)).get? (hh.objs.size + 1) = some (PySem.HandSPX.excO C hh.objs.size) := by heap_get
  have Iv2 : Inv X pins σ (upd H1 (hh.objs.size + 1) (exo (hh.objs.size + 1) C none)) ⟨(hh.push (PySem.W.kdv_tup us)).push (PySem.HandSPX.excO C hh.objs.size), g, dw, tc, ow⟩ :=
    I1.laid (t' := tc) (a := hh.objs.size + 1) (o := exo (hh.objs.size + 1) C none) (h' := (hh.push (PySem.W.kdv_tup us)).push (PySem.HandSPX.excO C hh.objs.size)) kp1 hgt (exo_ok ob1)
  have rl2 : Vals (V.ref (hh.objs.size + 1) :: vs) (Value.ref (hh.objs.size + 1) :: us) := .cons rfl r1
  have ln1 : (Value.ref (hh.objs.size + 1) :: us).length = ps.length := by
    have e := rl2.length
    rw [F1.len _ _ _ _ pr1] at e
    exact e.symm
  have ln2 : us.length ≤ sizeLine := by
    rw [← Paired.length r1, sizeLine_eq]
    omega
  have b0 := hb ⟨(hh.push (PySem.W.kdv_tup us)).push (PySem.HandSPX.excO C hh.objs.size), g, dw, tc, ow⟩ (Value.ref (hh.objs.size + 1) :: us) Iv2.kIn (by rw [List.append_nil]; exact ln1)
  rw [List.append_nil] at b0
  refine wpAny_call (PySem.HandSPX.call_own F.excBase_ValueError (fun Y => PySem.HandSPX.refsVE_contains Y bm hmro) (I1.kIn _ _ hC) (PySem.W.looks_findIn I1.kIn iC) (fun self => PySem.W.bind_fn I1.kIn self tI) ln2
    (codeAny_mono (F1.run _ X.stack _ _ ⟨Value.ref (hh.objs.size + 1) :: us, []⟩ (Value.ref (hh.objs.size + 1) :: us) _ _ (fun _ _ _ => False) (hr.make C us []) (Iv2.env0.make C us []) b0 rl2 pr1) fun r s' hq' => ?_))
  cases r with
  | error er => exact hx pins σ _ _ er s' Iv2 hq'
  | ok fl =>
    cases fl with
    | ret u =>
      obtain ⟨v, H2, os2, bare2, un2, hok2, rv, ev, q2⟩ := hq'
      subst ev
      exact ⟨rv, .ref (hh.objs.size + 1), H2, Iv2.call' (ch := []) os2 un2 hok2 bare2 (fun b z => absurd z (by simp)), rfl, q2⟩
    | next => exact False.elim hq'
    | brk => exact False.elim hq'
    | cont => exact False.elim hq'
/-- err.f, err an error held as a value -/
def tXa (K : PySem.W.Frag) (f : Str) (te : TE) : TE := fun σ H Q => te σ H fun x H1 => ∃ (a C dx : Addr) (fs : List (Str × V)) (v : V), x = .ref a ∧ H1 a = some (exo a C (some dx)) ∧ H1 dx = some (exd dx fs) ∧ XfC K C ∧ PySem.W.findIn K (.ref C) f = some none ∧ fs.lookup f = some v ∧ Q v H1
theorem pe_xa {te : TE} {n : Str} (he : PE X e te) (hb : attributeBase e n X.env (eval e X.env) = eval e X.env := by rfl) : PE X (.Attribute e n pos) (tXa X.K n te) := by
  refine ⟨fun pins s σ H Q I h => ?_⟩
  refine attr_of hb (thn (he.run pins s σ H _ I h) fun u s1 hh => ?_)
  obtain ⟨x, H1, I1, rx, a, C, dx, fs, v, ex, ea, ed, T, hno, l, q⟩ := hh
  subst ex
  obtain rfl : u = Value.ref a := rx
  obtain ⟨t1, ho⟩ := exo_at I1.hok ea
  obtain ⟨mA, hns, hr⟩ := exd_at I1.hok ed
  obtain ⟨od, ho2, ln1⟩ := lookIn_ns hns
  obtain ⟨u, hu, ru⟩ := RelO.some_of (v := v) (o := mA n) (by rw [← l]; exact hr n)
  have J : PySem.W.InstAt s1.heap a _ C (some od) := ⟨ho, rfl, rfl, ho2⟩
  exact HandSPX.exc_get I1.kIn J T.ga T.gg T.exC (PySem.W.findObj_own T.hdC hno rfl (by rw [ln1, hu])) (handed_of ru) ⟨v, H1, I1.tok _, ru, q⟩
end
theorem ix_listK {X : Cx} {K : PySem.W.Frag} (h : X.K = K) : IxR X (rIxL K) := by
  subst h
  exact ix_list
theorem ix_tupK {X : Cx} {K : PySem.W.Frag} (h : X.K = K) : IxR X (rIxT K) := by
  subst h
  exact ix_tup
/-! several except clauses, some with names -/
/-- what is behind a suite with (slot i) or without a name -/
def goneD (oi : Option Nat) (D : Ends) : Ends := match oi with
  | none => D
  | some i => { nx := fun σ' H' => D.nx (σ'.set i none) H', rt := D.rt, bk := fun σ' H' => D.bk (σ'.set i none) H', ct := fun σ' H' => D.ct (σ'.set i none) H' }
def hadS (oi : Option Nat) (a : Addr) (σ : St) : St := match oi with
  | none => σ
  | some i => σ.set i (some (.ref a))
def wManyN (K : PySem.W.Frag) (Wout : WX) (D : Ends) : List (Value × Option Nat × (Addr → Value → Option Addr → TS)) → WX
  | [] => Wout
  | (c, oi, ts) :: r => fun cls d σ H => ∃ b, PySem.W.exmOne K cls c = some b ∧ (b = true → ∀ a, H a = none → ts a cls d (goneD oi D) (hadS oi a σ) H) ∧ (b = false → wManyN K Wout D r cls d σ H)
inductive HdsN (X : Cx) : List ExceptHandler → List (Value × Option Nat × (Addr → Value → Option Addr → TS)) → Prop
  | nil : HdsN X [] []
  | cons {x : Str} {c : Value} {ts : Addr → Value → Option Addr → TS} {b₀ : Stmt} {suite : List Stmt} {np pos' : Pos} {hds : List ExceptHandler} {l : List (Value × Option Nat × (Addr → Value → Option Addr → TS))} (hc : Names X x c)
      (hsu : ∀ (a : Addr) (oe : Obj) (cls : Value) (d : Option Addr) (pn : List (Addr × Obj)), Zc cls d oe → (∃ vs, oe.data = .fields vs) → PSs (X.suite a ((a, oe) :: pn)) (b₀ :: suite) (ts a cls d)) (r : HdsN X hds l) :
      HdsN X (.ExceptHandler (some (.Name x np)) none (b₀ :: suite) pos' :: hds) ((c, none, ts) :: l)
  | consN {x n : Str} {i : Nat} {c : Value} {ts : Addr → Value → Option Addr → TS} {b₀ : Stmt} {suite : List Stmt} {np pos' : Pos} {hds : List ExceptHandler} {l : List (Value × Option Nat × (Addr → Value → Option Addr → TS))} (hN : X.N.Nodup) (hi : X.N[i]? = some n) (hln : X.env.kindOf n = some .local) (hc : Names X x c)
      (hsu : ∀ (a : Addr) (oe : Obj) (cls : Value) (d : Option Addr) (pn : List (Addr × Obj)), Zc cls d oe → (∃ vs, oe.data = .fields vs) → PSs (X.suite a ((a, oe) :: pn)) (b₀ :: suite) (ts a cls d)) (r : HdsN X hds l) :
      HdsN X (.ExceptHandler (some (.Name x np)) (some n) (b₀ :: suite) pos' :: hds) ((c, some i, ts) :: l)
section
variable {X : Cx} {body : List Stmt} {h₀ : ExceptHandler} {hds : List ExceptHandler} {l : List (Value × Option Nat × (Addr → Value → Option Addr → TS))} {pos : Pos} {tb : WX → TS} {Wout : WX}
theorem ps_try_manyN (hs : X.stack = X.env :: X.outer) (hf : X.env.frame = some X.env.locals) (tk : Takes X Wout)
    (hb : ∀ (W : WX) (pn : List (Addr × Obj)) (xe : Value → Shared → Prop), Takes (X.tr pn xe) W → PassesOwn (model X.prog X.w) X.A X.env xe → PSs (X.tr pn xe) body (tb W))
    (hh : HdsN X (h₀ :: hds) l) : PS X (.Try body (h₀ :: hds) [] [] pos) (fun D σ H => tb (wManyN X.K Wout D l) D σ H) := by
  refine ⟨fun pins s σ H D I h => ?_⟩
  have ok := I.ok
  have frA : X.A.frames = some (X.env :: X.outer) := by rw [ok.frames, hs]
  refine wpAny_Try_except ?_
  refine wpAny_mono ((hb (wManyN X.K Wout D l) (X.pn ++ pins) (fun e s₁ => wpAny (model X.prog X.w) X.A (noteFrame e X.env) (fun _ s₂ => wpAny (model X.prog X.w) X.A (setFlight e none) (fun _ s₃ =>
    wpAny (model X.prog X.w) X.A (handleBy e X.env (h₀ :: hds)) (SP X pins D) X.xe s₃) X.xe s₂) X.xe s₁) (fun u s' xx => ?_) PassesOwn.looking).run [] s σ H D (I.toTry _) h) (fun f s1 back => ?_) (fun e s1 he => he)
  · -- the catch
    obtain ⟨a, B, sI, pins', σ', H', cls, d, rfl, J', nb, up, sky, na, os, ag, w⟩ := xx
    have J : Inv X pins σ' H' sI := J'.ofTry ok
    have skyE : Sky B (X.env :: X.outer) a (Zc cls d) X.env.locals s'.heap := by rw [← hs]; exact sky
    show wpAny (model X.prog X.w) X.A (noteFrame (.ref a) X.env) _ _ _
    refine Sky.land Zc.steady frA hf skyE fun h3 fz3 ut3 => ?_
    have Jn3 : Inv X pins σ' H' { s' with heap := h3 } := J.landed nb fz3.1 (up.trans ut3) os ag
    obtain ⟨ox3, xs3, ob3, zc3, dt3⟩ := fz3.there
    have aside : ∀ {h : Heap} {o : Obj} {vs : Array Value}, h.FunFrames B (X.env :: X.outer) → h.get? a = some o → o.data = .fields vs → a ∉ frs (X.env :: X.outer) := fun {h o vs} ff e dd hm => by
      obtain ⟨_, o', e', hnf⟩ := ff.mem hm
      rw [e] at e'; cases e'
      exact hnf _ dd
    have offF := aside fz3.2.2.1 ob3 dt3
    have offL : a ≠ X.env.locals := fun z => offF (List.mem_filterMap.mpr ⟨X.env, List.mem_cons_self, by rw [hf, z]⟩)
    have offS : a ∉ X.fs := fun hm => by
      obtain ⟨e, he, q⟩ := List.mem_filterMap.mp hm
      exact offF (List.mem_filterMap.mpr ⟨e, List.mem_cons_of_mem _ he, q⟩)
    have In3 := Jn3.suite ob3 dt3 na offL offS
    have go : ∀ {hds' : List ExceptHandler} {l' : List (Value × Option Nat × (Addr → Value → Option Addr → TS))}, HdsN X hds' l' → wManyN X.K Wout D l' cls d σ' H' →
        wpAny (model X.prog X.w) X.A (handleBy (.ref a) X.env hds') (SP X pins D) X.xe { s' with heap := h3 } := by
      intro hds' l' hk
      induction hk with
      | nil =>
        intro w
        refine wpAny_handleBy_nil ?_
        obtain ⟨k1, k2, k3, oe, vs, T, oT, ts', he, hz, hd, h1, hr⟩ := id fz3
        unfold PySem.passOn
        refine wpAny_bind (wpAny_field he hd h1 ?_)
        rw [if_neg (show ¬ ((Value.ref T == Value.none) = true) from by simp)]
        have fin : wpAny (model X.prog X.w) X.A (setFlight (.ref a) X.env.frame) (fun _ s4 => wpAny (model X.prog X.w) X.A (throw (.ref a) : Sem Flow) (SP X pins D) X.xe s4) X.xe { s' with heap := h3 } := by
          rw [hf]
          refine HandSPX.setFlight_upZ fz3 fun h4 hh4 ut4 => wpAny_throw (tk _ _ ?_)
          exact ⟨a, B, sI, pins, σ', H', cls, d, rfl, J, nb, (up.trans ut3).trans ut4, .inr (.inr (by rw [hs]; exact hh4)), na, os, ag, w⟩
        first
          | exact wpAny_bind (wpAny_pure (wpAny_bind fin))
          | exact wpAny_bind fin
      | @cons x c ts b₀ suite np pos' hds2 l2 hc hsu r ih =>
        intro w
        obtain ⟨b, hx1, yes, nay⟩ := w
        refine wpAny_handleBy_cons (codeAny_handlers_test ?_) (by intro q; cases q)
        have lkT : PySem.W.Looks (model X.prog X.w) h3 (typeOf (.ref a)) cls := fun A Q E s k q => wpAny_typeOf_ref (k _ _ ob3) (by rw [zc3.1]; exact q)
        have lkM := PySem.W.exm_one (M := model X.prog X.w) (Jn3.kIn) lkT hx1
        have test : ∀ {Q : Value → Shared → Prop} {E : Value → Shared → Prop}, Q c { s' with heap := h3 } → wpAny (model X.prog X.w) (X.A.mark (some (.ref a))) (eval (.Name x np) X.env) Q E { s' with heap := h3 } := fun {Q E} q => by
          obtain ⟨hg, hdbg, hm | ⟨hm, hv, hnn⟩⟩ := hc
          · exact ld_glob (X := X.suite a ((a, ox3) :: (X.pn ++ pins))) In3 hg hm q hdbg
          · exact ld_blt (X := X.suite a ((a, ox3) :: (X.pn ++ pins))) In3 hg hm hv q hnn hdbg
        refine test (lkM.here ?_)
        cases b with
        | true =>
          refine codeAny_handlers_suite ?_
          refine HandSPX.lands_againZ fz3 fun h4 fz4 ut4 => ?_
          have Jn4 : Inv X pins σ' H' { s' with heap := h4 } := J.landed nb fz4.1 ((up.trans ut3).trans ut4) os ag
          obtain ⟨ox4, xs4, ob4, zc4, dt4⟩ := fz4.there
          have In4 := Jn4.suite ob4 dt4 na offL offS
          refine wpAny_mono ((hsu a ox4 cls d (X.pn ++ pins) zc4 ⟨_, dt4⟩).run [] _ _ H' _ In4 (yes rfl a na)) (fun f t6 back => ?_) (fun _ _ z => False.elim z)
          cases f with
          | next =>
            obtain ⟨σb, Hb, Inb, qb⟩ := back
            exact ⟨_, _, Inb.unsuite ok, qb⟩
          | brk =>
            obtain ⟨σb, Hb, Inb, qb⟩ := back
            exact ⟨_, _, Inb.unsuite ok, qb⟩
          | cont =>
            obtain ⟨σb, Hb, Inb, qb⟩ := back
            exact ⟨_, _, Inb.unsuite ok, qb⟩
          | ret u =>
            obtain ⟨vb, σb, Hb, Inb, rb, qb⟩ := back
            exact ⟨_, _, _, Inb.unsuite ok, rb, qb⟩
        | false =>
          show wpAny _ X.A (handleBy (.ref a) X.env hds2) _ _ _
          exact ih (nay rfl)
      | @consN x n i c ts b₀ suite np pos' hds2 l2 hN hi hln hc hsu r ih =>
        intro w
        obtain ⟨b, hx1, yes, nay⟩ := w
        have hloc : Loc X.env.scope n := .inl hln
        refine wpAny_handleBy_cons (codeAny_handlers_test ?_) (by intro q; cases q)
        have lkT : PySem.W.Looks (model X.prog X.w) h3 (typeOf (.ref a)) cls := fun A Q E s k q => wpAny_typeOf_ref (k _ _ ob3) (by rw [zc3.1]; exact q)
        have lkM := PySem.W.exm_one (M := model X.prog X.w) (Jn3.kIn) lkT hx1
        have test : ∀ {Q : Value → Shared → Prop} {E : Value → Shared → Prop}, Q c { s' with heap := h3 } → wpAny (model X.prog X.w) (X.A.mark (some (.ref a))) (eval (.Name x np) X.env) Q E { s' with heap := h3 } := fun {Q E} q => by
          obtain ⟨hg, hdbg, hm | ⟨hm, hv, hnn⟩⟩ := hc
          · exact ld_glob (X := X.suite a ((a, ox3) :: (X.pn ++ pins))) In3 hg hm q hdbg
          · exact ld_blt (X := X.suite a ((a, ox3) :: (X.pn ++ pins))) In3 hg hm hv q hnn hdbg
        refine test (lkM.here ?_)
        cases b with
        | true =>
          refine codeAny_handlers_suite_as ?_
          refine HandSPX.lands_againZ fz3 fun h4 fz4 ut4 => ?_
          have Jn4 : Inv X pins σ' H' { s' with heap := h4 } := J.landed nb fz4.1 ((up.trans ut3).trans ut4) os ag
          obtain ⟨ox4, xs4, ob4, zc4, dt4⟩ := fz4.there
          have In4 := Jn4.suite ob4 dt4 na offL offS
          refine store_ok (X := X.suite a ((a, ox4) :: (X.pn ++ pins))) (v := .ref a) In4 hN hi hloc rfl (fun t5 In5 => ?_) (.inr hln)
          refine wpAny_mono ((hsu a ox4 cls d (X.pn ++ pins) zc4 ⟨_, dt4⟩).run [] t5 _ H' _ In5 (yes rfl a na)) (fun f t6 back => ?_) (fun _ _ z => False.elim z)
          have gone : ∀ {σb : St} {Hb : Hp} {Q : Shared → Prop}, Inv (X.suite a ((a, ox4) :: (X.pn ++ pins))) [] σb Hb t6 → (∀ s7, Inv X pins (σb.set i none) Hb s7 → Q s7) →
              wpAny (model X.prog X.w) X.A (do bindName X.env n .none; unbindBehindTheSuite X.env n pos') (fun _ s7 => Q s7) X.xe t6 := fun {σb Hb Q} Inb hq => gone_ok (Inb.unsuite ok) hN hi hln hq
          cases f with
          | next =>
            obtain ⟨σb, Hb, Inb, qb⟩ := back
            exact gone Inb fun s7 J7 => ⟨_, _, J7, qb⟩
          | brk =>
            obtain ⟨σb, Hb, Inb, qb⟩ := back
            exact gone Inb fun s7 J7 => ⟨_, _, J7, qb⟩
          | cont =>
            obtain ⟨σb, Hb, Inb, qb⟩ := back
            exact gone Inb fun s7 J7 => ⟨_, _, J7, qb⟩
          | ret u =>
            obtain ⟨vb, σb, Hb, Inb, rb, qb⟩ := back
            exact gone Inb fun s7 J7 => ⟨_, _, _, J7, rb, qb⟩
        | false =>
          show wpAny _ X.A (handleBy (.ref a) X.env hds2) _ _ _
          exact ih (nay rfl)
    exact go hh w
  · cases f with
    | next =>
      obtain ⟨σ', H', J', q⟩ := back
      exact wpAny_execs_nil ⟨σ', H', J'.ofTry ok, q⟩
    | brk =>
      obtain ⟨σ', H', J', q⟩ := back
      exact ⟨σ', H', J'.ofTry ok, q⟩
    | cont =>
      obtain ⟨σ', H', J', q⟩ := back
      exact ⟨σ', H', J'.ofTry ok, q⟩
    | ret u =>
      obtain ⟨v, σ', H', J', r, q⟩ := back
      exact ⟨v, σ', H', J'.ofTry ok, r, q⟩
end
end L2

namespace Pm
/-! ### forms and blocks -/
def form : Nat → List Nat
  | 0 => [0] | 1 => [1, 0] | 2 => [1, 1] | 3 => [1, 2, 1] | 4 => [1, 2, 2] | 5 => [1, 2, 1, 2] | 6 => [1, 2, 3, 2] | _ => [1, 2, 3, 0]
abbrev Bk := Nat × List Nat
structure Blk (ys : List Nat) (b : Bk) : Prop where
  w : b.1 < 8
  len : b.2.length = (form b.1).length
  sh : ∀ k, k < b.2.length → ys.getD (b.2.getD k 0) 0 = b.2.getD ((form b.1).getD k 0) 0
structure Built (ys : List Nat) (bs : List Bk) : Prop where
  blk : ∀ b ∈ bs, Blk ys b
  perm : (bs.flatMap (·.2)).Perm (List.range ys.length)
theorem form_len (w : Nat) : 0 < (form w).length := by
  unfold form
  split <;> decide
theorem form_lt (w k : Nat) (h : k < (form w).length) : (form w).getD k 0 < (form w).length := by
  unfold form at h ⊢
  split at h <;> (simp at h ⊢; rcases k with _ | _ | _ | _ | k <;> simp at h ⊢ <;> omega)
/-- the least of a list -/
def mn : List Nat → Nat
  | [] => 0
  | [a] => a
  | a :: b :: l => min a (mn (b :: l))
theorem mn_mem : ∀ {l : List Nat}, l ≠ [] → mn l ∈ l
  | [], h => absurd rfl h
  | [a], _ => by simp [mn]
  | a :: b :: l, _ => by
    have ih := mn_mem (l := b :: l) (by simp)
    unfold mn
    by_cases h : a ≤ mn (b :: l)
    · rw [Nat.min_eq_left h]; exact List.mem_cons_self ..
    · rw [Nat.min_eq_right (by omega)]; exact List.mem_cons_of_mem _ ih
theorem mn_le : ∀ {l : List Nat} {x : Nat}, x ∈ l → mn l ≤ x
  | [a], x, h => by
    rw [List.mem_singleton.mp h]
    exact Nat.le_refl _
  | a :: b :: l, x, h => by
    unfold mn
    rcases List.mem_cons.mp h with e | h
    · rw [e]; exact Nat.min_le_left _ _
    · exact Nat.le_trans (Nat.min_le_right _ _) (mn_le h)
theorem uniq : ∀ {bs : List Bk} {b c : Bk} {x : Nat}, (bs.flatMap (·.2)).Nodup → b ∈ bs → c ∈ bs → x ∈ b.2 → x ∈ c.2 → b = c
  | a :: bs, b, c, x, nd, hb, hc, xb, xc => by
    rw [List.flatMap_cons, List.nodup_append] at nd
    rcases List.mem_cons.mp hb with e1 | hb
    · rcases List.mem_cons.mp hc with e2 | hc
      · rw [e1, e2]
      · exact absurd rfl (nd.2.2 x (e1 ▸ xb) x (List.mem_flatMap.mpr ⟨c, hc, xc⟩))
    · rcases List.mem_cons.mp hc with e2 | hc
      · exact absurd rfl (nd.2.2 x (e2 ▸ xc) x (List.mem_flatMap.mpr ⟨b, hb, xb⟩))
      · exact uniq nd.2.1 hb hc xb xc
theorem nd_of : ∀ {bs : List Bk} {b : Bk}, (bs.flatMap (·.2)).Nodup → b ∈ bs → b.2.Nodup
  | a :: bs, b, nd, hb => by
    rw [List.flatMap_cons, List.nodup_append] at nd
    rcases List.mem_cons.mp hb with e1 | hb
    · rw [e1]; exact nd.1
    · exact nd_of nd.2.1 hb
def beta (bs : List Bk) (x : Nat) : Nat := match bs.find? (fun b => b.2.contains x) with
  | some b => mn b.2
  | none => x
section
variable {ys : List Nat} {bs : List Bk}
theorem Built.nd (B : Built ys bs) : (bs.flatMap (·.2)).Nodup := B.perm.nodup_iff.mpr List.nodup_range
theorem Built.lt (B : Built ys bs) {b : Bk} (hb : b ∈ bs) {x : Nat} (hx : x ∈ b.2) : x < ys.length :=
  List.mem_range.mp (B.perm.mem_iff.mp (List.mem_flatMap.mpr ⟨b, hb, hx⟩))
theorem Built.of (B : Built ys bs) {x : Nat} (hx : x < ys.length) : ∃ b ∈ bs, x ∈ b.2 := by
  obtain ⟨b, hb, h⟩ := List.mem_flatMap.mp (B.perm.mem_iff.mpr (List.mem_range.mpr hx))
  exact ⟨b, hb, h⟩
theorem Built.beta_of (B : Built ys bs) {b : Bk} (hb : b ∈ bs) {x : Nat} (hx : x ∈ b.2) : beta bs x = mn b.2 := by
  unfold beta
  cases h : bs.find? (fun b => b.2.contains x) with
  | none =>
    have := List.find?_eq_none.mp h b hb
    simp [hx] at this
  | some c =>
    have h1 := List.mem_of_find?_eq_some h
    have h2 := List.find?_some h
    have h3 : x ∈ c.2 := by simpa using h2
    rw [uniq B.nd hb h1 hx h3]
theorem Built.ne (B : Built ys bs) {b : Bk} (hb : b ∈ bs) : b.2 ≠ [] := fun z => by
  have h := (B.blk b hb).len
  have := form_len b.1
  rw [z] at h
  simp at h
  omega
theorem Built.mn_beta (B : Built ys bs) {b : Bk} (hb : b ∈ bs) : beta bs (mn b.2) = mn b.2 := B.beta_of hb (mn_mem (B.ne hb))
theorem Built.beta_le (B : Built ys bs) {x : Nat} (hx : x < ys.length) : beta bs x ≤ x := by
  obtain ⟨b, hb, h⟩ := B.of hx
  rw [B.beta_of hb h]
  exact mn_le h
theorem getD_mem {l : List Nat} {k : Nat} (h : k < l.length) : l.getD k 0 ∈ l := by
  rw [List.getD_eq_getElem?_getD, List.getElem?_eq_getElem h]
  exact List.getElem_mem h
theorem mem_getD {l : List Nat} {x : Nat} (h : x ∈ l) : ∃ k, k < l.length ∧ l.getD k 0 = x := by
  obtain ⟨k, hk, e⟩ := List.getElem_of_mem h
  exact ⟨k, hk, by rw [List.getD_eq_getElem?_getD, List.getElem?_eq_getElem hk]; exact e⟩
/-- what a record shows is of its block -/
theorem Built.shown (B : Built ys bs) {b : Bk} (hb : b ∈ bs) {x : Nat} (hx : x ∈ b.2) : ys.getD x 0 ∈ b.2 := by
  obtain ⟨k, hk, rfl⟩ := mem_getD hx
  have Q := B.blk b hb
  rw [Q.sh k hk]
  exact getD_mem (by rw [Q.len]; exact form_lt _ _ (by rw [← Q.len]; exact hk))
theorem Built.edge (B : Built ys bs) {x : Nat} (hx : x < ys.length) : ys.getD x 0 < ys.length ∧ beta bs (ys.getD x 0) = beta bs x := by
  obtain ⟨b, hb, h⟩ := B.of hx
  have h2 := B.shown hb h
  exact ⟨B.lt hb h2, by rw [B.beta_of hb h, B.beta_of hb h2]⟩
end
/-! ### the labels -/
def stepL (L : List Nat) (r nm : Nat) : List Nat := if min (L.getD r 0) (L.getD nm 0) = max (L.getD r 0) (L.getD nm 0) then L else L.map fun o => if o = max (L.getD r 0) (L.getD nm 0) then min (L.getD r 0) (L.getD nm 0) else o
def lab (ys : List Nat) : Nat → List Nat
  | 0 => List.range ys.length
  | i + 1 => stepL (lab ys i) i (ys.getD i 0)
structure Lab (ys : List Nat) (bs : List Bk) (i : Nat) (L : List Nat) : Prop where
  len : L.length = ys.length
  le : ∀ x, x < ys.length → L.getD x 0 ≤ x
  fx : ∀ x, x < ys.length → L.getD (L.getD x 0) 0 = L.getD x 0
  bl : ∀ x, x < ys.length → beta bs (L.getD x 0) = beta bs x
  ed : ∀ r, r < i → r < ys.length → L.getD r 0 = L.getD (ys.getD r 0) 0
theorem getD_map {L : List Nat} {f : Nat → Nat} {x : Nat} (h : x < L.length) : (L.map f).getD x 0 = f (L.getD x 0) := by
  rw [List.getD_eq_getElem?_getD, List.getElem?_map, List.getD_eq_getElem?_getD, List.getElem?_eq_getElem h]
  rfl
theorem getD_range {n x : Nat} (h : x < n) : (List.range n).getD x 0 = x := by
  rw [List.getD_eq_getElem?_getD, List.getElem?_range h]
  rfl
theorem lab_ok {ys : List Nat} {bs : List Bk} (B : Built ys bs) : ∀ i, i ≤ ys.length → Lab ys bs i (lab ys i)
  | 0, _ => ⟨List.length_range, fun x hx => by show (List.range _).getD x 0 ≤ x; rw [getD_range hx]; exact Nat.le_refl _,
      fun x hx => by show (List.range _).getD ((List.range _).getD x 0) 0 = (List.range _).getD x 0; rw [getD_range hx, getD_range hx],
      fun x hx => by show beta bs ((List.range _).getD x 0) = _; rw [getD_range hx], fun r h => absurd h (Nat.not_lt_zero _)⟩
  | i + 1, hi => by
    have ih := lab_ok B i (by omega)
    have hin : i < ys.length := by omega
    obtain ⟨hnm, hbe⟩ := B.edge hin
    show Lab ys bs (i + 1) (stepL (lab ys i) i (ys.getD i 0))
    generalize lab ys i = L at ih
    generalize hnmE : ys.getD i 0 = nm at hnm hbe
    unfold stepL
    have a1 := ih.fx i hin
    have b1 := ih.fx nm hnm
    have a2 := ih.le i hin
    have b2 := ih.le nm hnm
    have a3 := ih.bl i hin
    have b3 := ih.bl nm hnm
    generalize ha : L.getD i 0 = a at *
    generalize hb : L.getD nm 0 = b at *
    by_cases heq : min a b = max a b
    · rw [if_pos heq]
      refine ⟨ih.len, ih.le, ih.fx, ih.bl, fun r hr hrn => ?_⟩
      by_cases h : r = i
      · rw [h, ha, hnmE, hb]
        omega
      · exact ih.ed r (by omega) hrn
    · rw [if_neg heq]
      have hlow : L.getD (min a b) 0 = min a b := by
        by_cases h : a ≤ b
        · rw [Nat.min_eq_left h]; exact a1
        · rw [Nat.min_eq_right (by omega)]; exact b1
      have hbl : beta bs (min a b) = beta bs (max a b) := by
        by_cases h : a ≤ b
        · rw [Nat.min_eq_left h, Nat.max_eq_right h, a3, b3, hbe]
        · rw [Nat.min_eq_right (by omega), Nat.max_eq_left (by omega), a3, b3, hbe]
      have at_ : ∀ x, x < ys.length → (L.map fun o => if o = max a b then min a b else o).getD x 0 = if L.getD x 0 = max a b then min a b else L.getD x 0 := fun x hx => getD_map (by rw [ih.len]; exact hx)
      have hminlt : min a b < ys.length := by omega
      refine ⟨by rw [List.length_map]; exact ih.len, fun x hx => ?_, fun x hx => ?_, fun x hx => ?_, fun r hr hrn => ?_⟩
      · rw [at_ x hx]
        have := ih.le x hx
        split <;> omega
      · rw [at_ x hx]
        by_cases h : L.getD x 0 = max a b
        · rw [if_pos h, at_ _ hminlt, hlow, if_neg heq]
        · rw [if_neg h]
          have hl := ih.le x hx
          rw [at_ _ (by omega), ih.fx x hx, if_neg h]
      · rw [at_ x hx]
        by_cases h : L.getD x 0 = max a b
        · rw [if_pos h, hbl, ← h]; exact ih.bl x hx
        · rw [if_neg h]; exact ih.bl x hx
      · rw [at_ r hrn, at_ _ (B.edge hrn).1]
        by_cases h : r = i
        · rw [h, ha, hnmE, hb]
          by_cases hab : a ≤ b
          · rw [Nat.min_eq_left hab, Nat.max_eq_right hab]
            by_cases hq : a = b <;> simp [hq]
          · rw [Nat.min_eq_right (by omega), Nat.max_eq_left (by omega)]
            by_cases hq : b = a <;> simp [hq]
        · rw [ih.ed r (by omega) hrn]
theorem conn {w : Nat} {ms : List Nat} {f : Nat → Nat} (hl : ms.length = (form w).length) (h : ∀ k, k < ms.length → f (ms.getD k 0) = f (ms.getD ((form w).getD k 0) 0)) : ∀ k, k < ms.length → f (ms.getD k 0) = f (ms.getD 0 0) := by
  unfold form at hl h
  split at hl
  all_goals (simp only [List.length_cons, List.length_nil] at hl; intro k hk)
  all_goals (have h0 := h 0 (by omega); try have h1 := h 1 (by omega))
  all_goals (try have h2 := h 2 (by omega))
  all_goals (try have h3 := h 3 (by omega))
  all_goals (rcases k with _ | _ | _ | _ | k)
  all_goals first | omega | rfl | (simp at h0 h1 h2 h3 ⊢; omega) | (simp at h0 h1 h2 ⊢; omega) | (simp at h0 h1 ⊢; omega) | (simp at h0 ⊢; omega)
end Pm

namespace Pm
inductive Cs (g : Nat → Nat) : Nat → List Nat → Prop
  | free (a) : g a = a → Cs g 0 [a]
  | pair (a b) : g a = b → g b = a → Cs g 1 [a, b]
  | claim (a b) : g a = b → g b = b → Cs g 2 [a, b]
  | hook (c a b) : g c = a → g a = b → g b = a → Cs g 3 [c, a, b]
  | relay (c a b) : g c = a → g a = b → g b = b → Cs g 4 [c, a, b]
  | clamp (d a b c) : g d = a → g a = b → g b = a → g c = b → Cs g 5 [d, a, b, c]
  | trail (d c a b) : g d = c → g c = a → g a = b → g b = a → Cs g 6 [d, c, a, b]
  | wheel (a b c d) : g a = b → g b = c → g c = d → g d = a → Cs g 7 [a, b, c, d]
theorem Blk.cs {ys : List Nat} {b : Bk} (Q : Blk ys b) : Cs (fun x => ys.getD x 0) b.1 b.2 := by
  obtain ⟨w, ms⟩ := b
  obtain ⟨hw, hl, h⟩ := Q
  dsimp only at hw hl h
  match w, hw with
  | 0, _ => match ms, hl with | [a], _ => exact .free a (by simpa [form] using h 0 (by simp))
  | 1, _ => match ms, hl with | [a, b], _ => exact .pair a b (by simpa [form] using h 0 (by simp)) (by simpa [form] using h 1 (by simp))
  | 2, _ => match ms, hl with | [a, b], _ => exact .claim a b (by simpa [form] using h 0 (by simp)) (by simpa [form] using h 1 (by simp))
  | 3, _ => match ms, hl with | [a, b, c], _ => exact .hook a b c (by simpa [form] using h 0 (by simp)) (by simpa [form] using h 1 (by simp)) (by simpa [form] using h 2 (by simp))
  | 4, _ => match ms, hl with | [a, b, c], _ => exact .relay a b c (by simpa [form] using h 0 (by simp)) (by simpa [form] using h 1 (by simp)) (by simpa [form] using h 2 (by simp))
  | 5, _ => match ms, hl with | [a, b, c, d], _ => exact .clamp a b c d (by simpa [form] using h 0 (by simp)) (by simpa [form] using h 1 (by simp)) (by simpa [form] using h 2 (by simp)) (by simpa [form] using h 3 (by simp))
  | 6, _ => match ms, hl with | [a, b, c, d], _ => exact .trail a b c d (by simpa [form] using h 0 (by simp)) (by simpa [form] using h 1 (by simp)) (by simpa [form] using h 2 (by simp)) (by simpa [form] using h 3 (by simp))
  | 7, _ => match ms, hl with | [a, b, c, d], _ => exact .wheel a b c d (by simpa [form] using h 0 (by simp)) (by simpa [form] using h 1 (by simp)) (by simpa [form] using h 2 (by simp)) (by simpa [form] using h 3 (by simp))
structure Canon (b : Bk) : Prop where
  pair : b.1 = 1 → b.2.getD 0 0 < b.2.getD 1 0
  clamp : b.1 = 5 → b.2.getD 0 0 < b.2.getD 3 0
  wheel : b.1 = 7 → b.2.getD 0 0 = mn b.2
section
variable {ys : List Nat} {bs : List Bk}
theorem lab_end (B : Built ys bs) {x : Nat} (hx : x < ys.length) : (lab ys ys.length).getD x 0 = beta bs x := by
  have Q := lab_ok B ys.length (Nat.le_refl _)
  generalize lab ys ys.length = L at Q ⊢
  obtain ⟨b, hb, hxb⟩ := B.of hx
  have P := B.blk b hb
  have cn := conn (f := fun x => L.getD x 0) P.len fun k hk => by
    show L.getD (b.2.getD k 0) 0 = _
    have hm := B.lt hb (getD_mem hk)
    rw [Q.ed _ hm hm, P.sh k hk]
  have h0 : 0 < b.2.length := List.length_pos_iff.mpr (B.ne hb)
  have same : ∀ y, y ∈ b.2 → L.getD y 0 = L.getD (b.2.getD 0 0) 0 := fun y hy => by
    obtain ⟨k, hk, rfl⟩ := mem_getD hy
    exact cn k hk
  have hmn := mn_mem (B.ne hb)
  have e1 : L.getD x 0 = L.getD (mn b.2) 0 := by rw [same x hxb, same _ hmn]
  have h1 := Q.le (mn b.2) (B.lt hb hmn)
  have h2 := Q.bl x hx
  have h3 := Q.le x hx
  have h4 := B.beta_le (x := L.getD x 0) (by omega)
  have h5 := B.beta_of hb hxb
  omega
def grp (bs : List Bk) (n m : Nat) : List Nat := (List.range n).filter fun x => decide (beta bs x = m)
def roots (bs : List Bk) (n : Nat) : List Nat := (List.range n).filter fun x => decide (beta bs x = x)
theorem nodup_filter {l : List Nat} (p : Nat → Bool) (h : l.Nodup) : (l.filter p).Nodup := h.sublist List.filter_sublist
theorem grp_nd {n m : Nat} : (grp bs n m).Nodup := nodup_filter _ List.nodup_range
theorem grp_lt {n m : Nat} : (grp bs n m).Pairwise (· < ·) := List.Pairwise.filter _ List.pairwise_lt_range
theorem Built.mem_grp (B : Built ys bs) {b : Bk} (hb : b ∈ bs) {x : Nat} : x ∈ grp bs ys.length (mn b.2) ↔ x ∈ b.2 := by
  unfold grp
  rw [List.mem_filter, List.mem_range, decide_eq_true_eq]
  constructor
  · rintro ⟨h1, h2⟩
    obtain ⟨c, hc, hx⟩ := B.of h1
    rw [B.beta_of hc hx] at h2
    have e := uniq B.nd hc hb (x := mn b.2) (by rw [← h2]; exact mn_mem (B.ne hc)) (mn_mem (B.ne hb))
    exact e ▸ hx
  · exact fun h => ⟨B.lt hb h, B.beta_of hb h⟩
theorem Built.grp_perm (B : Built ys bs) {b : Bk} (hb : b ∈ bs) : (grp bs ys.length (mn b.2)).Perm b.2 :=
  (List.perm_ext_iff_of_nodup grp_nd (nd_of B.nd hb)).mpr fun x => B.mem_grp hb
theorem Built.roots_eq (B : Built ys bs) (hs : bs.Pairwise fun a b => mn a.2 < mn b.2) : roots bs ys.length = bs.map fun b => mn b.2 := by
  have s1 : (roots bs ys.length).Pairwise (· < ·) := List.Pairwise.filter _ List.pairwise_lt_range
  have s2 : (bs.map fun b => mn b.2).Pairwise (· < ·) := List.pairwise_map.mpr hs
  refine List.Perm.eq_of_pairwise (le := (· < ·)) (fun a b _ _ h1 h2 => by omega) s1 s2 ?_
  refine (List.perm_ext_iff_of_nodup (s1.imp fun h => by omega) (s2.imp fun h => by omega)).mpr fun x => ?_
  unfold roots
  rw [List.mem_filter, List.mem_range, decide_eq_true_eq, List.mem_map]
  constructor
  · rintro ⟨h1, h2⟩
    obtain ⟨b, hb, hx⟩ := B.of h1
    exact ⟨b, hb, by rw [← h2, B.beta_of hb hx]⟩
  · rintro ⟨b, hb, rfl⟩
    exact ⟨B.lt hb (mn_mem (B.ne hb)), B.mn_beta hb⟩
/-! ### one group's row -/
def path (b : Bk) : List Nat := if b.1 = 5 then b.2.take 3 else b.2
theorem filter_one {l : List Nat} {q : Nat → Bool} {x : Nat} (nd : l.Nodup) (hx : x ∈ l) (h1 : q x = true) (h2 : ∀ y ∈ l, q y = true → y = x) : l.filter q = [x] := by
  have nd2 := nodup_filter q nd
  have m : ∀ y, y ∈ l.filter q ↔ y = x := fun y => by
    rw [List.mem_filter]
    exact ⟨fun h => h2 y h.1 h.2, fun h => by rw [h]; exact ⟨hx, h1⟩⟩
  match hl : l.filter q with
  | [] => exact absurd ((m x).mpr rfl) (by rw [hl]; simp)
  | [a] => rw [(m a).mp (by rw [hl]; simp)]
  | a :: b :: r =>
    rw [hl] at nd2 m
    have ea := (m a).mp (by simp)
    have eb := (m b).mp (by simp)
    simp [ea, eb] at nd2
theorem mn_sing {a : Nat} : mn [a] = a := rfl
/-- the walk of a form -/
structure Walks (g : Nat → Nat) (p : List Nat) : Prop where
  pos : 0 < p.length
  nd : p.Nodup
  next : ∀ j, j + 1 < p.length → g (p.getD j 0) = p.getD (j + 1) 0
  back : g (p.getD (p.length - 1) 0) ∈ p
theorem Built.walks (B : Built ys bs) {b : Bk} (hb : b ∈ bs) : Walks (fun x => ys.getD x 0) (path b) := by
  have nd := nd_of B.nd hb
  have C := (B.blk b hb).cs
  obtain ⟨w, ms⟩ := b
  dsimp only at C nd
  unfold path
  dsimp only
  generalize (fun x => ys.getD x 0) = g at C
  cases C
  all_goals (simp at nd ⊢)
  all_goals (refine ⟨by simp, by simp; try simp [nd], fun j hj => ?_, by simp [*]⟩)
  all_goals (rcases j with _ | _ | _ | _ | j)
  all_goals first | (simp at hj; done) | (simp [*]; done) | (simp at hj ⊢; omega) | skip
theorem Built.left (B : Built ys bs) {b : Bk} (hb : b ∈ bs) : path b ++ (grp bs ys.length (mn b.2)).filter (fun x => !(path b).contains x) = b.2 := by
  have nd := nd_of B.nd hb
  have C := (B.blk b hb).cs
  have M : ∀ x, x ∈ grp bs ys.length (mn b.2) ↔ x ∈ b.2 := fun x => B.mem_grp hb
  have N : (grp bs ys.length (mn b.2)).Nodup := grp_nd
  generalize grp bs ys.length (mn b.2) = l at M N
  by_cases h5 : b.1 = 5
  · obtain ⟨w, ms⟩ := b
    dsimp only at h5 C nd M ⊢
    subst h5
    cases C
    rename_i d a b c h1 h2 h3 h4
    unfold path
    simp at nd ⊢
    rw [filter_one (x := c) N (by rw [M]; simp) (by simp; omega) fun y hy hq => ?_]
    rw [M] at hy
    simp at hy hq
    omega
  · unfold path
    rw [if_neg h5]
    have e : l.filter (fun x => !b.2.contains x) = [] := by
      rw [List.filter_eq_nil_iff]
      intro x hx
      have := (M x).mp hx
      simp [this]
    rw [e, List.append_nil]
/-- where the walk starts: at the first record that no other of the group shows, or at the first one -/
theorem Built.start (B : Built ys bs) {b : Bk} (hb : b ∈ bs) (K : Canon b) (T : List Nat)
    (hT : T = (grp bs ys.length (mn b.2)).filter (fun x => !((grp bs ys.length (mn b.2)).map fun y => ys.getD y 0).contains x)) :
    (T = [] → (grp bs ys.length (mn b.2)).head? = some (b.2.getD 0 0)) ∧ (T ≠ [] → T.head? = some (b.2.getD 0 0)) := by
  have nd := nd_of B.nd hb
  have C := (B.blk b hb).cs
  have M : ∀ x, x ∈ grp bs ys.length (mn b.2) ↔ x ∈ b.2 := fun x => B.mem_grp hb
  have sh : ∀ x, ((grp bs ys.length (mn b.2)).map fun y => ys.getD y 0).contains x = (b.2.map fun y => ys.getD y 0).contains x := fun x => by
    rw [Bool.eq_iff_iff, List.contains_iff_mem, List.contains_iff_mem, List.mem_map, List.mem_map]
    exact ⟨fun ⟨y, hy, e⟩ => ⟨y, (M y).mp hy, e⟩, fun ⟨y, hy, e⟩ => ⟨y, (M y).mpr hy, e⟩⟩
  have hT2 : T = (List.range ys.length).filter fun x => decide (beta bs x = mn b.2) && !(b.2.map fun y => ys.getD y 0).contains x := by
    rw [hT]
    unfold grp
    rw [List.filter_filter]
    refine List.filter_congr fun x hx => ?_
    have := sh x
    unfold grp at this
    rw [this, Bool.and_comm]
  have inB : ∀ x, x < ys.length → (decide (beta bs x = mn b.2) = true ↔ x ∈ b.2) := fun x hx => by
    rw [← M x]
    unfold grp
    rw [List.mem_filter, List.mem_range]
    exact ⟨fun h => ⟨hx, h⟩, fun h => h.2⟩
  have root : b.2.getD 0 0 = mn b.2 → (grp bs ys.length (mn b.2)).head? = some (b.2.getD 0 0) := fun e => by
    unfold grp
    rw [List.head?_filter, List.find?_range_eq_some, e]
    refine ⟨by rw [decide_eq_true_eq]; exact B.mn_beta hb, List.mem_range.mpr (B.lt hb (mn_mem (B.ne hb))), fun j hj => ?_⟩
    have hjn : j < ys.length := Nat.lt_trans hj (B.lt hb (mn_mem (B.ne hb)))
    have := B.beta_le hjn
    simp
    omega
  have tail : ∀ m0 : Nat, m0 ∈ b.2 → (b.2.map fun y => ys.getD y 0).contains m0 = false → (∀ j, j < m0 → j ∈ b.2 → (b.2.map fun y => ys.getD y 0).contains j = true) → T.head? = some m0 := fun m0 h1 h2 h3 => by
    rw [hT2, List.head?_filter, List.find?_range_eq_some]
    refine ⟨by rw [h2, (inB m0 (B.lt hb h1)).mpr h1]; rfl, List.mem_range.mpr (B.lt hb h1), fun j hj => ?_⟩
    have hjn : j < ys.length := Nat.lt_trans hj (B.lt hb h1)
    by_cases hjb : j ∈ b.2
    · rw [h3 j hj hjb]
      simp
    · have : decide (beta bs j = mn b.2) = false := by
        cases h : decide (beta bs j = mn b.2) with
        | false => rfl
        | true => exact absurd ((inB j hjn).mp h) hjb
      rw [this]
      rfl
  have none : (∀ x ∈ b.2, (b.2.map fun y => ys.getD y 0).contains x = true) → T = [] := fun h => by
    rw [hT2, List.filter_eq_nil_iff]
    intro x hx
    have hxn := List.mem_range.mp hx
    by_cases hxb : x ∈ b.2
    · rw [h x hxb]
      simp
    · intro z
      rw [Bool.and_eq_true] at z
      exact hxb ((inB x hxn).mp z.1)
  obtain ⟨w, ms⟩ := b
  dsimp only at *
  generalize hg : (fun y => ys.getD y 0) = g at C tail none
  clear hT hT2 sh
  cases C with
  | free a h1 =>
    have t := none (by simp [h1])
    exact ⟨fun _ => root rfl, fun h => absurd t h⟩
  | pair a b h1 h2 =>
    have t := none (by simp [h1, h2])
    have := K.pair rfl
    simp at this
    exact ⟨fun _ => root (by simp [mn]; omega), fun h => absurd t h⟩
  | wheel a b c d h1 h2 h3 h4 =>
    have t := none (by simp [h1, h2, h3, h4])
    exact ⟨fun _ => root (K.wheel rfl), fun h => absurd t h⟩
  | claim a b h1 h2 =>
    simp at nd
    have t := tail a (by simp) (by simp [h1, h2]; omega) (fun j hj hm => by simp at hm; simp [h1, h2]; omega)
    exact ⟨fun h => (by rw [h] at t; simp at t), fun _ => t⟩
  | hook c a b h1 h2 h3 =>
    simp at nd
    have t := tail c (by simp) (by simp [h1, h2, h3]; omega) (fun j hj hm => by simp at hm; simp [h1, h2, h3]; omega)
    exact ⟨fun h => (by rw [h] at t; simp at t), fun _ => t⟩
  | relay c a b h1 h2 h3 =>
    simp at nd
    have t := tail c (by simp) (by simp [h1, h2, h3]; omega) (fun j hj hm => by simp at hm; simp [h1, h2, h3]; omega)
    exact ⟨fun h => (by rw [h] at t; simp at t), fun _ => t⟩
  | clamp d a b c h1 h2 h3 h4 =>
    simp at nd
    have kk := K.clamp rfl
    simp at kk
    have t := tail d (by simp) (by simp [h1, h2, h3, h4]; omega) (fun j hj hm => by simp at hm; simp [h1, h2, h3, h4]; omega)
    exact ⟨fun h => (by rw [h] at t; simp at t), fun _ => t⟩
  | trail d c a b h1 h2 h3 h4 =>
    simp at nd
    have t := tail d (by simp) (by simp [h1, h2, h3, h4]; omega) (fun j hj hm => by simp at hm; simp [h1, h2, h3, h4]; omega)
    exact ⟨fun h => (by rw [h] at t; simp at t), fun _ => t⟩
end
end Pm

namespace L2
open PySem PySem.Spec PyProof.Rows
/-! ### a table of the text keyed by tuples of ints -/
def numK (ks : List Nat) : NestedKey := .tup (ks.map fun k : Nat => NestedKey.num (k : Int))
/-- at a, in the written part: a table of the given keys and texts -/
def TabK (P : Program) (w : World) (K : PySem.W.Frag) (a : Addr) (kvs : List (List Nat × Str)) : Prop := (a == sysModules) = false ∧
  ∃ ts : List Tok, ∀ h : Heap, K.In h → h.DictKeyed (nestedKind P w) a ((kvs.zip ts).map fun x => (numK x.1.1, Value.str x.1.2 x.2)) ∧ ts.length = kvs.length
theorem numK_depth : ∀ ks : List Nat, (numK ks).depth ≤ 8 := fun ks => by
  have h : ∀ l : List Nat, NestedKey.depthAll (l.map fun k : Nat => NestedKey.num (k : Int)) ≤ 1 := fun l => by
    induction l with
    | nil => simp [NestedKey.depthAll]
    | cons a l ih =>
      simp only [List.map_cons, NestedKey.depthAll, NestedKey.depth]
      omega
  have := h ks
  unfold numK
  simp only [NestedKey.depth]
  omega
theorem numAll_of {h : Heap} : ∀ {ks : List Nat} {us : List Value}, Vals (ks.map fun k : Nat => V.int (k : Int)) us → NestedAll h (ks.map fun k : Nat => NestedKey.num (k : Int)) us
  | [], _, r => by cases r; exact .nil
  | k :: ks, _, r => by
    cases r with
    | cons r1 r2 =>
      obtain ⟨t, e⟩ := r1
      rw [e]
      exact .cons (.int _ t) (numAll_of r2)
/-- d.get(t) of such a table, the key there -/
def tTabGet (P : Program) (w : World) (K : PySem.W.Frag) (td te : TE) : TE := fun σ H Q => td σ H fun x H1 => ∃ (a : Addr) (kvs : List (List Nat × Str)), x = .ref a ∧ TabK P w K a kvs ∧ te σ H1 fun y H2 => ∃ (p : Addr) (ks : List Nat) (z : Str), y = .ref p ∧ H2 p = some (.tup (ks.map fun k : Nat => V.int (k : Int))) ∧
  (∃ i, kvs[i]? = some (ks, z) ∧ ∀ (j : Nat) (q : List Nat × Str), j < i → kvs[j]? = some q → q.1 ≠ ks) ∧ Q (.str z) H2
theorem numK_inj {a b : List Nat} (h : numK a = numK b) : a = b := by
  unfold numK at h
  injection h with h
  have g : ∀ {l m : List Nat}, (l.map fun k : Nat => NestedKey.num (k : Int)) = (m.map fun k : Nat => NestedKey.num (k : Int)) → l = m := by
    intro l
    induction l with
    | nil =>
      intro m e
      cases m with
      | nil => rfl
      | cons _ _ => cases e
    | cons a l ih =>
      intro m e
      cases m with
      | nil => cases e
      | cons b m =>
        rw [List.map_cons, List.map_cons] at e
        injection e with e1 e2
        injection e1 with e1
        have : a = b := by omega
        rw [this, ih e2]
  exact g h
theorem tab_find {ks : List Nat} {z : Str} : ∀ {kvs : List (List Nat × Str)} {ts : List Tok} {i : Nat}, ts.length = kvs.length → kvs[i]? = some (ks, z) → (∀ (j : Nat) (q : List Nat × Str), j < i → kvs[j]? = some q → q.1 ≠ ks) →
    ∃ t : Tok, valueAt ((kvs.zip ts).map fun x => (numK x.1.1, Value.str x.1.2 x.2)) (numK ks) = some (Value.str z t)
  | [], _, i, _, h, _ => by simp at h
  | _ :: _, [], _, hl, _, _ => by simp at hl
  | (k0, z0) :: kvs, t0 :: ts, 0, _, h, _ => by
    have e := Option.some.inj h
    cases e
    exact ⟨t0, by simp [valueAt]⟩
  | (k0, z0) :: kvs, t0 :: ts, i + 1, hl, h, hn => by
    have ne : k0 ≠ ks := hn 0 (k0, z0) (Nat.succ_pos _) rfl
    have ne2 : ¬ numK k0 = numK ks := fun e => ne (numK_inj e)
    obtain ⟨t, e⟩ := tab_find (ks := ks) (z := z) (kvs := kvs) (ts := ts) (i := i) (by simpa using hl) (by simpa using h) fun j q hj hq => hn (j + 1) q (by omega) (by simpa using hq)
    refine ⟨t, ?_⟩
    unfold valueAt at e ⊢
    rw [List.zip_cons_cons, List.map_cons, List.find?_cons_of_neg (by simpa using ne2)]
    exact e
theorem pe_tabGet {X : Cx} {o e : Expr} {td te : TE} {apos cpos : Pos} (hu : X.A.units + 64 < cLine) (ho : PE X o td) (he : PE X e te) (m : M1 X o "get" apos e cpos) : PE X (.Call (.Attribute o "get" apos) [e] [] cpos) (tTabGet X.prog X.w X.K td te) := by
  refine ⟨fun pins s σ H Q I h => ?_⟩
  refine wpAny_Call_method m.base m.few m.line PySem.F.plainAttrs_dict PySem.F.slot_dict_get PySem.F.type_dict_get (thn (ho.run pins s σ H _ I h) fun u s1 ⟨x, H1, I1, rx, a, kvs, ex, ⟨hsm, ts, hT⟩, q1⟩ => ?_)
  subst ex
  obtain rfl : u = Value.ref a := rx
  obtain ⟨hD, _⟩ := hT _ I1.kIn
  have hD' := hD
  obtain ⟨xs, ⟨ob, es, ep, hob, hcl, hdat, _⟩, _⟩ := hD'
  refine ⟨hD.typeIs, fun b q => by cases q; exact ⟨ob, hob, hcl.2.1⟩, ?_⟩
  rw [m.trees]
  refine Calls.callWith_builtin rfl (Calls.evalArgs_plain (Calls.spliced_cons (thn (he.run pins s1 σ H1 _ I1 q1) fun iv s2 ⟨y, H2, I2, ry, p, ks, z, ey, hp, ⟨i, hi, hlt⟩, q2⟩ => Calls.spliced_nil ?_)))
  subst ey
  obtain rfl : iv = Value.ref p := ry
  obtain ⟨_, its, rv, ot, h1, h2, n, h3⟩ := (show ObjOk X.prog X.w H2 s2.heap p (.tup (ks.map fun k : Nat => V.int (k : Int))) from I2.hok p _ hp)
  obtain ⟨hD2, hlen⟩ := hT _ I2.kIn
  obtain ⟨t, ht⟩ := tab_find hlen hi hlt
  have hk : (nestedKind X.prog X.w).is s2.heap (numK ks) p := ⟨.tup h1 h2 h3 (by simpa using numAll_of (h := s2.heap) rv), numK_depth ks⟩
  refine get_keyed (knd := nestedKind X.prog X.w) (show X.A.in1.units + 8 < cLine by show X.A.units + 1 + 8 < cLine; omega) hk hsm hD2 ?_
  rw [ht]
  exact ⟨.str z, H2, I2.tok _, ⟨t, rfl⟩, q2⟩
/-! ### list(d.values()), list(d.keys()) -/
def tListVals (te : TE) : TE := fun σ H Q => te σ H fun x H1 => ∃ (d : Addr) (kvs : List (Key × V)), x = .ref d ∧ H1 d = some (.dK kvs) ∧ ∀ p, H1 p = none → Q (.ref p) (upd H1 p (.lst (kvs.map (·.2))))
def tListKeys (te : TE) : TE := fun σ H Q => te σ H fun x H1 => ∃ (d : Addr) (kvs : List (Key × V)), x = .ref d ∧ H1 d = some (.dK kvs) ∧ ∀ p, H1 p = none → Q (.ref p) (upd H1 p (.lst (kvs.map fun kv => kV kv.1)))
theorem vals_items {P : Nat → Value → Prop} : ∀ {xs : List V} {us : List Value} (k : Nat), us.length = xs.length → (∀ j v, us[j]? = some v → P (k + j) v) → (∀ j x v, xs[j]? = some x → P (k + j) v → RelV x v) → Vals xs us
  | [], [], _, _, _, _ => .nil
  | [], _ :: _, _, h, _, _ => by simp at h
  | _ :: _, [], _, h, _, _ => by simp at h
  | x :: xs, u :: us, k, h, h1, h2 => .cons (h2 0 x u rfl (h1 0 u rfl)) (vals_items (P := P) (k + 1) (by simpa using h) (fun j v e => by
      have := h1 (j + 1) v (by simpa using e)
      rw [show k + (j + 1) = k + 1 + j by omega] at this
      exact this) fun j y v e p => h2 (j + 1) y v (by simpa using e) (by rw [show k + (j + 1) = k + 1 + j by omega]; exact p))
section
variable {X : Cx} {e : Expr} {te : TE} {p apos cpos pos : Pos}
theorem pe_listVals (hc : X.calm = true) (he : PE X e te) (hg : Gl X "list") (hm : X.mg "list" = none) (hbase : attributeBase e "values" X.env (eval e X.env) = eval e X.env := by rfl) (hline : (apos.endLine == cpos.line) = true := by rfl)
    (hs : starEach [.Call (.Attribute e "values" apos) [] [] cpos] X.env = (false, eval (.Call (.Attribute e "values" apos) [] [] cpos) X.env) :: starEach [] X.env := by rfl) :
    PE X (.Call (.Name "list" p) [.Call (.Attribute e "values" apos) [] [] cpos] [] pos) (tListVals te) := by
  refine ⟨fun pins s σ H Q I hq => ?_⟩
  refine wpAny_Call_Name_kw (ld_blt I hg hm (by decide +kernel : bootBuiltins "list" = some (.type "list")) ?_)
  refine PyProof.Rows.callWith_type1 ?_ hs rfl
  rw [hs]
  show wpAny _ _ (spliced ((false, eval (.Call (.Attribute e "values" apos) [] [] cpos) X.env) :: backTo pos (starEach [] X.env))) _ _ s
  refine Calls.spliced_cons ?_
  refine wpAny_Call_method (T := "dict") (id := "dict.values") hbase rfl hline F.plainAttrs_dict F.slot_dict_values F.type_dict_values (thn (he.run pins s σ H _ I hq) fun u s1 ⟨x, H1, I1, rx, d, kvs, ex, hd, q⟩ => ?_)
  subst ex
  obtain rfl : u = Value.ref d := rx
  obtain ⟨hz, hs0, vs, kv, hdo⟩ := I1.hok d _ hd
  obtain ⟨ep, hat⟩ := hdo.dictAt
  have lk : kvs.length = vs.length := Paired.length kv
  refine ⟨hdo.typeIs, hdo.mapOf.noDict, ?_⟩
  show wpAny _ _ (callWith cpos (.builtin "dict.values") [.ref d] [] []) _ X.xe s1
  refine method_meetsIn F.slot_dict_values F.entry_dict_values rfl (PySem.evalArgs_none ⟨rfl, hdo.typeIs, F.args_dict_values_1 _, _, meets_dict_values (mixKind X.prog X.w) d hs0, ⟨vs, hdo⟩, ?_⟩)
  refine Calls.spliced_nil ?_
  refine PySem.W.kdl_call (PySem.W.kdl_values (knd := mixKind X.prog X.w) (kvs := vs) (ep := ep) (r := s1.heap.objs.size)) (I1.ok.hd hc) ⟨⟨_, Heap.get?_push_size _ rfl, rfl, rfl⟩, hat.push _⟩ (by omega) fun h' tk acc c hk hS hI => ?_
  have keep : ∀ b o, s1.heap.get? b = some o → h'.get? b = some o := fun b o z => hk b o (Heap.get?_push_of_some _ z)
  have hl : acc.toList.length = (kvs.map (·.2)).length := by rw [Array.length_toList, List.length_map, hI.1]; omega
  have rv : Vals (kvs.map (·.2)) acc.toList := vals_items (P := fun i v => ∃ k, vs[i]? = some (k, v)) 0 hl (fun j v z => by rw [Nat.zero_add]; exact hI.2 j v (by rw [← Array.getElem?_toList]; exact z)) fun j y v z ⟨k, w'⟩ => by
    rw [Nat.zero_add] at w'
    obtain ⟨q0, g1, g2⟩ : ∃ q0, kvs[j]? = some q0 ∧ y = q0.2 := by
      rw [List.getElem?_map] at z
      cases h : kvs[j]? with
      | none => rw [h] at z; cases z
      | some q0 => rw [h] at z; exact ⟨q0, rfl, (Option.some.inj z).symm⟩
    obtain ⟨pk, e2, e3⟩ := LiI.paired_get kv g1
    rw [w'] at e2
    cases e2
    rw [g2]
    exact e3.2
  refine ⟨.ref _, upd H1 _ (.lst (kvs.map (·.2))), I1.laid (t' := tk) keep (Nat.le_succ _ |> fun z => by rw [Heap.size_push]; exact z) ⟨by rw [List.length_map]; omega, acc.toList, c, rv, by simpa using hS⟩, rfl, q _ (I1.hok.fresh (by rw [Heap.size_push]; exact Nat.le_succ _))⟩
theorem pe_listKeys (hc : X.calm = true) (he : PE X e te) (hg : Gl X "list") (hm : X.mg "list" = none) (hbase : attributeBase e "keys" X.env (eval e X.env) = eval e X.env := by rfl) (hline : (apos.endLine == cpos.line) = true := by rfl)
    (hs : starEach [.Call (.Attribute e "keys" apos) [] [] cpos] X.env = (false, eval (.Call (.Attribute e "keys" apos) [] [] cpos) X.env) :: starEach [] X.env := by rfl) :
    PE X (.Call (.Name "list" p) [.Call (.Attribute e "keys" apos) [] [] cpos] [] pos) (tListKeys te) := by
  refine ⟨fun pins s σ H Q I hq => ?_⟩
  refine wpAny_Call_Name_kw (ld_blt I hg hm (by decide +kernel : bootBuiltins "list" = some (.type "list")) ?_)
  refine PyProof.Rows.callWith_type1 ?_ hs rfl
  rw [hs]
  show wpAny _ _ (spliced ((false, eval (.Call (.Attribute e "keys" apos) [] [] cpos) X.env) :: backTo pos (starEach [] X.env))) _ _ s
  refine Calls.spliced_cons ?_
  refine wpAny_Call_method (T := "dict") (id := "dict.keys") hbase rfl hline F.plainAttrs_dict F.slot_dict_keys F.type_dict_keys (thn (he.run pins s σ H _ I hq) fun u s1 ⟨x, H1, I1, rx, d, kvs, ex, hd, q⟩ => ?_)
  subst ex
  obtain rfl : u = Value.ref d := rx
  obtain ⟨hz, hs0, vs, kv, hdo⟩ := I1.hok d _ hd
  obtain ⟨ep, hat⟩ := hdo.dictAt
  have lk : kvs.length = vs.length := Paired.length kv
  refine ⟨hdo.typeIs, hdo.mapOf.noDict, ?_⟩
  show wpAny _ _ (callWith cpos (.builtin "dict.keys") [.ref d] [] []) _ X.xe s1
  refine method_meetsIn F.slot_dict_keys F.entry_dict_keys rfl (PySem.evalArgs_none ⟨rfl, hdo.typeIs, F.args_dict_keys_1 _, _, PySem.W.kdl_meets_keys (mixKind X.prog X.w) d hs0, ⟨vs, hdo⟩, ?_⟩)
  refine Calls.spliced_nil ?_
  refine PySem.W.kdl_call (PySem.W.kdl_keys (knd := mixKind X.prog X.w) (kvs := vs) (ep := ep) (r := s1.heap.objs.size)) (I1.ok.hd hc) ⟨⟨_, Heap.get?_push_size _ rfl, rfl, rfl⟩, hat.push _⟩ (by omega) fun h' tk acc c hk hS hI => ?_
  have keep : ∀ b o, s1.heap.get? b = some o → h'.get? b = some o := fun b o z => hk b o (Heap.get?_push_of_some _ z)
  have hl : acc.toList.length = (kvs.map fun kv => kV kv.1).length := by rw [Array.length_toList, List.length_map, hI.1]; omega
  have rv : Vals (kvs.map fun kv => kV kv.1) acc.toList := vals_items (P := fun i v => ∃ k x, vs[i]? = some (k, x) ∧ (mixKind X.prog X.w).is k v = true) 0 hl (fun j v z => by rw [Nat.zero_add]; exact hI.2 j v (by rw [← Array.getElem?_toList]; exact z)) fun j y v z ⟨k, x, w', w2⟩ => by
    rw [Nat.zero_add] at w'
    obtain ⟨q0, g1, g2⟩ : ∃ q0, kvs[j]? = some q0 ∧ y = kV q0.1 := by
      rw [List.getElem?_map] at z
      cases h : kvs[j]? with
      | none => rw [h] at z; cases z
      | some q0 => rw [h] at z; exact ⟨q0, rfl, (Option.some.inj z).symm⟩
    obtain ⟨pk, e2, e3⟩ := LiI.paired_get kv g1
    rw [w'] at e2
    cases e2
    rw [g2]
    rw [e3.1]
    exact relV_key (show keyIs k v = true from w2)
  refine ⟨.ref _, upd H1 _ (.lst (kvs.map fun kv => kV kv.1)), I1.laid (t' := tk) keep (Nat.le_succ _ |> fun z => by rw [Heap.size_push]; exact z) ⟨by rw [List.length_map]; omega, acc.toList, c, rv, by simpa using hS⟩, rfl, q _ (I1.hok.fresh (by rw [Heap.size_push]; exact Nat.le_succ _))⟩
end
end L2

namespace SrtO
open PySem PyProof.Rows PySem.W
/-- a tuple of two ints and an object -/
def IsRow (h : Heap) (v : Value) (x : Int) : Prop := ∃ a o t y u c n, v = .ref a ∧ h.get? a = some o ∧ o.cls = .type "tuple" ∧ o.data = .seq #[.int x t, .int y u, .ref c] n
theorem IsRow.keeps {h h' : Heap} {v : Value} {x : Int} (p : IsRow h v x) (k : ∀ b o, h.get? b = some o → o.cls = .type "tuple" → h'.get? b = some o) : IsRow h' v x := by
  obtain ⟨a, o, t, y, u, c, n, e, ho, hc, hd⟩ := p
  exact ⟨a, o, t, y, u, c, n, e, k _ _ ho hc, hc, hd⟩
theorem row_firsts {h : Heap} : ∀ {vs : List Value}, (∀ v ∈ vs, ∃ x, IsRow h v x) → ∃ fs : List Value, PySem.W.KatTups h vs fs ∧ fs.length = vs.length ∧ ∀ f ∈ fs, ∃ x t, f = Value.int x t
  | [], _ => ⟨[], PySem.W.KatTups.nil, rfl, fun _ hm => by simp at hm⟩
  | v :: vs, hv => by
    obtain ⟨fs, h1, h2, h3⟩ := row_firsts (h := h) (vs := vs) fun w hw => hv w (List.mem_cons_of_mem _ hw)
    obtain ⟨x, a, o, t, y, u, c, n, e, ho, hc, hd⟩ := hv v List.mem_cons_self
    subst e
    refine ⟨.int x t :: fs, .cons ho hc hd rfl h1, by simp [h2], fun f hf => ?_⟩
    rcases List.mem_cons.mp hf with e | hf
    · exact ⟨x, t, e⟩
    · exact h3 f hf
theorem swo_key (k : Value → Int) : Swo fun v u => decide (k v < k u) := by
  refine ⟨fun x y h => ?_, fun x y z h1 h2 => ?_⟩
  · have a := of_decide_eq_true h
    exact decide_eq_false (by omega)
  · have a := of_decide_eq_false h1
    have b := of_decide_eq_false h2
    exact decide_eq_false (by omega)
section
variable {prog : Program} {w : World} {A : Around} {E : Value → Shared → Prop} {s : Shared}
theorem row_cmp {vs : List Value} {k : Value → Int} (hp : ∀ v ∈ vs, IsRow s.heap v (k v)) (hi : ∀ v ∈ vs, ∀ u ∈ vs, k v = k u → v = u) : Cmp prog w A s (tuples' true) (fun p => p.1 ∈ vs) (lt2 fun v u => decide (k v < k u)) := by
  intro p q hm hm'
  have h1 := hp _ hm
  have h2 := hp _ hm'
  have h3 := hi _ hm _ hm'
  show wpAny (model prog w) A (keyLt' (tuples' true) p.1 q.1) (fun r s' => s' = s ∧ r = decide (k p.1 < k q.1)) (fun _ _ => False) s
  generalize k p.1 = x at h1 h3 ⊢
  generalize k q.1 = x' at h2 h3 ⊢
  obtain ⟨a, o, t, y, u, c, n, e, ho, hc, hd⟩ := h1
  obtain ⟨a', o', t', y', u', c', n', e', ho', hc', hd'⟩ := h2
  rw [e, e'] at h3 ⊢
  refine PySem.W.kat_lt ho hd ho' hd' ?_
  show PySem.W.KatLex prog w A true (decide (3 < 3)) _ [(.int x t, .int x' t'), (.int y u, .int y' u'), (.ref c, .ref c')] 0 s
  refine PySem.W.kat_cons (SeqAt.EqAt.int_int x t x' t' prog w _ _ ?_)
  refine PySem.W.kat_go (fun e1 => ?_) (fun e1 => ?_)
  · have ex : x = x' := by simpa using e1
    have ea : a = a' := Value.ref.inj (h3 ex)
    subst ea
    rw [ho] at ho'
    have eo := Option.some.inj ho'
    subst eo
    rw [hd] at hd'
    injection hd' with ed _
    have ey : y = y' := by
      have z := congrArg (fun a : Array Value => a[1]?) ed
      simp at z
      exact z.1
    have ec : c = c' := by
      have z := congrArg (fun a : Array Value => a[2]?) ed
      simpa using z
    subst ec
    refine PySem.W.kat_yes (PySem.W.kat_cons (SeqAt.EqAt.int_int y u y' u' prog w _ _ ?_))
    refine PySem.W.kat_go (fun e2 => ?_) (fun e2 => ?_)
    · refine PySem.W.kat_yes (PySem.W.kat_cons (SeqAt.EqAt.same (.ref c) prog w _ _ ?_))
      refine PySem.W.kat_go (fun _ => ?_) (fun z => nomatch z)
      refine PySem.W.kat_yes (PySem.W.kat_nil ⟨rfl, ?_⟩)
      rw [ex]
      exact (decide_eq_false (by omega)).symm
    · exact absurd ey (by simpa using e2)
  · have ex : ¬ x = x' := by simpa using e1
    exact PySem.W.kat_no (oneLt_int ⟨rfl, rfl⟩)
theorem rows_sortableO {a : Addr} {vs : List Value} {k : Value → Int} (h0 : 0 < vs.length) (hp : ∀ v ∈ vs, IsRow s.heap v (k v)) (hi : ∀ v ∈ vs, ∀ u ∈ vs, k v = k u → v = u) (ha : ∀ o, s.heap.get? a = some o → o.cls ≠ .type "tuple") : SortableO prog w A s a vs fun v u => decide (k v < k u) := by
  intro h' keep
  have hp' : ∀ v ∈ vs, IsRow h' v (k v) := fun v hm => (hp v hm).keeps fun b o e c => keep b o (fun z => by subst z; exact ha o e c) e
  obtain ⟨fs, h1, h2, h3⟩ := row_firsts fun v hm => ⟨_, hp' v hm⟩
  refine ⟨tuples' true, fun Q E hq => ?_, row_cmp hp' hi⟩
  refine PySem.W.kat_kind (T := .type "int") h1 (by omega) (fun f hm => ?_) (by rfl) ?_
  · obtain ⟨x, t, rfl⟩ := h3 f hm
    exact PySem.W.Looks.now
  · have e : (Value.type "int" != Value.type "tuple") = true := by first | decide +kernel | rfl | decide
    rw [e]
    exact hq
theorem sorted_rowsO {l : Addr} {vs : List Value} {k : Value → Int} {Q : Value → Shared → Prop} (hl : s.heap.IsList l vs.toArray) (hz : vs.length ≤ sizeLine) (hp : ∀ v ∈ vs, IsRow s.heap v (k v)) (hi : ∀ v ∈ vs, ∀ u ∈ vs, k v = k u → v = u)
    (h : ∀ (h' : Heap) (d : Addr) (out : List Value), Srtd (fun v u => decide (k v < k u)) out → Stb (fun v u => decide (k v < k u)) out vs → (∀ b o, s.heap.get? b = some o → h'.get? b = some o) → s.heap.objs.size ≤ d → (∃ n, h'.get? d = some (seqObj "list" out.toArray n)) → Q (.ref d) { s with heap := h' }) :
    wpAny (model prog w) A (call (.builtin "sorted") [.ref l]) Q E s := by
  refine sorted_ord (swo_key k) hl hz (fun h2 h₁ a ha kk => ?_) fun out hs hb => ?_
  · refine rows_sortableO (s := { s with heap := h₁ }) (by omega) (fun v hm => (hp v hm).keeps fun b o e _ => (kk b o e).2) hi fun o e => ?_
    have e' : some o = some (seqObj "list" vs.toArray 0) := e.symm.trans ha
    cases e'
    intro c
    exact absurd (Value.type.inj c) (by decide)
  · exact h _ _ out hs hb (fun b o e => sortedAll_old e) (Nat.le_succ _) (sortedAll_at s.heap vs out.toArray)
end
end SrtO
namespace L2
open PySem PySem.Spec PyProof.Rows
def rSortedR (K : PySem.W.Frag) : List V → Hp → VK → Prop := fun vs H Q => ∃ (a : Addr) (rs : List Addr) (k : Addr → Int), vs = [V.ref a] ∧ SqL K H a (rs.map V.ref) ∧ (∀ r ∈ rs, ∃ (y : Int) (c : Addr), H r = some (.tup [.int (k r), .int y, .ref c])) ∧
  (∀ r ∈ rs, ∀ r' ∈ rs, k r = k r' → r = r') ∧ ∀ (rs' : List Addr) (p : Addr), rs'.Perm rs → rs'.Pairwise (fun a b => k a ≤ k b) → H p = none → Q (.ref p) (upd H p (.lst (rs'.map V.ref)))
theorem vals_refs_eq : ∀ {rs : List Addr} {us : List Value}, Vals (rs.map V.ref) us → us = rs.map Value.ref
  | [], _, r => by cases r; rfl
  | a :: rs, _, r => by
    cases r with
    | cons r1 r2 =>
      rw [vals_refs_eq r2]
      cases r1
      rfl
def addrV : Value → Addr
  | .ref a => a
  | _ => 0
theorem cr_sortedR {X : Cx} : CallR X (.builtin "sorted") (rSortedR X.K) := by
  intro pins s σ H vs us Q I r h
  obtain ⟨a, rs, k, rfl, hs, hx, hi, q⟩ := h
  obtain ⟨its, rv, hl, hz⟩ := I.list hs
  obtain ⟨u, rfl, ru⟩ := vals1 r
  obtain rfl : u = Value.ref a := ru
  have ei := vals_refs_eq rv
  subst ei
  refine SrtO.sorted_rowsO (k := fun u => k (addrV u)) hl.isList (by rw [List.length_map] at *; exact hz) (fun v hv => ?_) (fun v hv u hu e => ?_) fun h' d out h1 h2 kp hd hn => ?_
  · obtain ⟨t, ht, rfl⟩ := List.mem_map.mp hv
    obtain ⟨y, c, e⟩ := hx t ht
    obtain ⟨_, its2, r2, o, ho, hc, n, hdt⟩ := (show ObjOk X.prog X.w H s.heap t (.tup [.int (k t), .int y, .ref c]) from I.hok _ _ e)
    cases r2 with
    | cons a1 r2 =>
      cases r2 with
      | cons a2 r2 =>
        cases r2 with
        | cons a3 r2 =>
          cases r2
          obtain ⟨t1, rfl⟩ := a1
          obtain ⟨t2, rfl⟩ := a2
          cases a3
          exact ⟨t, o, t1, y, t2, c, n, rfl, ho, hc, hdt⟩
  · obtain ⟨t, ht, rfl⟩ := List.mem_map.mp hv
    obtain ⟨t', ht', rfl⟩ := List.mem_map.mp hu
    rw [hi t ht t' ht' e]
  · obtain ⟨n, hn⟩ := hn
    have hp := h2.perm
    have eo : out = (out.map addrV).map Value.ref := by
      rw [List.map_map]
      have : ∀ u ∈ out, Value.ref (addrV u) = u := fun u hu => by
        obtain ⟨t, _, rfl⟩ := List.mem_map.mp (hp.mem_iff.mp hu)
        rfl
      conv => lhs; rw [← List.map_id out]
      exact List.map_congr_left fun u hu => (this u hu).symm
    have hp2 : (out.map addrV).Perm rs := by
      have z := hp.map addrV
      rw [List.map_map] at z
      have id : (rs.map (addrV ∘ Value.ref)) = rs := by
        conv => rhs; rw [← List.map_id rs]
        rfl
      rw [id] at z
      exact z
    have hs2 : (out.map addrV).Pairwise (fun a b => k a ≤ k b) := by
      rw [List.pairwise_map]
      refine List.Pairwise.imp (fun {a b} h => ?_) h1
      have := of_decide_eq_false h
      omega
    refine ⟨.ref d, upd H d (.lst ((out.map addrV).map V.ref)), I.laid (t' := s.toks) kp hd ⟨?_, out, n, ?_, hn⟩, rfl, q _ d hp2 hs2 (I.hok.fresh hd)⟩
    · rw [List.length_map, hp2.length_eq]
      rw [List.length_map] at hz
      exact hz
    · rw [eo]
      have g : ∀ l : List Addr, Vals (l.map V.ref) (l.map Value.ref) := fun l => by
        induction l with
        | nil => exact .nil
        | cons a l ih => exact .cons rfl ih
      rw [← eo]
      conv => arg 2; rw [eo]
      exact g _
/-- list.index within a comprehension -/
theorem pe_indexK {X : Cx} {K : PySem.W.Frag} (h : X.K = K) {o e : Expr} {to te : TE} {apos cpos : Pos} (p : PE X (.Call (.Attribute o "index" apos) [e] [] cpos) (tBM X.K "list" (rIndex X.K) to (tCons te tNil))) : PE X (.Call (.Attribute o "index" apos) [e] [] cpos) (tBM K "list" (rIndex K) to (tCons te tNil)) := by
  subst h
  exact p
theorem op_notInK {X : Cx} {K : PySem.W.Frag} (h : X.K = K) : OpR X (compareOp .NotIn) (rIn K true) := by
  subst h
  exact op_notIn_seq
end L2

namespace L2
open PySem PySem.Spec PyProof.Rows
section
variable {X : Cx}
/-- a name of the def's own, on the line of the comprehension: stored within its frame -/
theorem swd_true {kx vx : Expr} {gs : List Comprehension} {scope : Scope} {pos py : Pos} {y : Str} {l : Nat} {env : Env} (e1 : env.scope.kind = .function) (e2 : env.scope.names.lookup y = some .local) (e3 : (py.line == pos.line) = true)
    (e4 : (scope.names.any fun (n, k) => n == y && (k == .local || k == .cell)) = false) : swapsWith (.DictComp kx vx gs scope pos) (some (.Name y py)) l env = pure true := by
  have a1 : env.kindOf y = some .local := e2
  have a2 : env.blockKind = .function := (by unfold Env.blockKind; rw [e1]; rfl)
  unfold swapsWith
  simp only [a2, a1, e4, Expr.pos, e3]
  rfl
/-- y = {k: v for x in xs} -/
theorem ps_setDc {i : Nat} {y : Str} {py pos spos : Pos} {kx vx tg iter : Expr} {ifs : List Expr} {scope : Scope} {own : List (Str × Nat)} {wi : TI} {g : TG} {tt : TT} {tk tv : TE} (calm : X.calm = true) (nd : X.N.Nodup) (at_y : X.N[i]? = some y) (loc : X.env.scope.names.lookup y = some .local)
    (sw : swapsWith (.DictComp kx vx [⟨tg, iter, ifs, 0⟩] scope pos) (some (.Name y py)) spos.line X.env = pure true) (walk : PI X tg iter wi) (ok : BlkOk X.N X.env.scope scope own)
    (rg : ∀ (s : Shared) (H : Hp) (C : Addr) (cl : List (Str × Addr)) (fp : List Addr), PG (X.blk s H scope (compEnvC scope cl C X.env) fp) tg g)
    (rt : ∀ (s : Shared) (H : Hp) (C : Addr) (cl : List (Str × Addr)) (fp : List Addr), PTs (X.blk s H scope (compEnvC scope cl C X.env) fp) ifs tt)
    (rk : ∀ (s : Shared) (H : Hp) (C : Addr) (cl : List (Str × Addr)) (fp : List Addr), PE (X.blk s H scope (compEnvC scope cl C X.env) fp) kx tk)
    (rv : ∀ (s : Shared) (H : Hp) (C : Addr) (cl : List (Str × Addr)) (fp : List Addr), PE (X.blk s H scope (compEnvC scope cl C X.env) fp) vx tv)
    (fold : ∀ x, foldedSetIterable iter X.env x = pure x := by intro _; rfl) :
    PS X (.Assign [.Name y py] (.DictComp kx vx [⟨tg, iter, ifs, 0⟩] scope pos) spos) (tAsg (tDc wi g tt tk tv (own.map (·.2))) (gName i)) := by
  constructor
  intro pins s σ H D I q
  have q : tDc wi g tt tk tv (own.map (·.2)) σ H (fun x H1 => gName i x σ H1 D.nx) := q
  rw [exec_Assign_Name_used _ _ _ _ sw]
  apply wpAny_bind
  apply wpAny_standAt
  apply wpAny_bind
  show wpAny _ X.A (do let _ ← comprehension (.DictComp kx vx [⟨tg, iter, ifs, 0⟩] scope pos) scope X.env (firstIterPos [⟨tg, iter, ifs, 0⟩] pos) newDict false (eval iter X.env) (some (assign (.Name y py) X.env))) _ _ s
  apply wpAny_bind
  refine thn (dc_core (Qf := fun _ s' => SP X pins D .next s') calm nd I walk ok rg rt rk rv fold q ?_) fun _ _ z => wpAny_pure (wpAny_pure z)
  intro d c t n H2 J nx ns fr
  show wpAny _ _ (assign (.Name y py) X.env (.ref d)) _ _ _
  refine wpAny_assign_Name (store_ok2 (v := V.ref d) J nd at_y (.inl loc) rfl ?_ (.inr loc))
  rintro u JU ⟨b, same, which⟩
  obtain ⟨r0, r1, r2, r3, r4, r5⟩ := fr
  have far : c ≠ b := by
    cases which with
    | inl z => exact z ▸ r1
    | inr z => exact fun e => r4 y b z e.symm
  exact ⟨n, ns.sameBut same far, fun _ rest => ⟨_, H2, JU.turned (t' := u.toks) (fun a o ha e => (rest.2 a ha).trans e) r0 r1 r3 r4 r5, nx⟩⟩
end
end L2

namespace SrtO
open PySem PyProof.Rows Srt
section
variable {prog : Program} {w : World} {A : Around} {E : Value → Shared → Prop} {s : Shared}
/-- the heap with the items of a tuple in a new list -/
def gath (h : Heap) (its : List Value) : Heap := (h.push (seqObj "list" #[] 0)).update h.objs.size (Obj.mapSeq (· ++ its.toArray))
theorem gath_at (h : Heap) (its : List Value) : ∃ k, (gath h its).get? h.objs.size = some (seqObj "list" its.toArray k) := by
  have e := get?_update_seq (c := "list") (xs := #[]) (n := 0) (Heap.get?_push_size h rfl) (· ++ its.toArray)
  rw [Array.empty_append] at e
  exact ⟨_, e⟩
theorem gath_old {h : Heap} {its : List Value} {b : Addr} {o : Obj} (e : h.get? b = some o) : (gath h its).get? b = some o := by
  unfold gath
  rw [Heap.get?_update_ne _ _ _ _ (Nat.ne_of_lt (Heap.lt_size e))]
  exact Heap.get?_push_of_some _ e
theorem gath_size (h : Heap) (its : List Value) : (gath h its).objs.size = h.objs.size + 1 := by
  unfold gath
  rw [Heap.size_update, size_push']
theorem gather_tup {t : Addr} {o : Obj} {its : List Value} {k : Nat} {Q : List Value → Shared → Prop} (there : s.heap.get? t = some o) (cls : o.cls = .type "tuple") (dat : o.data = .seq its.toArray k) (few : its.length ≤ sizeLine)
    (next : Q its { s with heap := gath s.heap its }) : wpAny (model prog w) A (collect (.ref t)) Q E s := by
  have there' : (s.heap.push (seqObj "list" #[] 0)).get? t = some o := Heap.get?_push_of_some _ there
  have new0 : (s.heap.push (seqObj "list" #[] 0)).get? s.heap.objs.size = some (seqObj "list" #[] 0) := Heap.get?_push_size _ rfl
  unfold collect
  apply wpAny_bind
  refine wpAny_runValue (codeAny_builtin entry_proto_collect' ?_)
  show wpAny _ _ (newList [] >>= fun l => again (.builtin "list.__iadd__" ⟨[l, .ref t], []⟩)) _ _ s
  apply wpAny_bind
  refine wpAny_newList (wpAny_pure ⟨Code.quiet_builtin _ (by decide +kernel), codeAny_builtin entry_list_iadd' ?_⟩)
  show wpAny _ _ (Builtin.List.listExtendWith (.ref s.heap.objs.size) (.ref t) (.ref s.heap.objs.size)) _ _ { s with heap := s.heap.push (seqObj "list" #[] 0) }
  unfold Builtin.List.listExtendWith
  apply wpAny_bind
  refine wpAny_typeOf (T := "tuple") ⟨o, there', cls⟩ ?_
  have isT : (Value.type "tuple" == Value.type "tuple") = true := by rfl
  rw [if_pos (by rw [isT]; simp)]
  refine wpAny_bind (listItems_at there' dat ?_)
  refine wpAny_bind (listItems_at new0 rfl ?_)
  rw [if_neg (by simp)]
  refine wpAny_bind (listUpdate_at new0 rfl ?_ (Nat.zero_le _) (by show (#[] ++ its.toArray).size ≤ sizeLine + 1; simp only [Array.size_append, List.size_toArray, List.length_nil]; omega))
  refine wpAny_pure ?_
  obtain ⟨k2, e⟩ := gath_at s.heap its
  show wpAny (model prog w) A (do
      let o ← load s.heap.objs.size
      match o.data with
      | .seq xs _ => pure xs.toList
      | _ => unsupported "internal:collect") Q E { s with heap := gath s.heap its }
  exact wpAny_bind (wpAny_load e (wpAny_pure next))
/-- sorted(t), t a tuple of ints -/
theorem sorted_tupI {t : Addr} {o : Obj} {its : List Value} {ns : List Int} {k : Nat} {Q : Value → Shared → Prop} (I : IntsAre its ns) (there : s.heap.get? t = some o) (cls : o.cls = .type "tuple") (dat : o.data = .seq its.toArray k) (few : its.length ≤ sizeLine)
    (next : ∀ (out : List Value) (h' : Heap) (e : Nat), Srtd ltIv out → Stb ltIv out its → (∀ b u, s.heap.get? b = some u → h'.get? b = some u) → h'.get? (s.heap.objs.size + 1) = some (seqObj "list" out.toArray e) → Q (.ref (s.heap.objs.size + 1)) { s with heap := h' }) :
    wpAny (model prog w) A (call (.builtin "sorted") [.ref t]) Q E s := by
  refine Calls.call_function_entry kind_sorted plain_sorted entry_sorted (args_sorted1 _) ?_
  unfold Builtin.«sorted»
  refine wpAny_bind (m := checkCount "sorted" 1 1 _) (wpAny_pure ?_)
  refine wpAny_bind (gather_tup there cls dat few ?_)
  refine wpAny_bind (wpAny_newList ?_ few)
  show wpAny _ _ _ _ _ { s with heap := (gath s.heap its).push (seqObj "list" its.toArray 0) }
  have at_l : ((gath s.heap its).push (seqObj "list" its.toArray 0)).get? (gath s.heap its).objs.size = some (seqObj "list" its.toArray 0) := Heap.get?_push_size _ rfl
  refine wpAny_bind (wpAny_holding (wpAny_call_entry slot_list_sort ⟨_, at_l, rfl⟩ entry_list_sort (list_sort_ord swo_int at_l few (fun two => ints_sortable I two) fun out h1 h2 => ⟨_, rfl, ?_⟩) (args_list_sort _)))
  obtain ⟨e, he⟩ := sortedHeap_at (vs := its) (out := out.toArray) at_l
  rw [gath_size] at he ⊢
  refine wpAny_pure ⟨_, rfl, next out _ e h1 h2 (fun b u z => ?_) he⟩
  have lt : b < s.heap.objs.size := Heap.lt_size z
  rw [sortedHeap_old (Nat.ne_of_lt (Nat.lt_succ_of_lt lt)) (by rw [size_push', gath_size]; exact Nat.lt_succ_of_lt (Nat.lt_succ_of_lt lt))]
  exact Heap.get?_push_of_some _ (gath_old z)
end
end SrtO
namespace L2
open PySem PySem.Spec PyProof.Rows
def rSortedTI (K : PySem.W.Frag) : List V → Hp → VK → Prop := fun vs H Q => ∃ (a : Addr) (ns : List Int), vs = [V.ref a] ∧ SqT K H a (ns.map V.int) ∧ ∀ (ns' : List Int) (p : Addr), ns'.Perm ns → ns'.Pairwise (· ≤ ·) → H p = none → Q (.ref p) (upd H p (.lst (ns'.map V.int)))
theorem cr_sortedTI {X : Cx} : CallR X (.builtin "sorted") (rSortedTI X.K) := by
  intro pins s σ H vs us Q I r h
  obtain ⟨a, ns, rfl, hs, q⟩ := h
  obtain ⟨its, rv, ⟨o, ho, hc, k, hd⟩, hz⟩ := I.tuple hs
  rw [Vals.ref1 r]
  have hz' : ns.length ≤ sizeLine := by
    rw [List.length_map] at hz
    exact hz
  refine SrtO.sorted_tupI rv.ints ho hc hd (by rw [← rv.length]; exact hz) fun out h' e h1 h2 old new => ?_
  obtain ⟨k1, k2, k3⟩ := SrtO.ints_out rv.ints h1 h2
  exact ⟨.ref _, upd H (s.heap.objs.size + 1) (.lst ((out.map SrtO.iv).map V.int)), I.laid (t' := s.toks) old (Nat.le_succ _) ⟨by rw [List.length_map, k2.length_eq]; exact hz', out, e, vals_of_ints k1, new⟩, rfl, q _ _ k2 k3 (I.hok.fresh (Nat.le_succ _))⟩
end L2

namespace L2
open PySem PySem.Spec PyProof.Rows
section
variable {X : Cx} {st : Stmt} {rest : List Stmt} {t : TS}
/-- a statement behind which nothing is ever run -/
def tStop (t : TS) : TS := fun D σ H => t { D with nx := fun _ _ => False } σ H
theorem pss_stop (h1 : PS X st t) : PSs X (st :: rest) (tStop t) := by
  refine ⟨fun pins s σ H D I h => ?_⟩
  refine wpAny_execs_cons (thn (h1.run pins s σ H { D with nx := fun _ _ => False } I h) fun f s1 q => ?_)
  cases f with
  | next =>
    obtain ⟨σ', H', I', q⟩ := q
    exact False.elim q
  | ret v => exact q
  | brk => exact q
  | cont => exact q
end
end L2

namespace L2
open PySem PySem.Spec PyProof.Rows
/-- d.get(t) of a written table, whether the key is there or not -/
def tTabLook (P : Program) (w : World) (K : PySem.W.Frag) (td te : TE) : TE := fun σ H Q => td σ H fun x H1 => ∃ (a : Addr) (kvs : List (List Nat × Str)), x = .ref a ∧ TabK P w K a kvs ∧ te σ H1 fun y H2 => ∃ (p : Addr) (ks : List Nat), y = .ref p ∧ H2 p = some (.tup (ks.map fun k : Nat => V.int (k : Int))) ∧
  (∀ q, (kvs.find? fun q => decide (q.1 = ks)) = some q → Q (.str q.2) H2) ∧ ((kvs.find? fun q => decide (q.1 = ks)) = none → Q .non H2)
theorem tab_look {ks : List Nat} : ∀ {kvs : List (List Nat × Str)} {ts : List Tok}, ts.length = kvs.length →
    (∀ q, (kvs.find? fun q => decide (q.1 = ks)) = some q → ∃ t : Tok, valueAt ((kvs.zip ts).map fun x => (numK x.1.1, Value.str x.1.2 x.2)) (numK ks) = some (Value.str q.2 t)) ∧
    ((kvs.find? fun q => decide (q.1 = ks)) = none → valueAt ((kvs.zip ts).map fun x => (numK x.1.1, Value.str x.1.2 x.2)) (numK ks) = none)
  | [], ts, _ => ⟨fun q h => by simp at h, fun _ => by simp [valueAt]⟩
  | _ :: _, [], hl => by simp at hl
  | (k0, z0) :: kvs, t0 :: ts, hl => by
    have ih := tab_look (ks := ks) (kvs := kvs) (ts := ts) (by simpa using hl)
    by_cases c : k0 = ks
    · subst c
      refine ⟨fun q h => ?_, fun h => ?_⟩
      · rw [List.find?_cons_of_pos (by simp)] at h
        cases Option.some.inj h
        exact ⟨t0, by simp [valueAt]⟩
      · rw [List.find?_cons_of_pos (by simp)] at h
        cases h
    · have ne2 : ¬ numK k0 = numK ks := fun e => c (numK_inj e)
      rw [List.find?_cons_of_neg (by simpa using c)]
      unfold valueAt at ih ⊢
      rw [List.zip_cons_cons, List.map_cons, List.find?_cons_of_neg (by simpa using ne2)]
      exact ih
theorem pe_tabLook {X : Cx} {o e : Expr} {td te : TE} {apos cpos : Pos} (hu : X.A.units + 64 < cLine) (ho : PE X o td) (he : PE X e te) (m : M1 X o "get" apos e cpos) : PE X (.Call (.Attribute o "get" apos) [e] [] cpos) (tTabLook X.prog X.w X.K td te) := by
  refine ⟨fun pins s σ H Q I h => ?_⟩
  refine wpAny_Call_method m.base m.few m.line PySem.F.plainAttrs_dict PySem.F.slot_dict_get PySem.F.type_dict_get (thn (ho.run pins s σ H _ I h) fun u s1 ⟨x, H1, I1, rx, a, kvs, ex, ⟨hsm, ts, hT⟩, q1⟩ => ?_)
  subst ex
  obtain rfl : u = Value.ref a := rx
  obtain ⟨hD, _⟩ := hT _ I1.kIn
  have hD' := hD
  obtain ⟨xs, ⟨ob, es, ep, hob, hcl, hdat, _⟩, _⟩ := hD'
  refine ⟨hD.typeIs, fun b q => by cases q; exact ⟨ob, hob, hcl.2.1⟩, ?_⟩
  rw [m.trees]
  refine Calls.callWith_builtin rfl (Calls.evalArgs_plain (Calls.spliced_cons (thn (he.run pins s1 σ H1 _ I1 q1) fun iv s2 ⟨y, H2, I2, ry, p, ks, ey, hp, q2, q3⟩ => Calls.spliced_nil ?_)))
  subst ey
  obtain rfl : iv = Value.ref p := ry
  obtain ⟨_, its, rv, ot, h1, h2, n, h3⟩ := (show ObjOk X.prog X.w H2 s2.heap p (.tup (ks.map fun k : Nat => V.int (k : Int))) from I2.hok p _ hp)
  obtain ⟨hD2, hlen⟩ := hT _ I2.kIn
  obtain ⟨f1, f2⟩ := tab_look (ks := ks) hlen
  have hk : (nestedKind X.prog X.w).is s2.heap (numK ks) p := ⟨.tup h1 h2 h3 (by simpa using numAll_of (h := s2.heap) rv), numK_depth ks⟩
  refine get_keyed (knd := nestedKind X.prog X.w) (show X.A.in1.units + 8 < cLine by show X.A.units + 1 + 8 < cLine; omega) hk hsm hD2 ?_
  cases hf : kvs.find? fun q => decide (q.1 = ks) with
  | some q =>
    obtain ⟨t, ht⟩ := f1 q hf
    rw [ht]
    exact ⟨.str q.2, H2, I2.tok _, ⟨t, rfl⟩, q2 q hf⟩
  | none =>
    rw [f2 hf]
    exact ⟨.non, H2, I2.tok _, rfl, q3 hf⟩
end L2

/-! exceptions whose context is known to be None: raised by defs, caught where the suite calls defs -/
namespace L2N
open PySem PySem.Spec PyProof.Rows L2
theorem takes0N {X : Cx} : Takes X (fun _ _ _ _ => False) := fun _ _ x => by
  obtain ⟨a, B, sI, pins, σ, H, cls, d, e, I, nb, up, sky, na, os, ag, w⟩ := x
  exact False.elim w
section
variable {X : Cx} {e : Expr} {es : List Expr} {ta : TA} {p pos : Pos}
/-- raise X(e, ..), own __init__: the new exception has no context -/
theorem pmk_oexN {CX : CXT} {x : Str} {C fI : Addr} {k : Nat} {fd : FuncData} {ps : List Str} {sp : Sp} (T : OexC X.K C) (iC : PySem.W.findIn X.K (.ref C) "__init__" = some (some (.ref fI))) (tI : PySem.W.typeIn X.K (.ref fI) = some (.type "function"))
    (F1 : FnOk X.prog X.w X.K X.mg X.base CX k fI fd ps sp) (hr : Room (k + 1) X.A) (hb : Binds X.K fd ps []) (hx : Passes CX X (fun _ _ _ => False)) (hg : Gl X x) (hm : X.mg x = some (.ref C)) (ha : PA X (e :: es) ta)
    (hdb : (x == ("__debug__" : Str)) = false := by decide) (he : starEach (e :: es) X.env = (false, eval e X.env) :: starEach es X.env := by rfl) (hpl : (backTo pos (starEach es X.env)).any (·.1) = false := by rfl) :
    PMk X (.Call (.Name x p) (e :: es) [] pos) (tMkO C sp [] ta) := by
  intro pins s σ H Q I h
  obtain ⟨c1, c2, c3, c4, c5, c6, c7, c8, c9, d0, d1, d2, d3, d4, d5, hC, hbm⟩ := T.cls
  refine wpAny_Call_Name_kw (ld_glob I hg hm ?_ hdb)
  refine PySem.W.callWith_K (h₀ := X.base) I.ok.mod.kin T.kC (thn (ha.run pos pins s σ H _ I h) fun us s1 ⟨vs, H1, I1, r1, hz, q1⟩ => ⟨I1.kIn, ?_⟩) he hpl
  show wpAny _ _ (call (.ref C) us) _ _ _
  obtain ⟨h1, g1, w1, k1, o1⟩ := s1
  have up1 : h1.objs.size ≤ h1.objs.size + 1 := Nat.le_succ _
  have fr : H1 (h1.objs.size + 1) = none := I1.hok.fresh up1
  have pr := q1 (h1.objs.size + 1) fr
  rw [List.append_nil] at pr
  have kp : ∀ b o, h1.get? b = some o → ((h1.push (PySem.W.kdv_tup us)).push (PySem.HandSPX.excO C h1.objs.size)).get? b = some o := fun b o z => Heap.get?_push_of_some _ (Heap.get?_push_of_some _ z)
  have ob : ((h1.push (PySem.W.kdv_tup us)).push (PySem.HandSPX.excO C h1.objs.size)).get? (h1.objs.size + 1) = some (PySem.HandSPX.excO C h1.objs.size) := by heap_get
  have J : Inv X pins σ (upd H1 (h1.objs.size + 1) (exo (h1.objs.size + 1) C none)) ⟨(h1.push (PySem.W.kdv_tup us)).push (PySem.HandSPX.excO C h1.objs.size), g1, w1, k1, o1⟩ :=
    I1.laid (t' := k1) (a := h1.objs.size + 1) (o := exo (h1.objs.size + 1) C none) (h' := (h1.push (PySem.W.kdv_tup us)).push (PySem.HandSPX.excO C h1.objs.size)) kp up1 (exo_ok ob)
  have rl : Vals (V.ref (h1.objs.size + 1) :: vs) (Value.ref (h1.objs.size + 1) :: us) := .cons rfl r1
  have ln : (Value.ref (h1.objs.size + 1) :: us).length = ps.length := by
    have z := rl.length
    rw [F1.len _ _ _ _ pr] at z
    exact z.symm
  have few : us.length ≤ sizeLine := by
    rw [← Paired.length r1, sizeLine_eq]
    omega
  have bd := hb ⟨(h1.push (PySem.W.kdv_tup us)).push (PySem.HandSPX.excO C h1.objs.size), g1, w1, k1, o1⟩ (Value.ref (h1.objs.size + 1) :: us) J.kIn (by rw [List.append_nil]; exact ln)
  rw [List.append_nil] at bd
  refine wpAny_call (PySem.HandSPX.call_own F.excBase_ValueError (fun Y => PySem.HandSPX.refsVE_contains Y c5 hbm) (I1.kIn _ _ hC) (PySem.W.looks_findIn I1.kIn iC) (fun self => PySem.W.bind_fn I1.kIn self tI) few
    (codeAny_mono (F1.run _ X.stack _ _ ⟨Value.ref (h1.objs.size + 1) :: us, []⟩ (Value.ref (h1.objs.size + 1) :: us) _ _ (fun _ _ _ => False) (hr.make C us []) (J.env0.make C us []) bd rl pr) fun r s' hq => ?_))
  cases r with
  | error er => exact hx pins σ _ _ er s' J hq
  | ok fl =>
    cases fl with
    | ret u =>
      obtain ⟨v, H2, os2, bare2, un2, hok2, rv, ev, d, fs, ea, ed, hd1, q2⟩ := hq
      subst ev
      obtain ⟨h2, g2, w2, k2, o2⟩ := s'
      obtain ⟨t0, G, JG, kG, ge, hoe, na⟩ := mk_end0 (d2 := w2) (t2 := k2) I1 up1 kp un2 hok2 os2 bare2 ea ed hd1
      exact ⟨rv, h1.objs.size + 1, _, _, ⟨G, g2, w2, k2, o2⟩, _, .ref C, some d, rfl, JG, kG, ge, hoe, ⟨rfl, rfl, fun vs hv => by cases hv; rfl⟩, rfl, rfl, na, rfl, bare2, raises_own T.exC T.tyC, q2⟩
    | next => exact False.elim hq
    | brk => exact False.elim hq
    | cont => exact False.elim hq
variable {C : Addr} {bmB : List Value} {B newId initId : String} {x : Str}
/-- raise X(), no own __init__ -/
theorem pmk_own0N (F : ExcBaseFacts B newId initId bmB) (q : PySem.W.excIn X.K C bmB newId = true) (gC : X.mg x = some (.ref C)) (kC : PySem.W.keepIn X.K (.ref C) = true) (r : Raises X (.ref C)) (hg : Gl X x)
    (hdb : (x == ("__debug__" : Str)) = false := by decide) : PMk X (.Call (.Name x p) [] [] pos) (fun _ H Q => Q (.ref C) none H) := by
  intro pins s σ H Q I h
  refine wpAny_Call_Name_kw (ld_glob I hg gC ?_ hdb)
  refine PySem.W.callWith_K0 I.kIn kC ?_
  obtain ⟨bm, N, nm, qn, bs, hdct, sn, sub, ab, col, dd, k0, k1, k2, k3, k5, mN, hC, hN, hni, T⟩ := exc_obj I.kIn q
  refine wpAny_call_exc_subT F T hC hN hni (fun h' e hm => ?_) (Nat.zero_le _)
  exact mk_of I hm r h (I.hok.gone hm.new)
end
end L2N
namespace L2
open PySem PySem.Spec PyProof.Rows
section
variable {P : Program} {w : World} {K : PySem.W.Frag} {mg : Str → Option Value} {base : Heap}
/-- a def that may raise, what it raises has no context -/
theorem Fun.okN {x qual : Str} {st : Stmt} {f : Addr} {fd : FuncData} {N ps : List Str} {k : Nat} {sp : Sp} (F : Fun K x qual st f fd) (S : FnScope N ps (defScope st)) (len : ∀ vs H Q E, sp vs H Q E → vs.length = ps.length)
    (hbody : ∀ (cdv : Value) (A : Around) (outer : List Env) (s : Shared) (H : Hp) (vs : List V) (Q : VK) (E : XK), Room k (A.deeper (envOfC qual (defScope st) s.heap.objs.size f cdv)) → sp vs H Q E →
      ∃ t, PSs (cxOf (L2N.CX P w) P w K mg base N qual (defScope st) f cdv A outer s H E) (defBody st) t ∧ t { nx := fun _ H' => Q .non H', rt := Q } (start N vs) H) : FnOk P w K mg base (L2N.CX P w) (k + 1) f fd ps sp := by
  obtain ⟨oc, od, kV, doc, pm, an, cdv, ct, osl, rfl, lk, hcd⟩ := F.ex
  exact fn_of lk hcd S len fun A outer s H vs Q E hr hsp => hbody cdv A outer s H vs Q E hr hsp
/-- a def called where an exception is handled, lets none out -/
theorem Fun.okH {x qual : Str} {st : Stmt} {f : Addr} {fd : FuncData} {N ps : List Str} {k : Nat} {sp : Sp} (F : Fun K x qual st f fd) (S : FnScope N ps (defScope st)) (len : ∀ vs H Q E, sp vs H Q E → vs.length = ps.length)
    (hbody : ∀ (cdv : Value) (A : Around) (outer : List Env) (s : Shared) (H : Hp) (vs : List V) (Q : VK) (E : XK) (p : Addr × Obj), L2H.Hot1 A p → L2H.RoomH k (A.deeper (envOfC qual (defScope st) s.heap.objs.size f cdv)) → sp vs H Q E →
      ∃ t, PSs (L2H.cxH CX0 P w K mg base N qual (defScope st) f cdv A outer s H E p).nox (defBody st) t ∧ t { nx := fun _ H' => Q .non H', rt := Q } (start N vs) H) : L2H.FnH P w K mg base CX0 (k + 1) f fd ps sp := by
  obtain ⟨oc, od, kV, doc, pm, an, cdv, ct, osl, rfl, lk, hcd⟩ := F.ex
  refine L2H.fn_ofH lk hcd S len fun A outer s H vs Q E p hot hr hsp => ?_
  obtain ⟨t, h, q⟩ := hbody cdv A outer s H vs Q E p hot hr hsp
  exact ⟨t, h.nox, q⟩
end
/-- within a suite: the exception that is handled has no context -/
theorem hot_suite {X : Cx} {a : Addr} {oe : Obj} {cls : Value} {d : Option Addr} {pn : List (Addr × Obj)} (hz : L2N.Zn cls d oe) (hf : ∃ vs, oe.data = .fields vs) : L2H.HotC (X.suite a ((a, oe) :: pn)) := by
  obtain ⟨vs, hv⟩ := hf
  exact ⟨(a, oe), ⟨rfl, vs, hv, hz.2.2 vs hv⟩, List.mem_cons_self⟩
end L2
namespace L2
open PySem PySem.Spec PyProof.Rows
/-- nothing is let out -/
theorem passH0 {X : Cx} (E : St → XK) : ∀ σ, PassesAt CX0 X σ (E σ) := fun _ _ _ _ _ _ _ z => False.elim z
theorem call_isiQ {X : Cx} {K : PySem.W.Frag} (h : X.K = K) : CallR X (.builtin "isinstance") (rIsi K) := by
  subst h
  exact call_isi
theorem call_lenK {X : Cx} {K : PySem.W.Frag} (h : X.K = K) : CallR X (.builtin "len") (fun xs H Q => ∃ p ys, xs = [.ref p] ∧ (SqL K H p ys ∨ SqT K H p ys) ∧ Q (.int ys.length) H) := by
  subst h
  exact call_len_seq
end L2

/-! min, max, len(set(..)) of a tuple of ints -/
namespace MmT
open PySem PyProof.Rows
theorem keep_old {s : Shared} {o : Obj} {h' : Heap} (hk : ∀ b u, b ∉ [s.heap.objs.size] → (s.heap.push o).get? b = some u → h'.get? b = some u) : ∀ b u, s.heap.get? b = some u → h'.get? b = some u := fun b u e => by
  refine hk b u (fun hm => ?_) (Heap.get?_push_of_some _ e)
  have := Heap.lt_size e
  rw [List.mem_singleton.mp hm] at this
  exact Nat.lt_irrefl _ this
theorem ints_arr {its : List Value} {ns : List Int} (hi : IntsAre its ns) : ∃ xs : Array (Int × Tok), its.toArray = intItems xs ∧ (xs.toList.map (·.1)) = ns := by
  obtain ⟨xs, e⟩ := hi.allInts.items
  have hn : numsOf (intItems xs).toList = ns := by
    rw [← e]
    exact hi.numsOf
  rw [nums_intItems] at hn
  exact ⟨xs, e, hn⟩
section
variable {prog : Program} {w : World} {A : Around} {E : Value → Shared → Prop} {s : Shared}
theorem min_tup {t : Addr} {its : List Value} {ns : List Int} {Q : Value → Shared → Prop} (calm : A.handled = none) (there : s.heap.IsTuple t its.toArray) (hi : IntsAre its ns) (some_ : 0 < ns.length)
    (next : ∀ (h' : Heap) (tk : Nat) (m : Int) (u : Tok), (∀ b o, s.heap.get? b = some o → h'.get? b = some o) → m ∈ ns → (∀ y ∈ ns, m ≤ y) → Q (.int m u) { s with heap := h', toks := tk }) :
    wpAny (model prog w) A (call (.builtin "min") [.ref t]) Q E s := by
  obtain ⟨xs, e1, e2⟩ := ints_arr hi
  subst e2
  rw [e1] at there
  have pos : 0 < xs.size := by simpa using some_
  have tb : t < s.heap.objs.size := by
    obtain ⟨o, ho, _⟩ := there
    exact Heap.lt_size ho
  refine call_min_walk (wpAny_pyIter_tuple there ?_)
  refine ⟨_, [_, t], [_], _, _, _, _, rfl, Walks.tuple (A := A.in1) calm _ t (Nat.ne_of_lt tb) (intItems xs), ⟨⟨_, Heap.get?_push_size _ rfl, rfl, rfl⟩, there.push _⟩, fun c hc => ?_, by simpa [intItems] using pos, CmpOf.ints_lt (numAt xs) (fun _ _ => intItems_at), fun v h' tk hP hk => ?_⟩
  · show c < (s.heap.push _).objs.size
    rw [Heap.size_push]
    rcases List.mem_cons.mp hc with rfl | hc
    · exact Nat.lt_succ_self _
    · rw [List.mem_singleton.mp hc]
      exact Nat.lt_succ_of_lt tb
  · have hP' : (intItems xs)[argBest (fun i j => decide (numAt xs i < numAt xs j)) (xs.size - 1)]? = some v := by simpa [intItems] using hP
    obtain ⟨u, rfl⟩ := intItems_at hP'
    obtain ⟨b1, b2⟩ := argBest_lt (numAt xs) (xs.size - 1)
    refine next h' tk _ u (keep_old hk) ?_ fun y hy => ?_
    · rw [numAt_eq]
      exact PySem.getD_mem (by rw [List.length_map, Array.length_toList]; omega)
    · obtain ⟨j, hj, rfl⟩ := mem_getD hy
      rw [List.length_map, Array.length_toList] at hj
      rw [← numAt_eq]
      exact b2 j (by omega)
theorem max_tup {t : Addr} {its : List Value} {ns : List Int} {Q : Value → Shared → Prop} (calm : A.handled = none) (there : s.heap.IsTuple t its.toArray) (hi : IntsAre its ns) (some_ : 0 < ns.length)
    (next : ∀ (h' : Heap) (tk : Nat) (m : Int) (u : Tok), (∀ b o, s.heap.get? b = some o → h'.get? b = some o) → m ∈ ns → (∀ y ∈ ns, y ≤ m) → Q (.int m u) { s with heap := h', toks := tk }) :
    wpAny (model prog w) A (call (.builtin "max") [.ref t]) Q E s := by
  obtain ⟨xs, e1, e2⟩ := ints_arr hi
  subst e2
  rw [e1] at there
  have pos : 0 < xs.size := by simpa using some_
  have tb : t < s.heap.objs.size := by
    obtain ⟨o, ho, _⟩ := there
    exact Heap.lt_size ho
  refine call_max_walk (wpAny_pyIter_tuple there ?_)
  refine ⟨_, [_, t], [_], _, _, _, _, rfl, Walks.tuple (A := A.in1) calm _ t (Nat.ne_of_lt tb) (intItems xs), ⟨⟨_, Heap.get?_push_size _ rfl, rfl, rfl⟩, there.push _⟩, fun c hc => ?_, by simpa [intItems] using pos, CmpOf.ints_gt (numAt xs) (fun _ _ => intItems_at), fun v h' tk hP hk => ?_⟩
  · show c < (s.heap.push _).objs.size
    rw [Heap.size_push]
    rcases List.mem_cons.mp hc with rfl | hc
    · exact Nat.lt_succ_self _
    · rw [List.mem_singleton.mp hc]
      exact Nat.lt_succ_of_lt tb
  · have hP' : (intItems xs)[argBest (fun i j => decide (numAt xs i > numAt xs j)) (xs.size - 1)]? = some v := by simpa [intItems] using hP
    obtain ⟨u, rfl⟩ := intItems_at hP'
    obtain ⟨b1, b2⟩ := argBest_gt (numAt xs) (xs.size - 1)
    refine next h' tk _ u (keep_old hk) ?_ fun y hy => ?_
    · rw [numAt_eq]
      exact PySem.getD_mem (by rw [List.length_map, Array.length_toList]; omega)
    · obtain ⟨j, hj, rfl⟩ := mem_getD hy
      rw [List.length_map, Array.length_toList] at hj
      rw [← numAt_eq]
      exact b2 j (by omega)
end
/-- a list without doubles has as many members as another of the same members exactly if that one has no doubles -/
theorem sub_perm : ∀ {L ns : List Int}, L.Nodup → (∀ x ∈ L, x ∈ ns) → L.length = ns.length → L.Perm ns
  | [], ns, _, _, h => by
    rw [List.length_eq_zero_iff.mp h.symm]
  | x :: L, ns, nd, sub, h => by
    have hx := sub x (List.mem_cons_self ..)
    have nd' := List.nodup_cons.mp nd
    have ih := sub_perm (L := L) (ns := ns.erase x) nd'.2 (fun y hy => (List.mem_erase_of_ne (fun z => nd'.1 (by rw [← z]; exact hy))).mpr (sub y (List.mem_cons_of_mem _ hy))) (by
      rw [List.length_erase_of_mem hx]
      simp at h
      omega)
    exact (List.Perm.cons x ih).trans (List.perm_cons_erase hx).symm
theorem sub_len : ∀ {L ns : List Int}, L.Nodup → (∀ x ∈ L, x ∈ ns) → L.length ≤ ns.length
  | [], _, _, _ => Nat.zero_le _
  | x :: L, ns, nd, sub => by
    have hx := sub x (List.mem_cons_self ..)
    have nd' := List.nodup_cons.mp nd
    have ih := sub_len (L := L) (ns := ns.erase x) nd'.2 fun y hy => (List.mem_erase_of_ne (fun z => nd'.1 (by rw [← z]; exact hy))).mpr (sub y (List.mem_cons_of_mem _ hy))
    have := List.length_erase_of_mem hx
    have hp : 0 < ns.length := List.length_pos_of_mem hx
    show L.length + 1 ≤ ns.length
    omega
theorem count_nd {L ns : List Int} (nd : L.Nodup) (m : ∀ x, x ∈ L ↔ x ∈ ns) : L.length = ns.length ↔ ns.Nodup :=
  ⟨fun h => (sub_perm nd (fun x hx => (m x).mp hx) h).nodup_iff.mp nd, fun h => Nat.le_antisymm (sub_len nd fun x hx => (m x).mp hx) (sub_len h fun x hx => (m x).mpr hx)⟩
end MmT
namespace L2
open PySem PySem.Spec PyProof.Rows
section
variable {X : Cx}
def rMinT (K : PySem.W.Frag) : List V → Hp → VK → Prop := fun vs H Q => ∃ (a : Addr) (ns : List Int), vs = [V.ref a] ∧ SqT K H a (ns.map V.int) ∧ 0 < ns.length ∧ ∀ m, m ∈ ns → (∀ y ∈ ns, m ≤ y) → Q (.int m) H
def rMaxT (K : PySem.W.Frag) : List V → Hp → VK → Prop := fun vs H Q => ∃ (a : Addr) (ns : List Int), vs = [V.ref a] ∧ SqT K H a (ns.map V.int) ∧ 0 < ns.length ∧ ∀ m, m ∈ ns → (∀ y ∈ ns, y ≤ m) → Q (.int m) H
theorem tup_is {h : Heap} {t : Addr} {its : List Value} (p : ∃ o : Obj, h.get? t = some o ∧ o.cls = .type "tuple" ∧ ∃ k, o.data = .seq its.toArray k) : h.IsTuple t its.toArray := by
  obtain ⟨o, h1, h2, k, h3⟩ := p
  exact ⟨o, h1, h2, k, h3⟩
theorem cr_minT (calm : X.calm = true) : CallR X (.builtin "min") (rMinT X.K) := by
  intro pins s σ H vs us Q I r h
  obtain ⟨a, ns, rfl, hs, pos, q⟩ := h
  obtain ⟨its, rv, ⟨o, ho, hc, k, hd⟩, hz⟩ := I.tuple hs
  rw [Vals.ref1 r]
  exact MmT.min_tup (I.ok.hd calm) ⟨o, ho, hc, k, hd⟩ rv.ints pos fun h' tk m u keep hm hl => ⟨.int m, H, I.kept keep, ⟨u, rfl⟩, q m hm hl⟩
theorem cr_maxT (calm : X.calm = true) : CallR X (.builtin "max") (rMaxT X.K) := by
  intro pins s σ H vs us Q I r h
  obtain ⟨a, ns, rfl, hs, pos, q⟩ := h
  obtain ⟨its, rv, ⟨o, ho, hc, k, hd⟩, hz⟩ := I.tuple hs
  rw [Vals.ref1 r]
  exact MmT.max_tup (I.ok.hd calm) ⟨o, ho, hc, k, hd⟩ rv.ints pos fun h' tk m u keep hm hl => ⟨.int m, H, I.kept keep, ⟨u, rfl⟩, q m hm hl⟩
/-- len(set(t)), t a tuple of ints: how many there are tells whether there are doubles -/
def tLenSetT (K : PySem.W.Frag) (ta : TE) : TE := fun σ H Q => ta σ H fun x H1 => ∃ (l : Addr) (ns : List Int), x = .ref l ∧ SqT K H1 l (ns.map V.int) ∧ ns.length ≤ 1000 ∧ ∀ c : Nat, c ≤ ns.length → (c = ns.length ↔ ns.Nodup) → Q (.int (c : Int)) H1
theorem pe_lenSetT {a : Expr} {ta : TE} {p p2 q pos : Pos} (calm : X.calm = true) (g1 : Gl X "len") (m1 : X.mg "len" = none) (g2 : Gl X "set") (m2 : X.mg "set" = none) (ha : PE X a ta)
    (na : starEach [a] X.env = (false, eval a X.env) :: starEach [] X.env := by rfl) : PE X (.Call (.Name "len" p) [.Call (.Name "set" p2) [a] [] q] [] pos) (tLenSetT X.K ta) := by
  refine ⟨fun pins s σ H Q I hw => ?_⟩
  refine Call_ (ld_blt I g1 m1 PySem.boot_len ?_)
  refine PyProof.Rows.callWith_builtin1 (PyProof.Rows.args_cons ?_ rfl) rfl rfl
  refine Call_ (ld_blt I g2 m2 PyProof.Rows.boot_set ?_)
  refine PyProof.Rows.callWith_type1 (PyProof.Rows.args_cons (thn (ha.run pins s σ H _ I hw) fun v s1 ⟨x, H1, I1, r1, z1⟩ => PyProof.Rows.args_nil ?_) na) na rfl
  obtain ⟨l, ns, rfl, hq, few, z1⟩ := z1
  cases r1
  obtain ⟨its, rv, ⟨o, ho, hc, k, hd⟩, hz⟩ := I1.tuple hq
  refine call_set_tupI ns (I1.ok.hd calm) ⟨o, ho, hc, k, hd⟩ (by simpa using rv.ints) (by unfold scanBound; omega) fun h' tk c hS hc' keep => ?_
  refine PyProof.Rows.args_nil ?_
  obtain ⟨o2, es, ep, t2, h1, h2, h3, _, h5, h6, _, h8, h9, _⟩ := hS
  have I2 : Inv X pins σ H1 { s1 with heap := h', toks := tk } := I1.kept keep
  have m : ∀ x, x ∈ es.toList.map keyOf ↔ x ∈ ns := fun x => by
    rw [← h6 x]
    exact decide_eq_true_iff
  have cnt := MmT.count_nd h5 m
  rw [List.length_map, Array.length_toList, h9] at cnt
  exact call_len_set h1 h2 h3 h8 (by omega) ⟨.int (c : Int), H1, I2.tok _, ⟨_, by rw [h9]⟩, z1 c hc' cnt⟩
end
end L2

/-! enumerate of a tuple; calls in a try's body; isinstance of an exception without a dict -/
namespace EnT
open PySem
/-- the iterator of the tuple t, and the enumerate object over the iterator at i, both as they are made -/
def itO (t : Addr) : Obj := { cls := .type "tuple_iterator", data := .fields #[.ref t, .int 0 0] }
def enO (i : Addr) : Obj := { cls := .type "enumerate", data := .fields #[.none, .bool false, .ref i, rawInt 0, .none, .none] }
def made (g : Heap) (t : Addr) : Heap := (g.push (itO t)).push (enO g.objs.size)
theorem made_top (g : Heap) (t : Addr) : (g.push (itO t)).objs.size = g.objs.size + 1 := Heap.size_push ..
theorem made_en (g : Heap) (t : Addr) : (made g t).get? (g.objs.size + 1) = some (enO g.objs.size) :=
  made_top g t ▸ Heap.get?_push_size (g.push (itO t)) (o := enO g.objs.size) rfl
theorem made_it (g : Heap) (t : Addr) : (made g t).get? g.objs.size = some (itO t) := Heap.get?_push_of_some _ (Heap.get?_push_size _ rfl)
theorem made_old (g : Heap) (t b : Addr) (o : Obj) (h : g.get? b = some o) : (made g t).get? b = some o :=
  Heap.get?_push_of_some _ (Heap.get?_push_of_some _ h)
/-- what enumerate's __new__ does with a tuple -/
theorem new_does (t : Addr) (vs : Array Value) : Meets (Builtin.«enumerate.__new__» ⟨[.type "enumerate", .ref t], []⟩)
    (fun _ R s => s.heap.IsTuple t vs ∧ R (.ok (.ret (.ref (s.heap.objs.size + 1)))) { s with heap := made s.heap t }) :=
  Meets.of_wp fun P w A R s there => by
    cases s with
    | mk g gl dw tc ow =>
      obtain ⟨isT, goal⟩ := there
      rw [← made_top g t] at goal
      have sub1 := sub_enumerate
      have mk_it : ∀ {A1 : Around} {E1 Q1 : Value → Shared → Prop}, Q1 (.ref g.objs.size) ⟨g.push (itO t), gl, dw, tc, ow⟩ → wpAny (model P w) A1 (pyIter (.ref t)) Q1 E1 ⟨g, gl, dw, tc, ow⟩ :=
        fun q => wpAny_pyIter_tuple isT q
      wp_walk using mk_it
      refine wpAny_stack_any fun _ => wpAny_pure ?_
      split
      · next cls _ _ _ _ _ =>
        by_cases same : (cls == Value.type "enumerate") = true
        · rw [same]
          wp_walk using mk_it
          exact ⟨_, rfl, goal⟩
        · rw [Bool.eq_false_iff.mpr same]
          wp_walk using mk_it
          exact ⟨_, rfl, goal⟩
      · wp_walk using mk_it
        exact ⟨_, rfl, goal⟩
end EnT
namespace EnT
open PySem PySem.Spec PyProof.Rows L2
theorem call_does {P : Program} {w : World} {A : Around} {E Q : Value → Shared → Prop} {s : Shared} {t : Addr} {vs : Array Value} (isT : s.heap.IsTuple t vs) (goal : Q (.ref (s.heap.objs.size + 1)) { s with heap := made s.heap t }) :
    wpAny (model P w) A (call (.type "enumerate") [.ref t]) Q E s := by
  have top : Shared.TypeIs { s with heap := made s.heap t } (.ref (s.heap.objs.size + 1)) "enumerate" := ⟨_, made_en s.heap t, rfl⟩
  have done : (fun (_ : Around) (R : Result → Shared → Prop) (z : Shared) => z.heap.IsTuple t vs ∧ R (.ok (.ret (.ref (z.heap.objs.size + 1)))) { z with heap := made z.heap t }) A.in1
      (wants (fun obj z => z.TypeIs obj "enumerate" ∧ Q obj z) E) s := ⟨isT, top, goal⟩
  exact callType_new F.called_enumerate (by decide) (F.typeCall_enumerate_1 _) (F.newCall_enumerate_1 _) (fun o => F.args_object_init_2 o _)
    F.entry_enumerate_new (new_does t vs) done
theorem tup_ne {h : Heap} {i t : Addr} {n : Nat} {vs : Array Value} (a : h.IsTupleIter i t n) (b : h.IsTuple t vs) : t ≠ i := by
  intro same
  subst same
  obtain ⟨u, hu, cu, _⟩ := a
  obtain ⟨v, hv, cv, _⟩ := b
  cases hu.symm.trans hv
  exact absurd (Value.type.inj (cu.symm.trans cv)) (by decide)
theorem en_ne {h : Heap} {e i t : Addr} {c : Int} {old : Value} {vs : Array Value} (a : IsEnum h e i c old) (b : h.IsTuple t vs) : e ≠ t := by
  intro same
  subst same
  obtain ⟨v, hv, cv, _⟩ := b
  cases (show h.get? e = _ from a).symm.trans hv
  exact absurd (Value.type.inj cv) (by decide)
/-- what the enumerate object at e walks with: its tuple at t, the iterator at i -/
def Stands (e i t : Addr) (n : Nat) (h : Heap) : Prop := (∃ old, IsEnum h e i ((n : Nat) : Int) old) ∧ h.IsTupleIter i t n ∧ e ≠ i
/-- the tuple at t, each item behind its number in a new pair -/
def ItN (K : PySem.W.Frag) (t : Addr) : It where
  go := fun n H => ∃ xs x, SqT K H t xs ∧ xs[n]? = some x
  yld := fun n H v H2 => ∃ p x, v = .ref p ∧ H p = none ∧ H2 = upd H p (.tup [.int (n : Nat), x]) ∧ ∀ xs, SqT K H t xs → xs[n]? = some x
  stop := fun n H => ∃ xs : List V, SqT K H t xs ∧ xs.length = n
theorem turns {P : Program} {w : World} {K : PySem.W.Frag} {es : List Expr} {kk : Nat} {ps : Pos} (e i t : Addr) : Turn P w K (.Tuple es kk ps) (ItN K t) [e, i] e (Stands e i t) := by
  constructor
  · exact List.mem_cons_self
  · rintro n h ⟨⟨old, a⟩, ⟨u, hu, cu, du⟩, ne⟩ b hb
    rcases List.mem_cons.mp hb with rfl | hb
    · exact ⟨_, a, fun v q => by cases q⟩
    · rw [List.mem_singleton.mp hb]
      exact ⟨u, hu, fun v q => by rw [du] at q; cases q⟩
  · rintro n h h2 ⟨⟨old, a⟩, b, ne⟩ kp
    exact ⟨⟨old, kp e List.mem_cons_self _ a⟩, b.at fun o q => kp i (List.mem_cons_of_mem _ List.mem_cons_self) o q, ne⟩
  · rintro X rfl rfl rfl calm n pins s σ H E I apart ⟨⟨old, a⟩, b, ne⟩ ⟨xs, x, tx, hx⟩
    obtain ⟨vs, rel, isT, _⟩ := I.tuple tx
    have isT := tup_is isT
    obtain ⟨v, hv, rv⟩ := rel.get hx
    have hv2 : vs.toArray[n]? = some v := by rw [List.getElem?_toArray]; exact hv
    have lt := (Array.getElem?_eq_some_iff.mp hv2).1
    have away : e ∉ [i, t] := fun z => by
      rcases List.mem_cons.mp z with z | z
      · exact ne z
      · exact en_ne a isT (List.mem_singleton.mp z)
    have drawn := Draws.tuple (prog := X.prog) (w := X.w) (A := X.A.in1) (I.ok.hd calm) i t (tup_ne b isT) vs.toArray
    have W := WalksT.enumerateD drawn e ne away List.mem_cons_self
    refine W.item n s _ E lt ⟨⟨old, a⟩, b, isT⟩ ?_
    rintro p ws h1 tk ⟨tok, v2, g, rfl⟩ up there mid kp1
    cases hv2.symm.trans g
    refine ⟨_, rfl, W.go es kk ps n p { s with heap := h1, toks := tk } _ E mid ?_⟩
    rintro h2 ⟨⟨old2, a2⟩, b2, _⟩ kp2
    obtain ⟨op, hop, cp, c1, dp⟩ := there
    have free : H p = none := I.hok.fresh up
    have made : ObjOk X.prog X.w (upd H p (.tup [.int (n : Nat), x])) h2 p (.tup [.int (n : Nat), x]) := by
      refine ⟨?_, [.int n tok, v], .cons ⟨tok, rfl⟩ (.cons rv .nil), op, kp2 p op (W.apart n p h1 mid) hop, cp, c1, dp⟩
      show 2 ≤ sizeLine
      decide
    have I2 := I.turnedNew (t' := tk) (fun c o nc q => kp2 c o nc (kp1 c o nc q)) apart up made
    refine ⟨.ref p, _, I2, rfl, ⟨p, x, rfl, free, rfl, fun ys ty => by rw [I.tuple_inj ty tx]; exact hx⟩, ⟨⟨old2, a2⟩, b2, ne⟩, fun c hc => ?_⟩
    rw [upd_ne fun z => by
      obtain ⟨o, ho, _⟩ : ∃ o, s.heap.get? c = some o ∧ True := by
        rcases List.mem_cons.mp hc with rfl | hc
        · exact ⟨_, a, trivial⟩
        · rw [List.mem_singleton.mp hc]
          obtain ⟨o, ho, _⟩ := b
          exact ⟨o, ho, trivial⟩
      have := Heap.lt_size ho
      rw [z] at this
      exact absurd up (Nat.not_le.mpr this)]
    exact (apart c hc).1
  · rintro X rfl rfl rfl calm n pins s σ H E I apart ⟨⟨old, a⟩, b, ne⟩ ⟨xs, tx, len⟩
    obtain ⟨vs, rel, isT, _⟩ := I.tuple tx
    have isT := tup_is isT
    have away : e ∉ [i, t] := fun z => by
      rcases List.mem_cons.mp z with z | z
      · exact ne z
      · exact en_ne a isT (List.mem_singleton.mp z)
    have drawn := Draws.tuple (prog := X.prog) (w := X.w) (A := X.A.in1) (I.ok.hd calm) i t (tup_ne b isT) vs.toArray
    have W := WalksT.enumerateD drawn e ne away List.mem_cons_self
    have eq : n = vs.toArray.size := by rw [← len, rel.length, List.size_toArray]
    subst eq
    exact W.done s _ E ⟨⟨old, a⟩, b, isT⟩ fun h2 tk kp => ⟨rfl, I.turnedL kp apart⟩
  · rintro A n s Q E ⟨⟨old, a⟩, _⟩ goal
    exact wpAny_pyIter_enum a goal
def iNum (K : PySem.W.Frag) (ta : TA) : TI := fun σ H R => ta σ H fun vs H1 => ∃ t xs, vs = [.ref t] ∧ SqT K H1 t xs ∧ R (ItN K t) H1
theorem pi_enumT {X : Cx} {e : Expr} {ta : TA} {p pos tpos : Pos} {es : List Expr} {kk : Nat} (g : Gl X "enumerate") (free : X.mg "enumerate" = none) (arg : PA X [e] ta) (one : starEach [e] X.env = [(false, eval e X.env)] := by rfl) :
    PI X (.Tuple es kk tpos) (.Call (.Name "enumerate" p) [e] [] pos) (iNum X.K ta) := by
  constructor
  intro pins s σ H R I had
  refine Call_ (ld_blt I g free boot_enumerate ?_)
  refine PyProof.Rows.callWith_type1 ?_ one rfl
  refine thn (arg.run pos pins s σ H _ I had) ?_
  rintro us s1 ⟨vs, H1, I1, rel, t, xs, rfl, tx, goal⟩
  obtain ⟨u, rfl, ru⟩ := vals1 rel
  cases (show u = Value.ref t from ru)
  obtain ⟨ws, _, isT, _⟩ := I1.tuple tx
  refine call_does (tup_is isT) (wpAny_pyIter_enum (made_en s1.heap t) ?_)
  have I2 : Inv X pins σ H1 { s1 with heap := made s1.heap t } := I1.kept (t' := s1.toks) fun b o q => made_old s1.heap t b o q
  refine ⟨_, _, _, _, H1, rfl, I2, turns (s1.heap.objs.size + 1) s1.heap.objs.size t, ⟨⟨.none, made_en s1.heap t⟩, ⟨_, made_it s1.heap t, rfl, rfl⟩, Nat.succ_ne_self _⟩, fun b hb => ?_, goal⟩
  have up : s1.heap.objs.size ≤ b := by
    rcases List.mem_cons.mp hb with rfl | hb
    · exact Nat.le_succ _
    · rw [List.mem_singleton.mp hb]
      exact Nat.le_refl _
  exact I1.fpOk up (I1.hok.fresh up)
theorem walk_enumT {K : PySem.W.Frag} {t : Addr} {xs : List V} : Walk (ItN K t) xs.length (fun H => SqT K H t xs) (YPair (fun n => some (.int (n : Nat))) (fun n => xs[n]?)) where
  goes := fun n _ lt q => ⟨xs, xs[n], q, List.getElem?_eq_getElem lt⟩
  stops := fun _ q => ⟨xs, q, rfl⟩
  yields := fun n _ _ _ _ q y => by
    obtain ⟨p, x, a, b, c, d⟩ := y
    exact ⟨p, .int (n : Nat), x, a, b, c, rfl, d xs q⟩
end EnT
namespace L2
open PySem PySem.Spec PyProof.Rows
/-- isinstance(e, c), e the exception that the suite holds, with a dict or without -/
def rIsS2 (K : PySem.W.Frag) (a : Addr) (cls : Value) (d : Option Addr) : List V → Hp → VK → Prop := fun xs H Q => ∃ (C : Addr) (c : V) (u : Value) (b : Bool), xs = [.ref a, c] ∧ cls = .ref C ∧ (d = none ∨ ∃ dd fs, d = some dd ∧ H dd = some (.xd fs)) ∧
  ExcC K C ∧ ClsV c u ∧ PySem.W.kitOne K (.ref C) u = some b ∧ Q (.bl b) H
theorem call_isS2 {X : Cx} {K : PySem.W.Frag} {a : Addr} {cls : Value} {d : Option Addr} {oe : Obj} {pn : List (Addr × Obj)} (hK : X.K = K) (hz : Zc cls d oe) (hf : ∃ vs, oe.data = .fields vs) : CallR (X.suite a ((a, oe) :: pn)) (.builtin "isinstance") (rIsS2 K a cls d) := by
  rintro pins s σ H _ us Q I rel ⟨C, c, u, b, rfl, rfl, kind, D, isC, ans, goal⟩
  rcases kind with rfl | ⟨dd, fs, rfl, there⟩
  · have E : CallR (X.suite a ((a, oe) :: pn)) (.builtin "isinstance") (rIsE X.K C a) := call_isE (hK ▸ D) hz hf
    exact E pins s σ H _ us Q I rel ⟨c, u, b, rfl, fun v q => isC.eq q, hK ▸ ans, goal⟩
  · exact call_isS hK hz hf pins s σ H _ us Q I rel ⟨C, dd, fs, c, u, b, rfl, rfl, rfl, there, D, isC, ans, goal⟩
theorem call_tuple_ofK {X : Cx} {K : PySem.W.Frag} (h : X.K = K) : CallR X (.type "tuple") (fun xs H Q => ∃ p ys, xs = [.ref p] ∧ ((SqL K H p ys ∧ ∀ l, H l = none → Q (.ref l) (upd H l (.tup ys))) ∨ (SqT K H p ys ∧ Q (.ref p) H))) := by
  subst h
  exact call_tuple_of
theorem call_list_ofK {X : Cx} {K : PySem.W.Frag} (h : X.K = K) : CallR X (.type "list") (fun xs H Q => ∃ p ys, xs = [.ref p] ∧ (SqL K H p ys ∨ SqT K H p ys) ∧ ∀ l, H l = none → Q (.ref l) (upd H l (.lst ys))) := by
  subst h
  exact call_list_of
end L2
namespace RZ
open PySem PySem.Spec PyProof.Rows L2
theorem walk_zipT {K : PySem.W.Frag} {a b : Addr} {xs ys : List V} {n : Nat} (hn : n = min xs.length ys.length) : Walk (ItzT K a b) n (fun H => SqT K H a xs ∧ SqT K H b ys) (YPair (fun i => xs[i]?) (fun i => ys[i]?)) where
  goes := fun i _ lt q => ⟨xs, ys, xs[i]'(by omega), ys[i]'(by omega), q.1, q.2, List.getElem?_eq_getElem _, List.getElem?_eq_getElem _⟩
  stops := fun _ q => ⟨xs, ys, q.1, q.2, by omega⟩
  yields := fun i _ _ _ _ q y => by
    obtain ⟨p, x, z, a1, a2, a3, a4, a5⟩ := y
    exact ⟨p, x, z, a1, a2, a3, a4 xs q.1, a5 ys q.2⟩
end RZ

/-! defs with a star parameter and keyword-only ones behind it, called with keywords -/
namespace StK
open PySem PySem.Spec PyProof.Rows L2 StX
/-- a def called with values and with keywords named ks, told of the values alone -/
def FnK (P : Program) (w : World) (K : PySem.W.Frag) (mg : Str → Option Value) (base : Heap) (CX : CXT) (k : Nat) (f : Addr) (ks : List Str) (sp : List V → List V → Hp → VK → XK → Prop) : Prop :=
  ∀ (A : Around) (outer : List Env) (s : Shared) (H : Hp) (us ws : List Value) (vs zs : List V) (Q : VK) (E : XK),
    Room k A → Env0 P w K mg base A outer s H → Vals vs us → Vals zs ws → zs.length = ks.length → sp vs zs H Q E →
      codeAny (model P w) A (.call (.ref f) ⟨us, ks.zip ws⟩) (CR CX outer P w H s Q E) s
section
variable {CX : CXT} {P : Program} {w : World} {K : PySem.W.Frag} {mg : Str → Option Value} {base : Heap} {k n : Nat} {f : Addr} {name qual : Str} {params : Arguments} {body : List Stmt} {scope : Scope} {dV kV doc pm cdv ct oc : Value} {an od : Option Addr}
  {osl : Array (Option Value)} {N ps ks : List Str} {sp : Sp}
theorem FnK.mono {j : Nat} {q : List V → List V → Hp → VK → XK → Prop} (F : FnK P w K mg base CX j f ks q) (h : j ≤ k) : FnK P w K mg base CX k f ks q :=
  fun A outer s H us ws vs zs Q E room => F A outer s H us ws vs zs Q E (room.mono h)
/-- def f(a, .., *v, k): n values ahead, the rest in a new tuple, each keyword written -/
theorem fn_starK {pv : Str} (at_ : K.lookup f = some ⟨oc, od, .func (PySem.W.fnOf name qual params body scope dV kV doc pm an cdv ct), osl⟩) (code : PySem.W.codeIn K cdv qual = true) (S : FnScope N (ps ++ [pv]) scope) (up : CXUp CX) (hps : ps.length = n + ks.length)
    (bind : ∀ us rest ws : List Value, us.length = n → ws.length = ks.length → bindArgs (PySem.W.fnOf name qual params body scope dV kV doc pm an cdv ct) ⟨us ++ rest, ks.zip ws⟩ = (newTuple rest >>= fun t => pure (ps.zip (us ++ ws) ++ [(pv, t)])))
    (run : ∀ (A : Around) (outer : List Env) (s : Shared) (H : Hp) (vs : List V) (Q : VK) (E : XK), Room k (A.deeper (envOfC qual scope s.heap.objs.size f cdv)) → sp vs H Q E →
      ∃ t, PSs (cxOf CX P w K mg base N qual scope f cdv A outer s H E) body t ∧ t { nx := fun _ H' => Q .non H', rt := Q } (start N vs) H) :
    FnK P w K mg base CX (k + 1) f ks (fun vs zs H Q E => ∃ hd rest, vs = hd ++ rest ∧ hd.length = n ∧ rest.length ≤ sizeLine ∧ ∀ p, H p = none → sp ((hd ++ zs) ++ [V.ref p]) (upd H p (.tup rest)) Q E) := by
  rintro A outer s H us ws vs zs Q E room env rv rz lz ⟨hd, rest, rfl, lh, small, goes⟩
  obtain ⟨u1, u2, rfl, r1, r2⟩ := vals_split rv
  have free : H s.heap.objs.size = none := env.hok.fresh (Nat.le_refl _)
  have l1 : u1.length = n := r1.length.symm.trans lh
  have lw : ws.length = ks.length := rz.length.symm.trans lz
  have few : u2.length ≤ sizeLine := by
    rw [← r2.length]
    exact small
  let here : Obj := { cls := .type "tuple", data := .seq u2.toArray }
  refine run_bnd at_ code S room env (G := fun xs G => ∃ p, H p = none ∧ xs = (hd ++ zs) ++ [V.ref p] ∧ G = upd H p (.tup rest)) (fun A' Ex Q' told => ?_) ?_
  · rw [bind u1 u2 ws l1 lw]
    refine wpAny_bind (wpAny_newTuple (wpAny_pure ?_) few)
    have laid : ObjOk P w (upd H s.heap.objs.size (.tup rest)) (s.heap.push here) s.heap.objs.size (.tup rest) := ⟨small, u2, r2, _, Heap.get?_push_size _ rfl, rfl, _, rfl⟩
    have un : Un (frs outer) [] H (upd H s.heap.objs.size (.tup rest)) s.heap (s.heap.push here) := un_laid free
    have len : ((hd ++ zs) ++ [V.ref s.heap.objs.size]).length = (ps ++ [pv]).length := by
      rw [List.length_append, List.length_append, List.length_append, lh, lz, hps]
      rfl
    have got := told _ _ ((hd ++ zs) ++ [V.ref s.heap.objs.size]) ((u1 ++ ws) ++ [Value.ref s.heap.objs.size]) (env0_laid env laid) un rfl
      (fun e s' => up outer s H _ _ E e s' un (fun b o q => Heap.get?_push_of_some _ q) rfl) ((r1.append rz).append (.cons rfl .nil)) len ⟨_, free, rfl, rfl⟩
    have cut : ps.length = (u1 ++ ws).length := by rw [List.length_append, l1, lw, hps]
    rw [List.zip_append cut] at got
    exact got
  · rintro s2 _ _ ⟨p, hp, rfl, rfl⟩ room'
    exact run A outer s2 _ _ Q E room' (goes p hp)
end
section
variable {X : Cx} {CX : CXT} {k : Nat} {f : Addr} {ks : List Str} {q : List V → List V → Hp → VK → XK → Prop} {E : XK} {x : Str} {p pos : Pos} {e : Expr} {es : List Expr} {kws : List Keyword} {t tk : TA}
def tCallFK (q : List V → List V → Hp → VK → XK → Prop) (n : Nat) (E : XK) (t tk : TA) : TE := fun σ H Q => t σ H fun vs H1 => tk σ H1 fun zs H2 => zs.length = n ∧ q vs zs H2 Q E
/-- f(e, .., k = v) of such a def -/
theorem pe_callFK (F : FnK X.prog X.w X.K X.mg X.base CX k f ks q) (room : Room k X.A) (gl : Gl X x) (there : X.mg x = some (.ref f)) (kp : PySem.W.keepIn X.K (.ref f) = true) (pass : Passes CX X E)
    (ha : PA X (e :: es) t) (hk : PK X kws tk) (each : (backToKw pos (keywordEach kws X.env)).all (·.1.isSome) = true := by rfl) (names : (backToKw pos (keywordEach kws X.env)).filterMap (·.1) = ks := by rfl)
    (nd : (x == ("__debug__" : Str)) = false := by decide) (st : starEach (e :: es) X.env = (false, eval e X.env) :: starEach es X.env := by rfl)
    (pl : ((backTo pos (starEach (e :: es) X.env)).any (·.1) || (backToKw pos (keywordEach kws X.env)).any (·.1.isNone)) = false := by rfl) :
    PE X (.Call (.Name x p) (e :: es) kws pos) (tCallFK q ks.length E t tk) := by
  refine ⟨fun pins s σ H Q I h => wpAny_Call_Name_kw (ld_glob I gl there ?_ nd)⟩
  refine PySem.W.callWith_KW (h₀ := X.base) I.ok.mod.kin kp each (thn (ha.run pos pins s σ H _ I h) ?_) pl st
  rintro us s1 ⟨vs, H1, I1, r, g1⟩
  refine thn (hk.run pos pins s1 σ H1 _ I1 g1) ?_
  rintro ws s2 ⟨zs, H2, I2, rz, lz, g2⟩
  refine ⟨I2.kIn, ?_⟩
  rw [names]
  refine wpAny_call (codeAny_mono (F X.A X.stack s2 H2 us ws vs zs Q E room I2.env0 r rz lz g2) fun out s' h' => ?_)
  match out, h' with
  | .error e, h' => exact pass pins σ H2 s2 e s' I2 h'
  | .ok (.ret u), h' => exact I2.after h'
  | .ok .next, h' => exact h'.elim
  | .ok .brk, h' => exact h'.elim
  | .ok .cont, h' => exact h'.elim
end
end StK

/-! an own object made within an except suite; a class that a local name holds, called with keywords -/
namespace MkH
open PySem PySem.Spec PyProof.Rows L2 L2H
section
variable {X : Cx} {CX : CXT} {k : Nat} {f C : Addr} {fd : FuncData} {ps : List Str} {sp : Sp} {x : Str} {p pos : Pos} {dvs : List V} {ds : List Value}
/-- C(): all that __init__ takes has defaults -/
theorem pe_make0H (M : Mk X.K C f) (F : FnH X.prog X.w X.K X.mg X.base CX k f fd ps sp) (room : RoomH (k + 1) X.A) (hot : HotC X) (b : Binds X.K fd ps ds) (d : Vals dvs ds) (pass : Passes CX X (fun _ _ _ => False)) (g : Gl X x) (m : X.mg x = some (.ref C))
    (nodebug : (x == ("__debug__" : Str)) = false := by decide) : PE X (.Call (.Name x p) [] [] pos) (tMake C sp dvs (fun _ _ _ => False) tNil) := by
  constructor
  intro pins s σ H Q I had
  obtain ⟨pn, h1, mem⟩ := hot
  refine wpAny_Call_Name_kw (ld_glob I g m ?_ nodebug)
  refine PySem.W.callWith_K0 I.kIn M.kp ?_
  have free : ∀ c, s.heap.objs.size ≤ c → H c = none := fun c le => I.hok.fresh le
  have had1 := had (s.heap.objs.size + 1) s.heap.objs.size (free _ (Nat.le_succ _)) (free _ (Nat.le_refl _)) (Nat.ne_of_lt (Nat.lt_succ_self _))
  have I2 := Inv.made I (C := C)
  have rel : Vals (V.ref (s.heap.objs.size + 1) :: ([] ++ dvs)) (Value.ref (s.heap.objs.size + 1) :: ([] ++ ds)) := .cons rfl d
  have len : ([Value.ref (s.heap.objs.size + 1)] ++ ds).length = ps.length := by
    rw [← F.len _ _ _ _ had1]
    exact rel.length.symm
  have at2 := I2.pin pn (List.mem_append_left _ mem)
  refine wpAny_call (make_map (f := f) I.kIn M.makes M.init (beq_iff_eq.mp M.fn) (codeAny_mono (F.run _ X.stack _ _ ⟨[Value.ref (s.heap.objs.size + 1)], []⟩ ([Value.ref (s.heap.objs.size + 1)] ++ ds) _ _ (fun _ _ _ => False) pn
    (RoomH.make room C [] []) ⟨h1.1, h1.2⟩ ⟨at2.1, at2.2.1, fun z => ?_, at2.2.2.2.2⟩ (I2.env0.make C [] []) (b _ [Value.ref (s.heap.objs.size + 1)] I2.kIn len) rel had1) fun r s2 told => ?_))
  · rcases List.mem_cons.mp (I2.stkSub pn.1 z) with z | z
    · exact at2.2.2.1 z
    · exact at2.2.2.2.1 z
  · match r, told with
    | .error e, told => exact pass pins σ _ _ e s2 I2 told
    | .ok (.ret u), told =>
      obtain ⟨v, H2, I3, ru, rfl, q⟩ := I2.after told
      exact ⟨ru, V.ref (s.heap.objs.size + 1), H2, I3, rfl, q⟩
    | .ok .next, told => exact told.elim
    | .ok .brk, told => exact told.elim
    | .ok .cont, told => exact told.elim
end
section
variable {X : Cx} {CX : CXT} {k i : Nat} {f C : Addr} {fd : FuncData} {ps ks : List Str} {sp : Sp} {E : XK} {x : Str} {p pos : Pos} {kws : List Keyword} {tk : TA} {gb : List Value → List Value → List Value} {gV : List V → List V → List V}
/-- the i-th slot holds the class C: name(k = v, ..) -/
def tMakeL (i : Nat) (C : Addr) (m : Nat) (sp : Sp) (gV : List V → List V → List V) (E : XK) (tk : TA) : TE := fun σ H Q => σ[i]? = some (some (.ref C)) ∧ tMakeK C 0 m sp gV E tNil tk σ H Q
theorem pe_makeL (M : Mk X.K C f) (F : FnOk X.prog X.w X.K X.mg X.base CX k f fd ps sp) (room : Room (k + 1) X.A) (at_ : X.N[i]? = some x) (vis : Vis X.env.scope x) (b : KBn X.K fd ps 1 ks gb gV) (pass : Passes CX X E) (kw : PK X kws tk)
    (hall : (backToKw pos (keywordEach kws X.env)).all (·.1.isSome) = true := by rfl) (hks : (backToKw pos (keywordEach kws X.env)).filterMap (·.1) = ks := by rfl) (d1 : (x == ("__debug__" : Str)) = false := by decide) (d2 : (x == ("__classdict__" : Str)) = false := by decide)
    (star : ((backTo pos (starEach [] X.env)).any (·.1) ||
      (backToKw pos (keywordEach kws X.env)).any (·.1.isNone)) = false := by rfl) :
    PE X (.Call (.Name x p) [] kws pos) (tMakeL i C ks.length sp gV E tk) := by
  constructor
  rintro pins s σ H Q I ⟨slot, had⟩
  refine wpAny_Call_Name_kw (thn ((pe_var (pos := p) at_ vis d1 d2).run pins s σ H (fun v G => v = .ref C ∧ G = H) I ⟨.ref C, slot, rfl, rfl⟩) ?_)
  rintro u s1 ⟨v, G, I1, rv, rfl, rfl⟩
  cases (show u = Value.ref C from rv)
  refine PySem.W.callWith_KW0 (h₀ := X.base)
    I.ok.mod.kin M.kp hall ?_ star
  refine thn (kw.run pos pins s1 σ G _ I1 had) ?_
  rintro ws s2 ⟨zs, G2, I2, rz, l1, l2, q⟩
  rw [hks]
  exact ⟨I2.kIn, run_makeK (us := []) (vs := []) M F room b pass I2 .nil rz rfl l2 q⟩
end
end MkH

/-! calls of methods that may raise: what they raise goes on -/
namespace MkS
open PySem PySem.Spec PyProof.Rows L2
section
variable {X : Cx} {CX : CXT} {k : Nat} {f C : Addr} {fd : FuncData} {ps : List Str} {sp : Sp} {E : L2.St → XK} {m : Str} {pos apos : Pos} {e o : Expr} {es : List Expr} {ta : TE} {t : TA} {pl : Sem Bool}
/-- o.m(e, ..) -/
theorem pe_methS (he : PE X o ta) (c : Cls X.K C) (hm : Meth X.K C m f) (F : FnOk X.prog X.w X.K X.mg X.base CX k f fd ps sp) (room : Room k X.A) (b : Binds X.K fd ps []) (pass : ∀ σ, PassesAt CX X σ (E σ)) (ha : PA X (e :: es) t)
    (one : starEach (e :: es) X.env = (false, eval e X.env) :: starEach es X.env := by rfl) (more : (backTo pos (starEach es X.env)).any (·.1) = false := by rfl)
    (road : eval (.Call (.Attribute o m apos) (e :: es) [] pos) X.env = (do
      let it ← eval o X.env
      standAt apos.atName
      let (fn, self) ← holding [it] (getMethod it m pl)
      callWith pos fn self (backTo pos (starEach (e :: es) X.env)) (backToKw pos (keywordEach [] X.env))) := by rfl) :
    PE X (.Call (.Attribute o m apos) (e :: es) [] pos) (L2H.tMethH C m sp E ta t) := by
  constructor
  intro pins s σ H Q I had
  refine PySem.W.methodCall_KW (pl := pl) (thn (he.run pins s σ H _ I had) ?_) road
  rintro u s1 ⟨x, H1, I1, ru, a, dx, fs, rfl, at_, no, q⟩
  cases (show u = Value.ref a from ru); skip
  refine getmeth_ok I1 at_ c hm no (PySem.W.callWith_K (first := [.ref a]) (h₀ := X.base) I.ok.mod.kin hm.kp (thn (ha.run pos pins s1 σ H1 _ I1 q) ?_) one more)
  rintro us s2 ⟨vs, H2, I2, r, q2⟩
  exact ⟨I2.kIn, run_fnS (us := .ref a :: us) (vs := .ref a :: vs) F room b (pass σ) I2 (.cons rfl r) q2⟩
end
section
variable {X : Cx} {CX : CXT} {k n : Nat} {f C : Addr} {fd : FuncData} {ps ks : List Str} {sp : Sp} {E : L2.St → XK} {x : Str} {p pos : Pos} {kws : List Keyword} {tk : TA} {gb : List Value → List Value → List Value} {gV : List V → List V → List V}
/-- a new object by keywords, its __init__ may raise -/
theorem run_makeS {pins : List (Addr × Obj)} {σ : L2.St} {H : Hp} {s : Shared} {Q : VK} {ws : List Value} {zs : List V} (M : Mk X.K C f) (F : FnOk X.prog X.w X.K X.mg X.base CX k f fd ps sp) (room : Room (k + 1) X.A) (b : KBn X.K fd ps 1 ks gb gV) (pass : PassesAt CX X σ (E σ))
    (I : Inv X pins σ H s) (rz : Vals zs ws) (lz : zs.length = ks.length)
    (had : ∀ c dx, H c = none → H dx = none → dx ≠ c → sp (gV [.ref c] zs) (upd (upd H dx (.own c)) c (.ins C dx [])) (fun v G => v = .non ∧ Q (.ref c) G) (E σ)) :
    wpAny (model X.prog X.w) X.A (call (.ref C) [] (ks.zip ws)) (EP X pins σ Q) X.xe s := by
  have free : ∀ c, s.heap.objs.size ≤ c → H c = none := fun c le => I.hok.fresh le
  have had1 := had (s.heap.objs.size + 1) s.heap.objs.size (free _ (Nat.le_succ _)) (free _ (Nat.le_refl _)) (Nat.ne_of_lt (Nat.lt_succ_self _))
  have I2 := Inv.made I (C := C)
  have self : Vals [V.ref (s.heap.objs.size + 1)] [Value.ref (s.heap.objs.size + 1)] := .cons rfl .nil
  refine wpAny_call (make_map (f := f) I.kIn M.makes M.init (beq_iff_eq.mp M.fn) (codeAny_mono (F.run _ X.stack _ _ ⟨[Value.ref (s.heap.objs.size + 1)], ks.zip ws⟩ (gb [Value.ref (s.heap.objs.size + 1)] ws) _ _ (E σ) (room.make C [] (ks.zip ws))
    (I2.env0.make C [] (ks.zip ws)) (b.to _ _ ws I2.kIn rfl (rz.length.symm.trans lz)) (b.rel self rz) had1) fun r s2 told => ?_))
  match r, told with
  | .error e, told => exact pass pins _ _ e s2 I2 told
  | .ok (.ret u), told =>
    obtain ⟨v, G, I3, ru, rfl, q⟩ := I2.after told
    exact ⟨ru, V.ref (s.heap.objs.size + 1), G, I3, rfl, q⟩
  | .ok .next, told => exact told.elim
  | .ok .brk, told => exact told.elim
  | .ok .cont, told => exact told.elim
/-- C(k = v, ..) -/
def tMakeS (C : Addr) (m : Nat) (sp : Sp) (gV : List V → List V → List V) (E : L2.St → XK) (tk : TA) : TE := fun σ H Q => tk σ H fun zs G => zs.length = m ∧ ∀ c dx, G c = none → G dx = none → dx ≠ c →
  sp (gV [.ref c] zs) (upd (upd G dx (.own c)) c (.ins C dx [])) (fun v G2 => v = .non ∧ Q (.ref c) G2) (E σ)
theorem pe_makeS (M : Mk X.K C f) (F : FnOk X.prog X.w X.K X.mg X.base CX k f fd ps sp) (room : Room (k + 1) X.A) (g : Gl X x) (m : X.mg x = some (.ref C)) (b : KBn X.K fd ps 1 ks gb gV) (pass : ∀ σ, PassesAt CX X σ (E σ)) (kw : PK X kws tk)
    (hall : (backToKw pos (keywordEach kws X.env)).all (·.1.isSome) = true := by rfl) (hks : (backToKw pos (keywordEach kws X.env)).filterMap (·.1) = ks := by rfl) (nodebug : (x == ("__debug__" : Str)) = false := by decide)
    (star : ((backTo pos (starEach [] X.env)).any (·.1) ||
      (backToKw pos (keywordEach kws X.env)).any (·.1.isNone)) = false := by rfl) :
    PE X (.Call (.Name x p) [] kws pos) (tMakeS C ks.length sp gV E tk) := by
  constructor
  intro pins s σ H Q I had
  refine wpAny_Call_Name_kw (ld_glob I g m ?_ nodebug)
  refine PySem.W.callWith_KW0 (h₀ := X.base) I.ok.mod.kin M.kp hall (thn (kw.run pos pins s σ H _ I had) ?_) star
  rintro ws s2 ⟨zs, G2, I2, rz, lz, q⟩
  rw [hks]
  exact ⟨I2.kIn, run_makeS M F room b (pass σ) I2 rz lz q⟩
end
end MkS

/-! a call of a class method that may raise -/
namespace MkS
open PySem PySem.Spec PyProof.Rows L2 ClX
section
variable {X : Cx} {CX : CXT} {k : Nat} {C p g : Addr} {mc : Value} {fd : FuncData} {ps : List Str} {sp : Sp} {E : L2.St → XK} {m : Str} {pos apos : Pos} {o e : Expr} {es : List Expr} {to : TE} {t : TA} {pl : Sem Bool}
def tCMethS (C : Addr) (sp : Sp) (E : L2.St → XK) (to : TE) (t : TA) : TE := fun σ H Q => to σ H fun x G => x = .ref C ∧ t σ G fun zs G2 => sp (.ref C :: zs) G2 Q (E σ)
/-- K.m(e, ..) -/
theorem pe_cmethS (he : PE X o to) (r : CRead X.K C mc) (c : CMet X.K C mc m p g) (F : FnOk X.prog X.w X.K X.mg X.base CX k g fd ps sp) (room : Room k X.A) (b : Binds X.K fd ps []) (pass : ∀ σ, PassesAt CX X σ (E σ)) (ha : PA X (e :: es) t)
    (one : starEach (e :: es) X.env = (false, eval e X.env) :: starEach es X.env := by rfl) (more : (backTo pos (starEach es X.env)).any (·.1) = false := by rfl)
    (road : eval (.Call (.Attribute o m apos) (e :: es) [] pos) X.env = (do
      let it ← eval o X.env
      standAt apos.atName
      let (fn, self) ← holding [it] (getMethod it m pl)
      callWith pos fn self (backTo pos (starEach (e :: es) X.env)) (backToKw pos (keywordEach [] X.env))) := by rfl) :
    PE X (.Call (.Attribute o m apos) (e :: es) [] pos) (tCMethS C sp E to t) := by
  constructor
  intro pins s σ H Q I had
  refine PySem.W.methodCall_KW (pl := pl) (thn (he.run pins s σ H _ I had) ?_) road
  rintro u s1 ⟨x, G, I1, ru, rfl, q⟩
  cases (show u = Value.ref C from ru)
  refine getmethcm_ok I1 r c ?_
  intro s2 I2
  refine callwith_cm I2 (base_none I1 (Nat.le_refl _)) c.fi (thn (ha.run pos _ s2 σ G _ I2 q) ?_) one more
  rintro us s3 ⟨zs, G2, I3, rz, q2⟩
  refine ⟨⟨pin_at I3, I3.kIn⟩, ?_⟩
  have both : Vals (V.ref C :: zs) (Value.ref C :: us) := .cons rfl rz
  have len : (Value.ref C :: us).length = ps.length := both.length.symm.trans (F.len _ _ _ _ q2)
  have args := b s3 (.ref C :: us) I3.kIn (by rw [List.append_nil]; exact len)
  rw [List.append_nil] at args
  have z : wpAny (model X.prog X.w) X.A (call (.ref s1.heap.objs.size) us) (EP X ((s1.heap.objs.size, PySem.W.methodObj (.ref g) (.ref C)) :: pins) σ Q) X.xe s3 := by
    refine wpAny_call (PySem.W.method_call (pin_at I3) (codeAny_mono (F.run X.A X.stack s3 G2 ⟨.ref C :: us, []⟩ (.ref C :: us) (.ref C :: zs) Q (E σ) room I3.env0 args both q2) ?_))
    intro r s4 told
    match r, told with
    | .error e, told => exact pass σ _ _ _ e s4 I3 told
    | .ok (.ret u), told => exact I3.after told
    | .ok .next, told => exact told.elim
    | .ok .brk, told => exact told.elim
    | .ok .cont, told => exact told.elim
  exact thn z fun _ _ told => unpinE told
end
end MkS

/-! more calls that may raise: a method without arguments, a class in a local name; a def with defaults where an exception is handled -/
namespace MkS
open PySem PySem.Spec PyProof.Rows L2
section
variable {X : Cx} {CX : CXT} {k : Nat} {f C : Addr} {fd : FuncData} {ps : List Str} {sp : Sp} {E : L2.St → XK} {m : Str} {pos apos : Pos} {o : Expr} {ta : TE} {pl : Sem Bool}
/-- o.m() -/
def tMethS0 (C : Addr) (m : Str) (sp : Sp) (E : L2.St → XK) (ta : TE) : TE := fun σ H Q => ta σ H fun x H1 => ∃ a dx fs, x = .ref a ∧ H1 a = some (.ins C dx fs) ∧ fs.lookup m = none ∧ sp [.ref a] H1 Q (E σ)
theorem pe_methS0 (he : PE X o ta) (c : Cls X.K C) (hm : Meth X.K C m f) (F : FnOk X.prog X.w X.K X.mg X.base CX k f fd ps sp) (room : Room k X.A) (b : Binds X.K fd ps []) (pass : ∀ σ, PassesAt CX X σ (E σ))
    (road : eval (.Call (.Attribute o m apos) [] [] pos) X.env = (do
      let it ← eval o X.env
      standAt apos.atName
      let (fn, self) ← holding [it] (getMethod it m pl)
      callWith pos fn self (backTo pos (starEach [] X.env)) (backToKw pos (keywordEach [] X.env))) := by rfl) :
    PE X (.Call (.Attribute o m apos) [] [] pos) (tMethS0 C m sp E ta) := by
  constructor
  intro pins s σ H Q I had
  refine PySem.W.methodCall_KW (pl := pl) (thn (he.run pins s σ H _ I had) ?_) road
  rintro u s1 ⟨x, H1, I1, ru, a, dx, fs, rfl, at_, no, q⟩
  cases (show u = Value.ref a from ru); skip
  refine getmeth_ok I1 at_ c hm no (PySem.W.callWith_K0 (first := [.ref a]) I1.kIn hm.kp ?_)
  exact run_fnS (us := [.ref a]) (vs := [.ref a]) F room b (pass σ) I1 (.cons rfl .nil) q
end
section
variable {X : Cx} {CX : CXT} {k i : Nat} {f C : Addr} {fd : FuncData} {ps ks : List Str} {sp : Sp} {E : L2.St → XK} {x : Str} {p pos : Pos} {kws : List Keyword} {tk : TA} {gb : List Value → List Value → List Value} {gV : List V → List V → List V}
/-- the i-th slot holds the class C: name(k = v, ..), its __init__ may raise -/
def tMakeLS (i : Nat) (C : Addr) (m : Nat) (sp : Sp) (gV : List V → List V → List V) (E : L2.St → XK) (tk : TA) : TE := fun σ H Q => σ[i]? = some (some (.ref C)) ∧ tMakeS C m sp gV E tk σ H Q
theorem pe_makeLS (M : Mk X.K C f) (F : FnOk X.prog X.w X.K X.mg X.base CX k f fd ps sp) (room : Room (k + 1) X.A) (at_ : X.N[i]? = some x) (vis : Vis X.env.scope x) (b : KBn X.K fd ps 1 ks gb gV) (pass : ∀ σ, PassesAt CX X σ (E σ)) (kw : PK X kws tk)
    (hall : (backToKw pos (keywordEach kws X.env)).all (·.1.isSome) = true := by rfl) (hks : (backToKw pos (keywordEach kws X.env)).filterMap (·.1) = ks := by rfl) (d1 : (x == ("__debug__" : Str)) = false := by decide) (d2 : (x == ("__classdict__" : Str)) = false := by decide)
    (star : ((backTo pos (starEach [] X.env)).any (·.1) ||
      (backToKw pos (keywordEach kws X.env)).any (·.1.isNone)) = false := by rfl) :
    PE X (.Call (.Name x p) [] kws pos) (tMakeLS i C ks.length sp gV E tk) := by
  constructor
  rintro pins s σ H Q I ⟨slot, had⟩
  refine wpAny_Call_Name_kw (thn ((pe_var (pos := p) at_ vis d1 d2).run pins s σ H (fun v G => v = .ref C ∧ G = H) I ⟨.ref C, slot, rfl, rfl⟩) ?_)
  rintro u s1 ⟨v, G, I1, rv, rfl, rfl⟩
  cases (show u = Value.ref C from rv)
  refine PySem.W.callWith_KW0 (h₀ := X.base)
    I.ok.mod.kin M.kp hall ?_ star
  refine thn (kw.run pos pins s1 σ G _ I1 had) ?_
  rintro ws s2 ⟨zs, G2, I2, rz, lz, q⟩
  rw [hks]
  exact ⟨I2.kIn, run_makeS M F room b (pass σ) I2 rz lz q⟩
end
end MkS
namespace L2
open PySem PySem.Spec PyProof.Rows
section
variable {P : Program} {w : World} {K : PySem.W.Frag} {mg : Str → Option Value} {base : Heap}
/-- a def with defaults called where an exception is handled, lets none out -/
theorem FunD.okH {x qual : Str} {params : Arguments} {body : List Stmt} {scope : Scope} {dvs : List V} {kws : List (Str × V)} {f : Addr} {fd : FuncData} {N ps : List Str} {k : Nat} {sp : Sp} (F : FunD K x qual params body scope dvs kws f fd) (S : FnScope N ps scope) (len : ∀ vs H Q E, sp vs H Q E → vs.length = ps.length)
    (walk : ∀ (cdv : Value) (A : Around) (outer : List Env) (s : Shared) (H : Hp) (vs : List V) (Q : VK) (E : XK) (p : Addr × Obj), L2H.Hot1 A p → L2H.RoomH k (A.deeper (envOfC qual scope s.heap.objs.size f cdv)) → sp vs H Q E →
      ∃ t, PSs (L2H.cxH CX0 P w K mg base N qual scope f cdv A outer s H E p).nox body t ∧ t { nx := fun _ H' => Q .non H', rt := Q } (start N vs) H) : L2H.FnH P w K mg base CX0 (k + 1) f fd ps sp := by
  obtain ⟨oc, od, dV, kV, doc, pm, an, cdv, ct, osl, rfl, lk, hcd, _, _⟩ := F.ex
  refine L2H.fn_ofH lk hcd S len fun A outer s H vs Q E p hot hr hsp => ?_
  obtain ⟨t, h, q⟩ := walk cdv A outer s H vs Q E p hot hr hsp
  exact ⟨t, h.nox, q⟩
/-- no keyword written: as if called by position with the defaults -/
theorem KBn.binds {fd : FuncData} {ps : List Str} {gb : List Value → List Value → List Value} {gV : List V → List V → List V} {ds : List Value} (b : KBn K fd ps 1 [] gb gV) (h : ∀ u, gb [u] [] = u :: ds) (hl : ps.length = ds.length + 1) : Binds K fd ps ds := by
  intro s us X l
  have e : us.length = 1 := by
    rw [List.length_append] at l
    omega
  match us, e with
  | [u], _ =>
    have z := b.to s [u] [] X rfl rfl
    rw [h u] at z
    exact z
end
end L2
namespace L2
open PySem PySem.Spec PyProof.Rows
theorem ix_kdictK {X : Cx} {K : PySem.W.Frag} {w : World} (h : X.K = K) (hw : X.w = w) : IxR X (rIxD K w) := by
  subst h
  subst hw
  exact ix_kdict
end L2
namespace L2
open PySem PySem.Spec PyProof.Rows
theorem pe_fldK {X : Cx} {K : PySem.W.Frag} {e : Expr} {f : Str} {pos : Pos} {ta : TE} (h : X.K = K) (it : PE X e ta) (hb : attributeBase e f X.env (eval e X.env) = eval e X.env) : PE X (.Attribute e f pos) (tFld K ta f) := by
  subst h
  exact pe_fld it hb
end L2

/-! == and repr of an instance with its own __eq__, __repr__ -/
namespace OwI
open PySem PySem.Spec PyProof.Rows L2
theorem stands {X : Cx} {pins : List (Addr × Obj)} {σ : L2.St} {H : Hp} {s : Shared} {a C dx : Addr} {fs : List (Str × V)} (I : Inv X pins σ H s) (e : H a = some (.ins C dx fs)) : ∃ o od, PySem.W.InstAt s.heap a o C (some od) := by
  obtain ⟨mA, O, _⟩ := ins_get I.hok e
  obtain ⟨od, J, _⟩ := O.look
  exact ⟨_, od, J⟩
/-- x op y, x an instance of the class at C whose def for op is at g, y an instance of the same class -/
def rOwnI (K : PySem.W.Frag) (C : Addr) (sp : Sp) (E : XK) : R2 := fun x y H Q => ∃ a dx fs b dy gs, x = .ref a ∧ y = .ref b ∧ H a = some (.ins C dx fs) ∧ H b = some (.ins C dy gs) ∧ PySem.W.notFirst K C (.ref C) = true ∧ sp [x, y] H Q E
section
variable {X : Cx} {CX : CXT} {C g : Addr} {n : Nat} {sp : Sp} {E : XK}
theorem op_ownI {op : CmpOp} (road : ∀ a b, compareOp op a b = richCompare op a b) (own : PySem.W.findIn X.K (.ref C) (cmpInfo op).2.1 = some (some (.ref g))) (isf : PySem.W.isFn X.K (.ref g) = true) (F : FnR X.prog X.w X.K X.mg X.base CX n g sp)
    (room : Room n X.A) (pass : Passes CX X E) : OpR X (compareOp op) (rOwnI X.K C sp E) := by
  rintro pins s σ H _ _ v u Q I rv ru ⟨a, dx, fs, b, dy, gs, rfl, rfl, ha, hb, nf, had⟩
  cases (show v = Value.ref a from rv)
  cases (show u = Value.ref b from ru)
  obtain ⟨o, od, J⟩ := stands I ha
  obtain ⟨o2, od2, J2⟩ := stands I hb
  obtain ⟨m, fr⟩ := I.fr
  rw [road]
  refine PySem.W.cmp_K (op := op) (tb := .ref C) room.units0 fr I.ok.mod.kin J J2.type nf own isf ?_
  refine wpAny_mono (wpAny_call (run_fnR (us := [.ref a, .ref b]) (vs := [.ref a, .ref b]) F room pass I (.cons rfl (.cons rfl .nil)) had)) ?_ fun _ _ z => z
  rintro w z ⟨y, G, I2, ry, q⟩
  exact SlX.cmpback ry ⟨y, G, I2, ry, q⟩
/-- repr(x), x an instance of the class at C with its own __repr__ at g -/
def rReprI (C : Addr) (sp : Sp) (E : XK) : List V → Hp → VK → Prop := fun xs H Q => ∃ a dx fs, xs = [.ref a] ∧ H a = some (.ins C dx fs) ∧ sp [.ref a] H (fun y G => ∃ t : Str, y = .str t ∧ Q y G) E
theorem call_reprI (own : PySem.W.findIn X.K (.ref C) "__repr__" = some (some (.ref g))) (isf : PySem.W.isFn X.K (.ref g) = true) (F : FnR X.prog X.w X.K X.mg X.base CX n g sp) (room : Room (n + 1) X.A) (pass : Passes CX X E) : CallR X (.builtin "repr") (rReprI C sp E) := by
  rintro pins s σ H _ us Q I rel ⟨a, dx, fs, rfl, ha, had⟩
  obtain ⟨u, rfl, ru⟩ := vals1 rel
  cases (show u = Value.ref a from ru); skip
  obtain ⟨o, od, J⟩ := stands I ha
  obtain ⟨m, fr⟩ := I.fr
  have room1 : Room n X.A.in1 := Room.in1 room
  refine PySem.W.repr_K room1.units0 fr I.ok.mod.kin J own isf ?_
  refine wpAny_mono (wpAny_call (SlX.run_at (us := [.ref a]) (ws := [.ref a]) F room1 I.env0.in1 pass I (.cons rfl .nil) had)) ?_ fun _ _ z => z
  rintro w z ⟨y, G, I2, ry, t, rfl, q⟩
  obtain ⟨tk, rfl⟩ := (show ∃ tk, w = Value.str t tk from ry)
  exact ⟨.str t, G, I2, ⟨tk, rfl⟩, q⟩
end
end OwI

namespace Pv
open PySem L2
/-! ### error classes -/
def veM (M : Addr) : List Value := [.ref M, .type "ValueError", .type "Exception", .type "BaseException", .type "object"]
structure ErrK (K : PySem.W.Frag) (mg : Str → Option Value) (M C : Addr) (x : Str) : Prop where
  g : mg x = some (.ref C)
  k : PySem.W.keepIn K (.ref C) = true
  l : ∃ nm q N bs sn sub ab col dd k0 k1 k2 k3 k5, K.lookup C = some (excClassObj nm q C N bs (veM M) true sn sub ab col dd k0 k1 k2 k3 k5 "ValueError.__new__")
  sa : PySem.W.findIn K (.ref C) "__setattr__" = some (some (.builtin "object.__setattr__"))
  ga : PySem.W.findIn K (.ref C) "__getattribute__" = some (some (.builtin "BaseException.__getattribute__"))
  gg : PySem.W.findIn K (.ref C) "__getattr__" = some none
  ca : PySem.W.findIn K (.ref C) "__class__" = some (some (.builtin "object.__class__"))
structure ErrM (K : PySem.W.Frag) (mg : Str → Option Value) (M : Addr) : Prop where
  g : mg "MendError" = some (.ref M)
  l : ∃ nm q N bs bm sn sub ab col dd k0 k1 k2 k3 k5, K.lookup M = some (excClassObj nm q M N bs bm true sn sub ab col dd k0 k1 k2 k3 k5 "ValueError.__new__")
structure ErrF (K : PySem.W.Frag) (C I : Addr) (qual f : Str) (st : Stmt) : Prop where
  i : PySem.W.findIn K (.ref C) "__init__" = some (some (.ref I))
  t : PySem.W.typeIn K (.ref I) = some (.type "function")
  nf : PySem.W.findIn K (.ref C) f = some none
  fn : ∃ fd, Fun K "__init__" qual st I fd
section
variable {K : PySem.W.Frag} {mg : Str → Option Value} {M C D : Addr} {x : Str}
theorem ErrK.ty (E : ErrK K mg M C x) : PySem.W.typeIn K (.ref C) = some (.type "type") := by
  obtain ⟨nm, q, N, bs, sn, sub, ab, col, dd, k0, k1, k2, k3, k5, h⟩ := E.l
  show (K.lookup C).map (·.cls) = _
  rw [h]
  rfl
theorem ErrM.ty (E : ErrM K mg M) : PySem.W.typeIn K (.ref M) = some (.type "type") := by
  obtain ⟨nm, q, N, bs, bm, sn, sub, ab, col, dd, k0, k1, k2, k3, k5, h⟩ := E.l
  show (K.lookup M).map (·.cls) = _
  rw [h]
  rfl
theorem ErrM.cls (E : ErrM K mg M) : (PySem.W.clsIn K M).isSome = true := by
  obtain ⟨nm, q, N, bs, bm, sn, sub, ab, col, dd, k0, k1, k2, k3, k5, h⟩ := E.l
  unfold PySem.W.clsIn
  rw [h]
  rfl
theorem ErrK.mro (E : ErrK K mg M C x) (v : Value) : PySem.W.mroIn K C v = some ((Value.ref C :: veM M).contains v) := by
  obtain ⟨nm, q, N, bs, sn, sub, ab, col, dd, k0, k1, k2, k3, k5, h⟩ := E.l
  unfold PySem.W.mroIn PySem.W.clsIn
  rw [h]
  rfl
theorem ErrK.cls (E : ErrK K mg M C x) : (PySem.W.clsIn K C).isSome = true := by
  obtain ⟨nm, q, N, bs, sn, sub, ab, col, dd, k0, k1, k2, k3, k5, h⟩ := E.l
  unfold PySem.W.clsIn
  rw [h]
  rfl
theorem ErrK.hd (E : ErrK K mg M C x) : PySem.W.hasDictIn K C = true := by
  obtain ⟨nm, q, N, bs, sn, sub, ab, col, dd, k0, k1, k2, k3, k5, h⟩ := E.l
  unfold PySem.W.hasDictIn PySem.W.clsIn
  rw [h]
  rfl
theorem ErrK.sub (E : ErrK K mg M C x) : PySem.W.subIn K (.ref C) (.type "BaseException") = some true := by
  show PySem.W.mroIn K C _ = _
  rw [E.mro]
  simp [veM]
theorem ErrK.xfc (E : ErrK K mg M C x) : XfC K C := ⟨E.ga, E.gg, E.sub, E.hd⟩
theorem ErrK.oex (E : ErrK K mg M C x) : OexC K C := by
  obtain ⟨nm, q, N, bs, sn, sub, ab, col, dd, k0, k1, k2, k3, k5, h⟩ := E.l
  exact ⟨⟨nm, q, N, bs, veM M, sn, sub, ab, col, dd, k0, k1, k2, k3, k5, h, rfl⟩, E.sa, E.sub, E.ty, E.k⟩
theorem ErrK.exc (E : ErrK K mg M C x) (cn : PySem.W.specialIn K (.builtin "object.__class__") "__get__" = some (some (.builtin "getset_descriptor.__get__"))) (ct : PySem.W.takesIn K (.builtin "object.__class__") = some true) : ExcC K C :=
  ⟨E.ga, E.gg, E.sub, E.hd, E.ca, cn, ct, by rw [E.mro]; simp [veM]⟩
theorem kitCls_ref {t : Value} (h1 : (PySem.W.clsIn K D).isSome = true) (h2 : PySem.W.typeIn K (.ref D) = some (.type "type")) : PySem.W.kitCls K t (.ref D) = PySem.W.subIn K t (.ref D) := by
  show (if ((PySem.W.clsIn K D).isSome && PySem.W.typeIn K (.ref D) == some (.type "type")) = true then PySem.W.subIn K t (.ref D) else none) = _
  rw [h1, h2, if_pos (by simp)]
/-- isinstance against the class itself, its base, ValueError, another class -/
theorem kit_self : PySem.W.kitOne K (.ref C) (.ref C) = some true := by
  unfold PySem.W.kitOne
  rw [if_pos (by simp)]
theorem ErrK.kit_ne {y : Str} (E : ErrK K mg M C x) (F : ErrK K mg M D y) (h : C ≠ D) (hM : M ≠ D) : PySem.W.kitOne K (.ref C) (.ref D) = some false := by
  unfold PySem.W.kitOne
  rw [if_neg (by simp [h])]
  rw [kitCls_ref F.cls F.ty]
  show PySem.W.mroIn K C _ = _
  rw [E.mro]
  have h1 : D ≠ C := fun z => h z.symm
  have h2 : D ≠ M := fun z => hM z.symm
  simp [veM, h1, h2]
theorem ErrK.kit_base (E : ErrK K mg M C x) (F : ErrM K mg M) (h : C ≠ M) : PySem.W.kitOne K (.ref C) (.ref M) = some true := by
  unfold PySem.W.kitOne
  rw [if_neg (by simp [h])]
  rw [kitCls_ref F.cls F.ty]
  show PySem.W.mroIn K C _ = _
  rw [E.mro]
  simp [veM]
theorem ErrK.kit_ve (E : ErrK K mg M C x) : PySem.W.kitOne K (.ref C) (.type "ValueError") = some true := by
  unfold PySem.W.kitOne
  rw [if_neg (by simp)]
  unfold PySem.W.kitCls
  show (if PySem.W.kitMeta "ValueError" = true then PySem.W.mroIn K C (.type "ValueError") else none) = _
  rw [if_pos (by decide +kernel), E.mro]
  simp [veM]
theorem ErrK.exm (E : ErrK K mg M C x) : PySem.W.exmOne K (.ref C) (.ref C) = some true := by
  unfold PySem.W.exmOne
  rw [E.sub, if_pos (by simp)]
  rw [kitCls_ref E.cls E.ty]
  show PySem.W.mroIn K C _ = _
  rw [E.mro]
  simp
theorem ErrK.exm_ne {y : Str} (E : ErrK K mg M C x) (F : ErrK K mg M D y) (h : C ≠ D) (hM : M ≠ D) : PySem.W.exmOne K (.ref C) (.ref D) = some false := by
  unfold PySem.W.exmOne
  rw [F.sub, if_pos (by simp)]
  rw [kitCls_ref F.cls F.ty]
  show PySem.W.mroIn K C _ = _
  rw [E.mro]
  have h1 : D ≠ C := fun z => h z.symm
  have h2 : D ≠ M := fun z => hM z.symm
  simp [veM, h1, h2]
end
def word : Nat → Str
  | 0 => "free" | 1 => "pair" | 2 => "claim" | 3 => "hook" | 4 => "relay" | 5 => "clamp" | 6 => "trail" | _ => "wheel"
def wordsV : List V := [.str "free", .str "pair", .str "claim", .str "hook", .str "relay", .str "clamp", .str "trail", .str "wheel"]
def formsT : List (List Nat × Str) := [([0], "free"), ([1, 0], "pair"), ([1, 1], "claim"), ([1, 2, 1], "hook"), ([1, 2, 2], "relay"), ([1, 2, 1, 2], "clamp"), ([1, 2, 3, 2], "trail"), ([1, 2, 3, 0], "wheel")]
/-- a def with its promise: how it binds, too -/
def Okd (P : Program) (w : World) (K : PySem.W.Frag) (mg : Str → Option Value) (base : Heap) (CX : CXT) (k : Nat) (f : Addr) (ps : List Str) (sp : Sp) : Prop := ∃ fd, FnOk P w K mg base CX k f fd ps sp ∧ Binds K fd ps []
/-- a def called where an exception is handled, with its promise -/
def Okh (P : Program) (w : World) (K : PySem.W.Frag) (mg : Str → Option Value) (base : Heap) (CX : CXT) (k : Nat) (f : Addr) (ps : List Str) (sp : Sp) : Prop := ∃ fd, L2H.FnH P w K mg base CX k f fd ps sp ∧ Binds K fd ps []
/-! ### the text -/
def top (i : Nat) : Stmt := PySem.Challenge.pw_peermend_k07_whole_parts_of_built_update.main.body.getD i (.Pass ⟨0, 0, 0, 0⟩)
abbrev s_check_image : Stmt := top 9
abbrev s_check_state : Stmt := top 10
abbrev s_check_pair : Stmt := top 11
abbrev s_parts : Stmt := top 13
abbrev s_kind_of : Stmt := top 14
abbrev s_part_of : Stmt := top 15
abbrev s_walk : Stmt := top 16
abbrev s_gain : Stmt := top 17
abbrev s_m_init : Stmt := inClass (top 19) 0
abbrev s_m_kind : Stmt := inClass (top 19) 2
abbrev s_law_mix : Stmt := top 22
abbrev s_law_box : Stmt := top 23
abbrev s_law_draw : Stmt := top 24
abbrev s_law_size : Stmt := top 25
abbrev s_law_whole : Stmt := top 26
abbrev s_law_row : Stmt := top 27
abbrev s_law_spoil : Stmt := top 28
abbrev s_law_entry : Stmt := top 29
abbrev s_law_unsettled : Stmt := top 30
abbrev s_law_parts_told : Stmt := top 31
abbrev s_law_kind_told : Stmt := top 32
abbrev s_law_ascending : Stmt := top 33
abbrev s_law_order : Stmt := top 34
abbrev s_law_piece : Stmt := top 35
abbrev s_law_built : Stmt := top 36
abbrev s_law_states : Stmt := top 37
abbrev s_law_least : Stmt := top 38
abbrev s_law_canonical : Stmt := top 39
abbrev s_law_due_parts : Stmt := top 40
abbrev s_law_due_kind : Stmt := top 41
abbrev s_law_fault : Stmt := top 42
abbrev s_law_bent : Stmt := top 43
abbrev s_law_call : Stmt := top 44
abbrev s_law_fault_told : Stmt := top 45
abbrev s_law_kept : Stmt := top 46
abbrev s_law : Stmt := top 47
abbrev s_InvalidImage : Stmt := inClass (top 3) 0
abbrev s_NotState : Stmt := inClass (top 4) 0
structure Ad where
  check_image : Addr
  check_state : Addr
  check_pair : Addr
  parts : Addr
  kind_of : Addr
  part_of : Addr
  walk : Addr
  gain : Addr
  m_init : Addr
  m_kind : Addr
  law_mix : Addr
  law_box : Addr
  law_draw : Addr
  law_size : Addr
  law_whole : Addr
  law_row : Addr
  law_spoil : Addr
  law_entry : Addr
  law_unsettled : Addr
  law_parts_told : Addr
  law_kind_told : Addr
  law_ascending : Addr
  law_order : Addr
  law_piece : Addr
  law_built : Addr
  law_states : Addr
  law_least : Addr
  law_canonical : Addr
  law_due_parts : Addr
  law_due_kind : Addr
  law_fault : Addr
  law_bent : Addr
  law_call : Addr
  law_fault_told : Addr
  law_kept : Addr
  law : Addr
  MendError : Addr
  InvalidImage : Addr
  NotState : Addr
  UnequalSizes : Addr
  i_InvalidImage : Addr
  i_NotState : Addr
  Update : Addr
  p_kind : Addr
abbrev N_check_image : List Str := ["image", "size", "record", "name"]
abbrev P_check_image : List Str := ["image"]
theorem sc_check_image : FnScope N_check_image P_check_image (defScope s_check_image) := ⟨rfl, rfl, rfl, by decide +kernel, rfl, by decide +kernel, by decide +kernel⟩
abbrev N_check_state : List Str := ["state", "record", "name"]
abbrev P_check_state : List Str := ["state"]
theorem sc_check_state : FnScope N_check_state P_check_state (defScope s_check_state) := ⟨rfl, rfl, rfl, by decide +kernel, rfl, by decide +kernel, by decide +kernel⟩
abbrev N_check_pair : List Str := ["first", "second"]
abbrev P_check_pair : List Str := ["first", "second"]
theorem sc_check_pair : FnScope N_check_pair P_check_pair (defScope s_check_pair) := ⟨rfl, rfl, rfl, by decide +kernel, rfl, by decide +kernel, by decide +kernel⟩
abbrev N_parts : List Str := ["before", "after", "found", "seen", "record", "name", "part"]
abbrev P_parts : List Str := ["before", "after"]
theorem sc_parts : FnScope N_parts P_parts (defScope s_parts) := ⟨rfl, rfl, rfl, by decide +kernel, rfl, by decide +kernel, by decide +kernel⟩
abbrev N_kind_of : List Str := ["before", "after", "found", "entries", "row", "shape"]
abbrev P_kind_of : List Str := ["before", "after"]
theorem sc_kind_of : FnScope N_kind_of P_kind_of (defScope s_kind_of) := ⟨rfl, rfl, rfl, by decide +kernel, rfl, by decide +kernel, by decide +kernel⟩
abbrev N_part_of : List Str := ["before", "after", "least", "row", "back"]
abbrev P_part_of : List Str := ["before", "after", "least"]
theorem sc_part_of : FnScope N_part_of P_part_of (defScope s_part_of) := ⟨rfl, rfl, rfl, by decide +kernel, rfl, by decide +kernel, by decide +kernel⟩
abbrev N_walk : List Str := ["first", "second", "start", "row", "here"]
abbrev P_walk : List Str := ["first", "second", "start"]
theorem sc_walk : FnScope N_walk P_walk (defScope s_walk) := ⟨rfl, rfl, rfl, by decide +kernel, rfl, by decide +kernel, by decide +kernel⟩
abbrev N_gain : List Str := ["before", "after", "row", "gained", "lost", "record"]
abbrev P_gain : List Str := ["before", "after", "row"]
theorem sc_gain : FnScope N_gain P_gain (defScope s_gain) := ⟨rfl, rfl, rfl, by decide +kernel, rfl, by decide +kernel, by decide +kernel⟩
abbrev N_m_init : List Str := ["self", "before", "after"]
abbrev P_m_init : List Str := ["self", "before", "after"]
theorem sc_m_init : FnScope N_m_init P_m_init (defScope s_m_init) := ⟨rfl, rfl, rfl, by decide +kernel, rfl, by decide +kernel, by decide +kernel⟩
abbrev N_m_kind : List Str := ["self"]
abbrev P_m_kind : List Str := ["self"]
theorem sc_m_kind : FnScope N_m_kind P_m_kind (defScope s_m_kind) := ⟨rfl, rfl, rfl, by decide +kernel, rfl, by decide +kernel, by decide +kernel⟩
abbrev N_law_mix : List Str := ["seed", "step", "one", "two"]
abbrev P_law_mix : List Str := ["seed", "step"]
theorem sc_law_mix : FnScope N_law_mix P_law_mix (defScope s_law_mix) := ⟨rfl, rfl, rfl, by decide +kernel, rfl, by decide +kernel, by decide +kernel⟩
abbrev N_law_box : List Str := ["script", "seed", "cell"]
abbrev P_law_box : List Str := ["script"]
theorem sc_law_box : FnScope N_law_box P_law_box (defScope s_law_box) := ⟨rfl, rfl, rfl, by decide +kernel, rfl, by decide +kernel, by decide +kernel⟩
abbrev N_law_draw : List Str := ["box", "many", "cell", "digits"]
abbrev P_law_draw : List Str := ["box", "many"]
theorem sc_law_draw : FnScope N_law_draw P_law_draw (defScope s_law_draw) := ⟨rfl, rfl, rfl, by decide +kernel, rfl, by decide +kernel, by decide +kernel⟩
abbrev N_law_size : List Str := ["box"]
abbrev P_law_size : List Str := ["box"]
theorem sc_law_size : FnScope N_law_size P_law_size (defScope s_law_size) := ⟨rfl, rfl, rfl, by decide +kernel, rfl, by decide +kernel, by decide +kernel⟩
abbrev N_law_whole : List Str := ["told", "due"]
abbrev P_law_whole : List Str := ["told", "due"]
theorem sc_law_whole : FnScope N_law_whole P_law_whole (defScope s_law_whole) := ⟨rfl, rfl, rfl, by decide +kernel, rfl, by decide +kernel, by decide +kernel⟩
abbrev N_law_row : List Str := ["told", "due", "k"]
abbrev P_law_row : List Str := ["told", "due"]
theorem sc_law_row : FnScope N_law_row P_law_row (defScope s_law_row) := ⟨rfl, rfl, rfl, by decide +kernel, rfl, by decide +kernel, by decide +kernel⟩
abbrev N_law_spoil : List Str := ["row", "k"]
abbrev P_law_spoil : List Str := ["row"]
theorem sc_law_spoil : FnScope N_law_spoil P_law_spoil (defScope s_law_spoil) := ⟨rfl, rfl, rfl, by decide +kernel, rfl, by decide +kernel, by decide +kernel⟩
abbrev N_law_entry : List Str := ["row", "k"]
abbrev P_law_entry : List Str := ["row"]
theorem sc_law_entry : FnScope N_law_entry P_law_entry (defScope s_law_entry) := ⟨rfl, rfl, rfl, by decide +kernel, rfl, by decide +kernel, by decide +kernel⟩
abbrev N_law_unsettled : List Str := ["row", "x"]
abbrev P_law_unsettled : List Str := ["row"]
theorem sc_law_unsettled : FnScope N_law_unsettled P_law_unsettled (defScope s_law_unsettled) := ⟨rfl, rfl, rfl, by decide +kernel, rfl, by decide +kernel, by decide +kernel⟩
abbrev N_law_parts_told : List Str := ["told", "due", "k"]
abbrev P_law_parts_told : List Str := ["told", "due"]
theorem sc_law_parts_told : FnScope N_law_parts_told P_law_parts_told (defScope s_law_parts_told) := ⟨rfl, rfl, rfl, by decide +kernel, rfl, by decide +kernel, by decide +kernel⟩
abbrev N_law_kind_told : List Str := ["told", "due", "k"]
abbrev P_law_kind_told : List Str := ["told", "due"]
theorem sc_law_kind_told : FnScope N_law_kind_told P_law_kind_told (defScope s_law_kind_told) := ⟨rfl, rfl, rfl, by decide +kernel, rfl, by decide +kernel, by decide +kernel⟩
abbrev N_law_ascending : List Str := ["entries", "found", "entry", "at"]
abbrev P_law_ascending : List Str := ["entries"]
theorem sc_law_ascending : FnScope N_law_ascending P_law_ascending (defScope s_law_ascending) := ⟨rfl, rfl, rfl, by decide +kernel, rfl, by decide +kernel, by decide +kernel⟩
abbrev N_law_order : List Str := ["box", "size", "pool", "found", "turn"]
abbrev P_law_order : List Str := ["box", "size"]
theorem sc_law_order : FnScope N_law_order P_law_order (defScope s_law_order) := ⟨rfl, rfl, rfl, by decide +kernel, rfl, by decide +kernel, by decide +kernel⟩
abbrev N_law_piece : List Str := ["box", "room", "way", "reach"]
abbrev P_law_piece : List Str := ["box", "room"]
theorem sc_law_piece : FnScope N_law_piece P_law_piece (defScope s_law_piece) := ⟨rfl, rfl, rfl, by decide +kernel, rfl, by decide +kernel, by decide +kernel⟩
abbrev N_law_built : List Str := ["box", "size", "pool", "found", "turn", "word", "length", "start"]
abbrev P_law_built : List Str := ["box", "size"]
theorem sc_law_built : FnScope N_law_built P_law_built (defScope s_law_built) := ⟨rfl, rfl, rfl, by decide +kernel, rfl, by decide +kernel, by decide +kernel⟩
abbrev N_law_states : List Str := ["built", "size", "rows", "word", "line", "start", "row", "k"]
abbrev P_law_states : List Str := ["built", "size"]
theorem sc_law_states : FnScope N_law_states P_law_states (defScope s_law_states) := ⟨rfl, rfl, rfl, by decide +kernel, rfl, by decide +kernel, by decide +kernel⟩
abbrev N_law_least : List Str := ["line", "least", "x"]
abbrev P_law_least : List Str := ["line"]
theorem sc_law_least : FnScope N_law_least P_law_least (defScope s_law_least) := ⟨rfl, rfl, rfl, by decide +kernel, rfl, by decide +kernel, by decide +kernel⟩
abbrev N_law_canonical : List Str := ["word", "line", "row", "at", "found"]
abbrev P_law_canonical : List Str := ["word", "line", "row"]
theorem sc_law_canonical : FnScope N_law_canonical P_law_canonical (defScope s_law_canonical) := ⟨rfl, rfl, rfl, by decide +kernel, rfl, by decide +kernel, by decide +kernel⟩
abbrev N_law_due_parts : List Str := ["built", "size", "row", "found", "least", "word", "line", "start"]
abbrev P_law_due_parts : List Str := ["built", "size", "row"]
theorem sc_law_due_parts : FnScope N_law_due_parts P_law_due_parts (defScope s_law_due_parts) := ⟨rfl, rfl, rfl, by decide +kernel, rfl, by decide +kernel, by decide +kernel⟩
abbrev N_law_due_kind : List Str := ["built", "sign", "entries", "word", "line", "start"]
abbrev P_law_due_kind : List Str := ["built", "sign"]
theorem sc_law_due_kind : FnScope N_law_due_kind P_law_due_kind (defScope s_law_due_kind) := ⟨rfl, rfl, rfl, by decide +kernel, rfl, by decide +kernel, by decide +kernel⟩
abbrev N_law_fault : List Str := ["one", "two", "row", "bad"]
abbrev P_law_fault : List Str := ["one", "two"]
theorem sc_law_fault : FnScope N_law_fault P_law_fault (defScope s_law_fault) := ⟨rfl, rfl, rfl, by decide +kernel, rfl, by decide +kernel, by decide +kernel⟩
abbrev N_law_bent : List Str := ["box", "row", "way", "size", "found", "menu"]
abbrev P_law_bent : List Str := ["box", "row"]
theorem sc_law_bent : FnScope N_law_bent P_law_bent (defScope s_law_bent) := ⟨rfl, rfl, rfl, by decide +kernel, rfl, by decide +kernel, by decide +kernel⟩
abbrev N_law_call : List Str := ["door", "one", "two"]
abbrev P_law_call : List Str := ["door", "one", "two"]
theorem sc_law_call : FnScope N_law_call P_law_call (defScope s_law_call) := ⟨rfl, rfl, rfl, by decide +kernel, rfl, by decide +kernel, by decide +kernel⟩
abbrev N_law_fault_told : List Str := ["door", "one", "two", "due", "e"]
abbrev P_law_fault_told : List Str := ["door", "one", "two", "due"]
theorem sc_law_fault_told : FnScope N_law_fault_told P_law_fault_told (defScope s_law_fault_told) := ⟨rfl, rfl, rfl, by decide +kernel, rfl, by decide +kernel, by decide +kernel⟩
abbrev N_law_kept : List Str := ["built", "size", "old", "new", "sign", "kind", "passed", "update"]
abbrev P_law_kept : List Str := ["built", "size", "old", "new", "sign"]
theorem sc_law_kept : FnScope N_law_kept P_law_kept (defScope s_law_kept) := ⟨rfl, rfl, rfl, by decide +kernel, rfl, by decide +kernel, by decide +kernel⟩
abbrev N_law : List Str := ["script", "box", "size", "built", "rows", "turn", "one", "two", "due", "door"]
abbrev P_law : List Str := ["script"]
theorem sc_law : FnScope N_law P_law (defScope s_law) := ⟨rfl, rfl, rfl, by decide +kernel, rfl, by decide +kernel, by decide +kernel⟩
abbrev N_InvalidImage : List Str := ["self", "record"]
abbrev P_InvalidImage : List Str := ["self", "record"]
theorem sc_InvalidImage : FnScope N_InvalidImage P_InvalidImage (defScope s_InvalidImage) := ⟨rfl, rfl, rfl, by decide +kernel, rfl, by decide +kernel, by decide +kernel⟩
abbrev N_NotState : List Str := ["self", "record"]
abbrev P_NotState : List Str := ["self", "record"]
theorem sc_NotState : FnScope N_NotState P_NotState (defScope s_NotState) := ⟨rfl, rfl, rfl, by decide +kernel, rfl, by decide +kernel, by decide +kernel⟩
structure Txt (K : PySem.W.Frag) (mg : Str → Option Value) (A : Ad) : Prop where
  g_check_image : mg "check_image" = some (.ref A.check_image)
  k_check_image : PySem.W.keepIn K (.ref A.check_image) = true
  d_check_image : ∃ fd, Fun K "check_image" "check_image" s_check_image A.check_image fd
  g_check_state : mg "check_state" = some (.ref A.check_state)
  k_check_state : PySem.W.keepIn K (.ref A.check_state) = true
  d_check_state : ∃ fd, Fun K "check_state" "check_state" s_check_state A.check_state fd
  g_check_pair : mg "check_pair" = some (.ref A.check_pair)
  k_check_pair : PySem.W.keepIn K (.ref A.check_pair) = true
  d_check_pair : ∃ fd, Fun K "check_pair" "check_pair" s_check_pair A.check_pair fd
  g_parts : mg "parts" = some (.ref A.parts)
  k_parts : PySem.W.keepIn K (.ref A.parts) = true
  d_parts : ∃ fd, Fun K "parts" "parts" s_parts A.parts fd
  g_kind_of : mg "kind_of" = some (.ref A.kind_of)
  k_kind_of : PySem.W.keepIn K (.ref A.kind_of) = true
  d_kind_of : ∃ fd, Fun K "kind_of" "kind_of" s_kind_of A.kind_of fd
  g_part_of : mg "_part_of" = some (.ref A.part_of)
  k_part_of : PySem.W.keepIn K (.ref A.part_of) = true
  d_part_of : ∃ fd, Fun K "_part_of" "_part_of" s_part_of A.part_of fd
  g_walk : mg "_walk" = some (.ref A.walk)
  k_walk : PySem.W.keepIn K (.ref A.walk) = true
  d_walk : ∃ fd, Fun K "_walk" "_walk" s_walk A.walk fd
  g_gain : mg "_gain" = some (.ref A.gain)
  k_gain : PySem.W.keepIn K (.ref A.gain) = true
  d_gain : ∃ fd, Fun K "_gain" "_gain" s_gain A.gain fd
  d_m_init : ∃ fd, Fun K "__init__" "Update.__init__" s_m_init A.m_init fd
  d_m_kind : ∃ fd, Fun K "kind" "Update.kind" s_m_kind A.m_kind fd
  g_law_mix : mg "_law_mix" = some (.ref A.law_mix)
  k_law_mix : PySem.W.keepIn K (.ref A.law_mix) = true
  d_law_mix : ∃ fd, Fun K "_law_mix" "_law_mix" s_law_mix A.law_mix fd
  g_law_box : mg "_law_box" = some (.ref A.law_box)
  k_law_box : PySem.W.keepIn K (.ref A.law_box) = true
  d_law_box : ∃ fd, Fun K "_law_box" "_law_box" s_law_box A.law_box fd
  g_law_draw : mg "_law_draw" = some (.ref A.law_draw)
  k_law_draw : PySem.W.keepIn K (.ref A.law_draw) = true
  d_law_draw : ∃ fd, Fun K "_law_draw" "_law_draw" s_law_draw A.law_draw fd
  g_law_size : mg "_law_size" = some (.ref A.law_size)
  k_law_size : PySem.W.keepIn K (.ref A.law_size) = true
  d_law_size : ∃ fd, Fun K "_law_size" "_law_size" s_law_size A.law_size fd
  g_law_whole : mg "_law_whole" = some (.ref A.law_whole)
  k_law_whole : PySem.W.keepIn K (.ref A.law_whole) = true
  d_law_whole : ∃ fd, Fun K "_law_whole" "_law_whole" s_law_whole A.law_whole fd
  g_law_row : mg "_law_row" = some (.ref A.law_row)
  k_law_row : PySem.W.keepIn K (.ref A.law_row) = true
  d_law_row : ∃ fd, Fun K "_law_row" "_law_row" s_law_row A.law_row fd
  g_law_spoil : mg "_law_spoil" = some (.ref A.law_spoil)
  k_law_spoil : PySem.W.keepIn K (.ref A.law_spoil) = true
  d_law_spoil : ∃ fd, Fun K "_law_spoil" "_law_spoil" s_law_spoil A.law_spoil fd
  g_law_entry : mg "_law_entry" = some (.ref A.law_entry)
  k_law_entry : PySem.W.keepIn K (.ref A.law_entry) = true
  d_law_entry : ∃ fd, Fun K "_law_entry" "_law_entry" s_law_entry A.law_entry fd
  g_law_unsettled : mg "_law_unsettled" = some (.ref A.law_unsettled)
  k_law_unsettled : PySem.W.keepIn K (.ref A.law_unsettled) = true
  d_law_unsettled : ∃ fd, Fun K "_law_unsettled" "_law_unsettled" s_law_unsettled A.law_unsettled fd
  g_law_parts_told : mg "_law_parts_told" = some (.ref A.law_parts_told)
  k_law_parts_told : PySem.W.keepIn K (.ref A.law_parts_told) = true
  d_law_parts_told : ∃ fd, Fun K "_law_parts_told" "_law_parts_told" s_law_parts_told A.law_parts_told fd
  g_law_kind_told : mg "_law_kind_told" = some (.ref A.law_kind_told)
  k_law_kind_told : PySem.W.keepIn K (.ref A.law_kind_told) = true
  d_law_kind_told : ∃ fd, Fun K "_law_kind_told" "_law_kind_told" s_law_kind_told A.law_kind_told fd
  g_law_ascending : mg "_law_ascending" = some (.ref A.law_ascending)
  k_law_ascending : PySem.W.keepIn K (.ref A.law_ascending) = true
  d_law_ascending : ∃ fd, Fun K "_law_ascending" "_law_ascending" s_law_ascending A.law_ascending fd
  g_law_order : mg "_law_order" = some (.ref A.law_order)
  k_law_order : PySem.W.keepIn K (.ref A.law_order) = true
  d_law_order : ∃ fd, Fun K "_law_order" "_law_order" s_law_order A.law_order fd
  g_law_piece : mg "_law_piece" = some (.ref A.law_piece)
  k_law_piece : PySem.W.keepIn K (.ref A.law_piece) = true
  d_law_piece : ∃ fd, Fun K "_law_piece" "_law_piece" s_law_piece A.law_piece fd
  g_law_built : mg "_law_built" = some (.ref A.law_built)
  k_law_built : PySem.W.keepIn K (.ref A.law_built) = true
  d_law_built : ∃ fd, Fun K "_law_built" "_law_built" s_law_built A.law_built fd
  g_law_states : mg "_law_states" = some (.ref A.law_states)
  k_law_states : PySem.W.keepIn K (.ref A.law_states) = true
  d_law_states : ∃ fd, Fun K "_law_states" "_law_states" s_law_states A.law_states fd
  g_law_least : mg "_law_least" = some (.ref A.law_least)
  k_law_least : PySem.W.keepIn K (.ref A.law_least) = true
  d_law_least : ∃ fd, Fun K "_law_least" "_law_least" s_law_least A.law_least fd
  g_law_canonical : mg "_law_canonical" = some (.ref A.law_canonical)
  k_law_canonical : PySem.W.keepIn K (.ref A.law_canonical) = true
  d_law_canonical : ∃ fd, Fun K "_law_canonical" "_law_canonical" s_law_canonical A.law_canonical fd
  g_law_due_parts : mg "_law_due_parts" = some (.ref A.law_due_parts)
  k_law_due_parts : PySem.W.keepIn K (.ref A.law_due_parts) = true
  d_law_due_parts : ∃ fd, Fun K "_law_due_parts" "_law_due_parts" s_law_due_parts A.law_due_parts fd
  g_law_due_kind : mg "_law_due_kind" = some (.ref A.law_due_kind)
  k_law_due_kind : PySem.W.keepIn K (.ref A.law_due_kind) = true
  d_law_due_kind : ∃ fd, Fun K "_law_due_kind" "_law_due_kind" s_law_due_kind A.law_due_kind fd
  g_law_fault : mg "_law_fault" = some (.ref A.law_fault)
  k_law_fault : PySem.W.keepIn K (.ref A.law_fault) = true
  d_law_fault : ∃ fd, Fun K "_law_fault" "_law_fault" s_law_fault A.law_fault fd
  g_law_bent : mg "_law_bent" = some (.ref A.law_bent)
  k_law_bent : PySem.W.keepIn K (.ref A.law_bent) = true
  d_law_bent : ∃ fd, Fun K "_law_bent" "_law_bent" s_law_bent A.law_bent fd
  g_law_call : mg "_law_call" = some (.ref A.law_call)
  k_law_call : PySem.W.keepIn K (.ref A.law_call) = true
  d_law_call : ∃ fd, Fun K "_law_call" "_law_call" s_law_call A.law_call fd
  g_law_fault_told : mg "_law_fault_told" = some (.ref A.law_fault_told)
  k_law_fault_told : PySem.W.keepIn K (.ref A.law_fault_told) = true
  d_law_fault_told : ∃ fd, Fun K "_law_fault_told" "_law_fault_told" s_law_fault_told A.law_fault_told fd
  g_law_kept : mg "_law_kept" = some (.ref A.law_kept)
  k_law_kept : PySem.W.keepIn K (.ref A.law_kept) = true
  d_law_kept : ∃ fd, Fun K "_law_kept" "_law_kept" s_law_kept A.law_kept fd
  g_law : mg "law" = some (.ref A.law)
  k_law : PySem.W.keepIn K (.ref A.law) = true
  d_law : ∃ fd, Fun K "law" "law" s_law A.law fd
  e_MendError : ErrM K mg A.MendError
  e_InvalidImage : ErrK K mg A.MendError A.InvalidImage "InvalidImage"
  e_NotState : ErrK K mg A.MendError A.NotState "NotState"
  e_UnequalSizes : ErrK K mg A.MendError A.UnequalSizes "UnequalSizes"
  q_UnequalSizes : PySem.W.excIn K A.UnequalSizes [.type "ValueError", .type "Exception", .type "BaseException", .type "object"] "ValueError.__new__" = true
  f_InvalidImage : ErrF K A.InvalidImage A.i_InvalidImage "InvalidImage.__init__" "record" s_InvalidImage
  f_NotState : ErrF K A.NotState A.i_NotState "NotState.__init__" "record" s_NotState
  g_Update : mg "Update" = some (.ref A.Update)
  cR : Cls K A.Update
  mkR : Mk K A.Update A.m_init
  pp_kind : PropOf K A.Update "kind" A.p_kind A.m_kind
  nc_before : NoAttr K A.Update "before"
  nc_after : NoAttr K A.Update "after"
  n_ValueError : mg "ValueError" = none
  n_int : mg "int" = none
  n_bool : mg "bool" = none
  n_str : mg "str" = none
  n_list : mg "list" = none
  n_tuple : mg "tuple" = none
  n_len : mg "len" = none
  n_range : mg "range" = none
  n_enumerate : mg "enumerate" = none
  n_isinstance : mg "isinstance" = none
  n_min : mg "min" = none
  n_abs : mg "abs" = none
  n_sorted : mg "sorted" = none
  cn : PySem.W.specialIn K (.builtin "object.__class__") "__get__" = some (some (.builtin "getset_descriptor.__get__"))
  ct : PySem.W.takesIn K (.builtin "object.__class__") = some true
  nd : [A.MendError, A.InvalidImage, A.NotState, A.UnequalSizes].Nodup
end Pv

namespace Pv
open PySem L2
/-- all but what stands at b is as it was -/
def Mut (b : Addr) (H H' : Hp) : Prop := ∀ a o, a ≠ b → H a = some o → H' a = some o
theorem Mut.refl (b : Addr) (H : Hp) : Mut b H H := fun _ _ _ e => e
theorem Mut.trans {b : Addr} {H H1 H2 : Hp} (x : Mut b H H1) (y : Mut b H1 H2) : Mut b H H2 := fun a o n e => y a o n (x a o n e)
theorem Mut.upd {b : Addr} {H H1 : Hp} {o : HO} (x : Mut b H H1) : Mut b H (L2.upd H1 b o) := fun a u n e => by
  rw [upd_ne n]
  exact x a u n e
theorem Mut.new {b p : Addr} {H H1 : Hp} {o : HO} (x : Mut b H H1) (hp : H1 p = none) : Mut b H (L2.upd H1 p o) := fun a u n e => by
  have e1 := x a u n e
  rw [upd_ne (ne_of_none e1 hp)]
  exact e1
theorem Mut.free {b p : Addr} {H H1 : Hp} (x : Mut b H H1) (h : p ≠ b) (hp : H1 p = none) : H p = none := by
  cases e : H p with
  | none => rfl
  | some o =>
    rw [x p o h e] at hp
    cases hp
/-- the bag of the draws -/
def bagL (g f s : Int) : List V := [.int g, .int f, .int s]
structure BagOk (g f s : Int) : Prop where
  g0 : 0 ≤ g
  f0 : 0 ≤ f
  f1 : f < 2147483647
  s0 : 0 ≤ s
  s1 : s < 2147483647
def Bag (H : Hp) (b : Addr) : Prop := ∃ g f s : Int, H b = some (.lst (bagL g f s)) ∧ BagOk g f s
def spBag (K : PySem.W.Frag) : Sp := fun vs H Q _ => ∃ (a : Addr) (ns : List Int), vs = [.ref a] ∧ SqL K H a (ns.map V.int) ∧ ∀ b g f s, H b = none → BagOk g f s → Q (.ref b) (upd H b (.lst (bagL g f s)))
def spTake : Sp := fun vs H Q _ => ∃ (b : Addr) (n : Int), vs = [.ref b, .int n] ∧ 0 < n ∧ n < 1152921504606846976 ∧ Bag H b ∧ ∀ d H', 0 ≤ d → d < n → Bag H' b → Mut b H H' → Q (.int d) H'
/-- ints from 0 to below n -/
def Below (n : Int) (xs : List Int) : Prop := ∀ x ∈ xs, 0 ≤ x ∧ x < n
def ListI (H : Hp) (p : Addr) (xs : List Int) : Prop := H p = some (.lst (xs.map V.int))
def spOrder : Sp := fun vs H Q _ => ∃ (b : Addr) (n : Nat), vs = [.ref b, .int (n : Int)] ∧ n ≤ 64 ∧ Bag H b ∧ ∀ p xs H', H p = none → p ≠ b → xs.length = n → Below n xs → ListI H' p xs → Bag H' b → Mut b H H' → Q (.ref p) H'
def spSize : Sp := fun vs H Q _ => ∃ b : Addr, vs = [.ref b] ∧ Bag H b ∧ ∀ (d : Int) H', 0 ≤ d → d ≤ 64 → Bag H' b → Mut b H H' → Q (.int d) H'
def spEntry : Sp := fun vs H Q _ => ∃ (b : Addr) (n : Nat), vs = [.ref b, .int (n : Int)] ∧ 0 < n ∧ n ≤ 64 ∧ Bag H b ∧ ∀ (d : Int) H', Bag H' b → Mut b H H' → Q (.int d) H'
def spDrawn : Sp := fun vs H Q _ => ∃ (b : Addr) (n : Nat), vs = [.ref b, .int (n : Int)] ∧ n ≤ 64 ∧ Bag H b ∧ ∀ p xs H', H p = none → p ≠ b → xs.length = n → ListI H' p xs → Bag H' b → Mut b H H' → Q (.ref p) H'
theorem Bag.ne {H : Hp} {b p : Addr} (B : Bag H b) (h : H p = none) : p ≠ b := fun e => by
  obtain ⟨g, f, s, hb, _⟩ := B
  rw [e, hb] at h
  cases h
theorem Bag.keep {H H' : Hp} {b : Addr} (B : Bag H b) (h : ∀ o, H b = some o → H' b = some o) : Bag H' b := by
  obtain ⟨g, f, s, hb, ok⟩ := B
  exact ⟨g, f, s, h _ hb, ok⟩
theorem map_erase {α β : Type} (f : α → β) : ∀ (l : List α) (i : Nat), (l.map f).eraseIdx i = (l.eraseIdx i).map f
  | [], _ => rfl
  | _ :: _, 0 => rfl
  | a :: l, i + 1 => by
    show f a :: (l.map f).eraseIdx i = f a :: (l.eraseIdx i).map f
    rw [map_erase f l i]
theorem rgV_map (n : Nat) : rgV 0 (n : Int) = ((List.range n).map fun i : Nat => (i : Int)).map V.int := by
  unfold rgV
  have e : ((n : Int) - 0).toNat = n := by omega
  rw [e, List.map_map]
  refine List.map_congr_left fun i _ => ?_
  show V.int (0 + (i : Int)) = V.int (i : Int)
  rw [Int.zero_add]
theorem below_rg (n : Nat) : Below (n : Int) ((List.range n).map fun i : Nat => (i : Int)) := fun x hx => by
  obtain ⟨i, hi, rfl⟩ := List.mem_map.mp hx
  have := List.mem_range.mp hi
  omega
theorem ListI.sz {K : PySem.W.Frag} {H : Hp} {p : Addr} {xs : List Int} (h : ListI H p xs) : SqL K H p (xs.map V.int) := SqL.of h
theorem ix_map {xs : List Int} {j : Nat} (h : j < xs.length) : (xs.map V.int)[j]? = some (V.int xs[j]) := by
  rw [List.getElem?_map, List.getElem?_eq_getElem h]
  rfl
theorem at_map {xs : List Int} {j : Nat} (h : j < xs.length) : atI (xs.map V.int) (j : Int) = some (V.int xs[j]) := atI_nat (ix_map h)
theorem set_map {xs : List Int} {j : Nat} {v : Int} : (xs.map V.int).set j (V.int v) = (xs.set j v).map V.int := List.map_set.symm
theorem ite_b {b : Bool} {X Y : Prop} (h1 : b = true → X) (h2 : b = false → Y) : if b = true then X else Y := by
  cases b with
  | true => exact h1 rfl
  | false => exact h2 rfl
theorem int_at {ns : List Int} {i : Nat} {y : V} (h : (ns.map V.int)[i]? = some y) : ∃ z, ns[i]? = some z ∧ y = V.int z := by
  rw [List.getElem?_map] at h
  cases e : ns[i]? with
  | none =>
    rw [e] at h
    cases h
  | some z =>
    rw [e] at h
    exact ⟨z, rfl, (Option.some.inj h).symm⟩
end Pv

/-! xs[::-1] of a list; x in d as a test -/
namespace StK
open PySem PySem.Spec PyProof.Rows L2
section
variable {X : Cx} {e st : Expr} {te tk : TE} {pos p2 : Pos}
def tBack (K : PySem.W.Frag) (te tk : TE) : TE := fun σ H Q => te σ H fun x H1 => tk σ H1 fun z H2 => z = .int (-1) ∧ ∃ a xs, x = .ref a ∧ SqL K H2 a xs ∧ ∀ p, H2 p = none → Q (.ref p) (upd H2 p (.lst xs.reverse))
theorem pe_back (he : PE X e te) (hk : PE X st tk) : PE X (.Subscript e (.Slice none none (some st) p2) pos) (tBack X.K te tk) := by
  refine ⟨fun pins s σ H Q I h => Subscript_ (thn (he.run pins s σ H _ I h) ?_)⟩
  rintro v s1 ⟨x, H1, I1, r1, q1⟩
  refine wpAny_Slice ?_
  rw [evalPart_none]
  refine wpAny_pure (wpAny_pure ?_)
  rw [evalPart_some]
  refine thn (hk.run pins s1 σ H1 _ I1 q1) ?_
  rintro vk s3 ⟨z, H3, I3, rz, rfl, a, xs, rfl, hx, q⟩
  cases r1
  obtain ⟨tk3, rfl⟩ : ∃ t, vk = .int (-1) t := by
    obtain ⟨t, e⟩ := rz
    exact ⟨t, e⟩
  have I4 : Inv X pins σ H3 { s3 with heap := s3.heap.push { cls := .type "slice", data := .fields #[.none, .none, .int (-1) tk3] } } := I3.kept (t' := s3.toks) fun b ob g => Heap.get?_push_of_some _ g
  obtain ⟨its, r, ht, hz⟩ := I4.list hx
  have rl := r.length
  have sl : ({ s3 with heap := s3.heap.push { cls := .type "slice", data := .fields #[.none, .none, .int (-1) tk3] } } : Shared).heap.IsSliceOf s3.heap.objs.size .none .none (.int (-1) tk3) := Heap.IsSliceOf.new ..
  refine tail_any (T := "list") (ops := [.ref a, .ref s3.heap.objs.size]) ht.isList.typeIs slot_list_getitem.lookup ?_ rfl
  refine wpAny_getItem_list_slice ht.isList sl .none .none (.int _ _) (by decide) ?_ (by rw [List.size_toArray]; omega)
  rw [PySem.W.krv_pick]
  refine ⟨.ref _, _, I4.laid (t' := s3.toks) (o := .lst xs.reverse) (fun b ob g => Heap.get?_push_of_some _ g) (Nat.le_refl _) ?_, rfl, q _ (I4.hok.fresh (Nat.le_refl _))⟩
  exact ⟨by rw [List.length_reverse]; omega, _, 0, r.reverse, Heap.get?_push_size _ rfl⟩
end
end StK

/-! data of one shape: <, <= and sorted; xs[:0:-1]; C(e, ..) that may raise -/
namespace DaS
open PySem PySem.Spec PyProof.Rows PySem.W L2
/-- two things of one shape, compared -/
def Two (K : PySem.W.Frag) (H : Hp) (x y : V) (d e : PyData) : Prop := Dp K H x d ∧ Dp K H y e ∧ alike d e = true ∧ d ≠ .none ∧ d.depth ≤ 64
def rLeD (K : PySem.W.Frag) : R2 := fun x y H Q => ∃ d e, Two K H x y d e ∧ Q (.bl (!dataLt e d)) H
def rLtD (K : PySem.W.Frag) : R2 := fun x y H Q => ∃ d e, Two K H x y d e ∧ Q (.bl (dataLt d e)) H
section
variable {X : Cx}
theorem op_leD (room : X.A.units + 64 < cLine) : OpR X (compareOp .LtE) (rLeD X.K) := by
  rintro pins s σ H x y v u Q I rx ry ⟨d, e, ⟨hd, he, al, nn, dp⟩, q⟩
  obtain ⟨as, reads1⟩ := Dp.reads I d x v hd rx
  obtain ⟨bs, reads2⟩ := Dp.reads I e y u he ry
  exact le_data reads1 reads2 al nn (by omega) ⟨.bl _, H, I, rfl, q⟩
theorem op_ltD (room : X.A.units + 64 < cLine) : OpR X (compareOp .Lt) (rLtD X.K) := by
  rintro pins s σ H x y v u Q I rx ry ⟨d, e, ⟨hd, he, al, nn, dp⟩, q⟩
  obtain ⟨as, reads1⟩ := Dp.reads I d x v hd rx
  obtain ⟨bs, reads2⟩ := Dp.reads I e y u he ry
  exact lt_data reads1 reads2 al nn (by omega) ⟨.bl _, H, I, rfl, q⟩
/-- sorted of a list of things of one shape -/
def rSortD (K : PySem.W.Frag) : List V → Hp → VK → Prop := fun vs H Q => ∃ (a : Addr) (bs : List (V × PyData)), vs = [.ref a] ∧ SqL K H a (bs.map Prod.fst) ∧ (∀ b ∈ bs, Dp K H b.1 b.2 ∧ b.2.depth ≤ 60) ∧ AllAlike (bs.map Prod.snd) ∧ Sortable (bs.map Prod.snd) ∧
  ∀ p, H p = none → Q (.ref p) (upd H p (.lst ((bs.mergeSort (dataLe false Prod.snd)).map Prod.fst)))
theorem each_vals {R : V × PyData → Prop} : ∀ {bs : List (V × PyData)} {us : List Value}, Vals (bs.map Prod.fst) us → (∀ b ∈ bs, R b) → EachIs (fun v b => RelV b.1 v ∧ R b) us bs
  | [], _, r, _ => by cases r; exact .nil
  | b :: bs, _, r, h => by
    cases r with
    | cons r1 r2 => exact .cons ⟨r1, h b (List.mem_cons_self ..)⟩ (each_vals r2 fun c hc => h c (List.mem_cons_of_mem _ hc))
theorem vals_each {R : V × PyData → Prop} : ∀ {bs : List (V × PyData)} {us : List Value}, EachIs (fun v b => RelV b.1 v ∧ R b) us bs → Vals (bs.map Prod.fst) us
  | _, _, .nil => .nil
  | _, _, .cons h t => .cons h.1 (vals_each t)
theorem each_mono {α β : Type} {R S : α → β → Prop} (h : ∀ a b, R a b → S a b) : ∀ {as : List α} {bs : List β}, EachIs R as bs → EachIs S as bs
  | _, _, .nil => .nil
  | _, _, .cons r t => .cons (h _ _ r) (each_mono h t)
theorem cr_sortD (room : X.A.units + 64 < cLine) : CallR X (.builtin "sorted") (rSortD X.K) := by
  rintro pins s σ H vs us Q I r ⟨a, bs, rfl, hs, hd, al, so, q⟩
  obtain ⟨its, rv, hl, hz⟩ := I.list hs
  rw [Vals.ref1 r]
  have ln : its.length = bs.length := by rw [← rv.length, List.length_map]
  rw [List.length_map] at hz
  have E1 := each_vals (R := fun b => b ∈ bs) rv fun b hb => hb
  refine sorted_data (enc := Prod.snd) hl.isList E1 (each_mono (fun v b rb => Dp.reads I b.2 b.1 v (hd b rb.2).1 rb.1) E1) al so hz (fun b hb => ?_) fun out lo eo => ?_
  · have := (hd b hb).2
    omega
  · obtain ⟨n, hn⟩ := sortedAll_at s.heap its out.toArray
    have rv2 := vals_each eo
    have kp : ∀ b o, s.heap.get? b = some o → (sortedAll s.heap its out.toArray).get? b = some o := fun b o e => sortedAll_old e
    have hz2 : ((bs.mergeSort (dataLe false Prod.snd)).map Prod.fst).length ≤ sizeLine := by
      rw [List.length_map, List.length_mergeSort]
      exact hz
    refine ⟨.ref (s.heap.objs.size + 1), upd H (s.heap.objs.size + 1) (.lst ((bs.mergeSort (dataLe false Prod.snd)).map Prod.fst)), I.laid (t' := s.toks) kp (Nat.le_succ _) ⟨hz2, out, n, rv2, hn⟩, rfl, q _ (I.hok.fresh (Nat.le_succ _))⟩
end
section
variable {X : Cx} {CX : CXT} {k : Nat} {f C : Addr} {fd : FuncData} {ps : List Str} {sp : Sp} {E : L2.St → XK} {x : Str} {p pos : Pos} {e : Expr} {es : List Expr} {t : TA}
/-- C(e, ..), its __init__ may raise -/
def tMakeP (C : Addr) (sp : Sp) (E : L2.St → XK) (t : TA) : TE := fun σ H Q => t σ H fun vs G => ∀ c dx, G c = none → G dx = none → dx ≠ c →
  sp (.ref c :: (vs ++ [])) (upd (upd G dx (.own c)) c (.ins C dx [])) (fun v G2 => v = .non ∧ Q (.ref c) G2) (E σ)
theorem pe_makeP (M : Mk X.K C f) (F : FnOk X.prog X.w X.K X.mg X.base CX k f fd ps sp) (room : Room (k + 1) X.A) (g : Gl X x) (m : X.mg x = some (.ref C)) (b : Binds X.K fd ps []) (pass : ∀ σ, PassesAt CX X σ (E σ)) (args : PA X (e :: es) t)
    (nodebug : (x == ("__debug__" : Str)) = false := by decide) (one : starEach (e :: es) X.env = (false, eval e X.env) :: starEach es X.env := by rfl) (more : (backTo pos (starEach es X.env)).any (·.1) = false := by rfl) :
    PE X (.Call (.Name x p) (e :: es) [] pos) (tMakeP C sp E t) := by
  constructor
  intro pins s σ H Q I had
  refine wpAny_Call_Name_kw (ld_glob I g m ?_ nodebug)
  refine PySem.W.callWith_K (h₀ := X.base) I.ok.mod.kin M.kp (thn (args.run pos pins s σ H _ I had) ?_) one more
  rintro us s1 ⟨vs, G, I1, rel, q⟩
  have free : ∀ c, s1.heap.objs.size ≤ c → G c = none := fun c le => I1.hok.fresh le
  have had1 := q (s1.heap.objs.size + 1) s1.heap.objs.size (free _ (Nat.le_succ _)) (free _ (Nat.le_refl _)) (Nat.ne_of_lt (Nat.lt_succ_self _))
  have I2 := Inv.made I1 (C := C)
  have rel2 : Vals (V.ref (s1.heap.objs.size + 1) :: (vs ++ [])) ((Value.ref (s1.heap.objs.size + 1) :: us) ++ []) := by
    rw [List.append_nil, List.append_nil]
    exact .cons rfl rel
  have len : ((Value.ref (s1.heap.objs.size + 1) :: us) ++ []).length = ps.length := by
    rw [← F.len _ _ _ _ had1]
    exact rel2.length.symm
  refine ⟨I1.kIn, wpAny_call (make_map (f := f) I1.kIn M.makes M.init (beq_iff_eq.mp M.fn) (codeAny_mono (F.run _ X.stack _ _ ⟨Value.ref (s1.heap.objs.size + 1) :: us, []⟩ ((Value.ref (s1.heap.objs.size + 1) :: us) ++ []) _ _ (E σ) (room.make C us [])
    (I2.env0.make C us []) (b _ _ I2.kIn len) rel2 had1) fun r s2 told => ?_))⟩
  match r, told with
  | .error er, told => exact pass σ pins _ _ er s2 I2 told
  | .ok (.ret u), told =>
    obtain ⟨v, G2, I3, ru, rfl, q2⟩ := I2.after told
    exact ⟨ru, V.ref (s1.heap.objs.size + 1), G2, I3, rfl, q2⟩
  | .ok .next, told => exact told.elim
  | .ok .brk, told => exact told.elim
  | .ok .cont, told => exact told.elim
end
end DaS
namespace DaS
open PySem PySem.Spec PyProof.Rows PySem.W L2
theorem low_range (n : Nat) : (List.range n).map (fun k => n - k) = ((List.range n).map (1 + ·)).reverse := by
  apply List.ext_getElem
  · simp
  · intro i h1 h2
    rw [List.length_map, List.length_range] at h1
    rw [List.getElem_map, List.getElem_range, List.getElem_reverse, List.getElem_map, List.getElem_range, List.length_map, List.length_range]
    omega
theorem low_bounds (n : Nat) : sliceBounds none (some 0) (some (-1)) n = ((n : Int) - 1, (if n = 0 then -1 else 0), -1) := by
  unfold sliceBounds
  show ((n : Int) - 1, max (-1) (min 0 ((n : Int) - 1)), (-1 : Int)) = _
  by_cases c : n = 0
  · rw [if_pos c, c]
    rfl
  · rw [if_neg c, show min (0 : Int) ((n : Int) - 1) = 0 by omega]
    rfl
theorem low_sliceRange (n : Nat) : sliceRange ((n : Int) - 1) (if n = 0 then -1 else 0) (-1) = (List.range (n - 1)).map fun k => n - 1 - k := by
  unfold sliceRange
  have h1 : ¬ ((-1 : Int) > 0) := by decide
  by_cases c : n = 0
  · subst c
    rfl
  · rw [if_neg c]
    by_cases h : (n : Int) - 1 > 0
    · have e : ((n : Int) - 1 - 0 - -1 - 1) / (- -1) = ((n - 1 : Nat) : Int) := by
        rw [show (- -1 : Int) = 1 by decide, Int.ediv_one]
        omega
      simp only [h1, if_false, h, if_true, e, Int.toNat_natCast]
      apply List.map_congr_left
      intro k hk
      have := List.mem_range.mp hk
      omega
    · have e : n = 1 := by omega
      subst e
      rfl
theorem low_pick (items : Array Value) : slicePick items none (some 0) (some (-1)) = items.toList.tail.reverse.toArray := by
  unfold slicePick
  rw [low_bounds]
  show ((sliceRange ((items.size : Int) - 1) (if items.size = 0 then -1 else 0) (-1)).filterMap (items[·]?)).toArray = _
  rw [low_sliceRange, low_range, List.filterMap_reverse, pick_run]
  congr 2
  rw [List.take_of_length_le (by rw [List.length_drop, Array.length_toList]; omega), List.drop_one]
section
variable {X : Cx} {e up st : Expr} {te tu tk : TE} {pos p2 : Pos}
/-- xs[:0:-1]: all but the first, backwards -/
def tLow (K : PySem.W.Frag) (te tu tk : TE) : TE := fun σ H Q => te σ H fun x H1 => tu σ H1 fun y H2 => y = .int 0 ∧ tk σ H2 fun z H3 => z = .int (-1) ∧ ∃ a xs, x = .ref a ∧ SqL K H3 a xs ∧ ∀ p, H3 p = none → Q (.ref p) (upd H3 p (.lst xs.tail.reverse))
theorem pe_low (he : PE X e te) (hu : PE X up tu) (hk : PE X st tk) : PE X (.Subscript e (.Slice none (some up) (some st) p2) pos) (tLow X.K te tu tk) := by
  refine ⟨fun pins s σ H Q I h => Subscript_ (thn (he.run pins s σ H _ I h) ?_)⟩
  rintro v s1 ⟨x, H1, I1, r1, q1⟩
  refine wpAny_Slice ?_
  rw [evalPart_none]
  refine wpAny_pure ?_
  rw [evalPart_some]
  refine thn (hu.run pins s1 σ H1 _ I1 q1) ?_
  rintro vu s2 ⟨y, H2, I2, ry, rfl, q2⟩
  rw [evalPart_some]
  refine thn (hk.run pins s2 σ H2 _ I2 q2) ?_
  rintro vk s3 ⟨z, H3, I3, rz, rfl, a, xs, rfl, hx, q⟩
  cases r1
  obtain ⟨tu3, rfl⟩ : ∃ t, vu = .int 0 t := by
    obtain ⟨t, e⟩ := ry
    exact ⟨t, e⟩
  obtain ⟨tk3, rfl⟩ : ∃ t, vk = .int (-1) t := by
    obtain ⟨t, e⟩ := rz
    exact ⟨t, e⟩
  have I4 : Inv X pins σ H3 { s3 with heap := s3.heap.push { cls := .type "slice", data := .fields #[.none, .int 0 tu3, .int (-1) tk3] } } := I3.kept (t' := s3.toks) fun b ob g => Heap.get?_push_of_some _ g
  obtain ⟨its, r, ht, hz⟩ := I4.list hx
  have rl := r.length
  have sl : ({ s3 with heap := s3.heap.push { cls := .type "slice", data := .fields #[.none, .int 0 tu3, .int (-1) tk3] } } : Shared).heap.IsSliceOf s3.heap.objs.size .none (.int 0 tu3) (.int (-1) tk3) := Heap.IsSliceOf.new ..
  refine tail_any (T := "list") (ops := [.ref a, .ref s3.heap.objs.size]) ht.isList.typeIs slot_list_getitem.lookup ?_ rfl
  refine wpAny_getItem_list_slice ht.isList sl .none (.int _ _) (.int _ _) (by decide) ?_ (by rw [List.size_toArray]; omega)
  rw [low_pick]
  have r' : Vals xs.tail its.tail := by
    cases r with
    | nil => exact .nil
    | cons _ r2 => exact r2
  refine ⟨.ref _, _, I4.laid (t' := s3.toks) (o := .lst xs.tail.reverse) (fun b ob g => Heap.get?_push_of_some _ g) (Nat.le_refl _) ?_, rfl, q _ (I4.hok.fresh (Nat.le_refl _))⟩
  exact ⟨by rw [List.length_reverse, List.length_tail]; omega, _, 0, r'.reverse, Heap.get?_push_size _ rfl⟩
end
end DaS

/-! states, walks along two states in turn, chains and rings -/
namespace Pv
open Pm
def gt (A : List Nat) (x : Nat) : Nat := A.getD x 0
/-- a state -/
structure Sta (A : List Nat) : Prop where
  lt : ∀ x, x < A.length → gt A x < A.length
  inv : ∀ x, x < A.length → gt A (gt A x) = x
def sel (A B : List Nat) (j : Nat) : List Nat := if j % 2 = 0 then A else B
theorem sel_len {A B : List Nat} (h : A.length = B.length) (j : Nat) : (sel A B j).length = A.length := by
  unfold sel
  split
  · rfl
  · exact h.symm
theorem sel_sta {A B : List Nat} (a : Sta A) (b : Sta B) (j : Nat) : Sta (sel A B j) := by
  unfold sel
  split
  · exact a
  · exact b
theorem sel_two {A B : List Nat} {i j : Nat} (h : i % 2 = j % 2) : sel A B i = sel A B j := by
  unfold sel
  rw [h]
/-- a walk that has not ended: from s along A and B in turn -/
structure Ptl (A B : List Nat) (s : Nat) (w : List Nat) : Prop where
  pos : 0 < w.length
  st : gt w 0 = s
  nd : w.Nodup
  lt : ∀ x ∈ w, x < A.length
  go : ∀ j, j + 1 < w.length → gt (sel A B j) (gt w j) = gt w (j + 1)
/-- a walk that has ended -/
structure Trl (A B : List Nat) (s : Nat) (w : List Nat) : Prop extends Ptl A B s w where
  fin : gt (sel A B (w.length - 1)) (gt w (w.length - 1)) = gt w (w.length - 1) ∨ gt (sel A B (w.length - 1)) (gt w (w.length - 1)) = s
theorem gt_mem {w : List Nat} {j : Nat} (h : j < w.length) : gt w j ∈ w := getD_mem h
theorem gt_inj {w : List Nat} (nd : w.Nodup) {i j : Nat} (hi : i < w.length) (hj : j < w.length) (h : gt w i = gt w j) : i = j := by
  unfold gt at h
  rw [List.getD_eq_getElem?_getD, List.getElem?_eq_getElem hi, List.getD_eq_getElem?_getD, List.getElem?_eq_getElem hj] at h
  exact (List.getElem_inj nd).mp h
theorem gt_append {w : List Nat} {y j : Nat} : gt (w ++ [y]) j = if j < w.length then gt w j else if j = w.length then y else 0 := by
  unfold gt
  rw [List.getD_eq_getElem?_getD, List.getElem?_append]
  split
  · rw [List.getD_eq_getElem?_getD]
  · rename_i c
    split
    · rename_i c2
      rw [c2, Nat.sub_self]
      rfl
    · rw [List.getElem?_eq_none (by simp; omega)]
      rfl
theorem nodup_len {w : List Nat} {n : Nat} (nd : w.Nodup) (lt : ∀ x ∈ w, x < n) : w.length ≤ n := by
  have hp : w.Perm ((List.range n).filter fun y => decide (y ∈ w)) := (List.perm_ext_iff_of_nodup nd (List.nodup_range.sublist List.filter_sublist)).mpr fun x => by
    rw [List.mem_filter, List.mem_range, decide_eq_true_eq]
    exact ⟨fun h => ⟨lt x h, h⟩, fun h => h.2⟩
  rw [hp.length_eq]
  exact Nat.le_trans (List.length_filter_le _ _) (by rw [List.length_range]; exact Nat.le_refl _)
/-- one step more -/
theorem Ptl.more {A B w : List Nat} {s : Nat} (h : A.length = B.length) (a : Sta A) (b : Sta B) (P : Ptl A B s w) (n1 : gt (sel A B (w.length - 1)) (gt w (w.length - 1)) ≠ gt w (w.length - 1)) (n2 : gt (sel A B (w.length - 1)) (gt w (w.length - 1)) ≠ s) :
    Ptl A B s (w ++ [gt (sel A B (w.length - 1)) (gt w (w.length - 1))]) := by
  have p := P.pos
  have hl := sel_len (A := A) (B := B) h
  have last := P.lt _ (gt_mem (show w.length - 1 < w.length by omega))
  have hy : gt (sel A B (w.length - 1)) (gt w (w.length - 1)) < A.length := by
    have := (sel_sta a b (w.length - 1)).lt _ (by rw [hl]; exact last)
    rw [hl] at this
    exact this
  refine ⟨by rw [List.length_append]; omega, ?_, ?_, fun x hx => ?_, fun j hj => ?_⟩
  · rw [gt_append, if_pos p]
    exact P.st
  · rw [List.nodup_append]
    refine ⟨P.nd, by simp, fun x hx y hy e => ?_⟩
    rw [List.mem_singleton.mp hy] at e
    obtain ⟨i, hi, hx⟩ := mem_getD hx
    have hx : gt w i = x := hx
    rw [← hx] at e
    by_cases c0 : i = 0
    · rw [c0, P.st] at e
      exact n2 e.symm
    · by_cases cl : i = w.length - 1
      · rw [cl] at e
        exact n1 e.symm
      · have hin := P.lt _ (gt_mem hi)
        have back : gt (sel A B (w.length - 1)) (gt w i) = gt w (w.length - 1) := by
          rw [e]
          exact (sel_sta a b _).inv _ (by rw [hl]; exact last)
        by_cases cp : (w.length - 1) % 2 = i % 2
        · rw [sel_two cp, P.go i (by omega)] at back
          have := gt_inj P.nd (by omega) (by omega) back
          omega
        · have e2 : gt (sel A B (i - 1)) (gt w i) = gt w (i - 1) := by
            have g := P.go (i - 1) (by omega)
            rw [show i - 1 + 1 = i by omega] at g
            rw [← g]
            exact (sel_sta a b _).inv _ (by rw [hl]; exact P.lt _ (gt_mem (by omega)))
          rw [sel_two (show (w.length - 1) % 2 = (i - 1) % 2 by omega), e2] at back
          have := gt_inj P.nd (by omega) (by omega) back
          omega
  · rcases List.mem_append.mp hx with hx | hx
    · exact P.lt x hx
    · rw [List.mem_singleton.mp hx]
      exact hy
  · rw [List.length_append, List.length_singleton] at hj
    rw [gt_append, if_pos (by omega), gt_append]
    by_cases c : j + 1 < w.length
    · rw [if_pos c]
      exact P.go j c
    · rw [if_neg c, if_pos (by omega), show w.length - 1 = j by omega]
theorem Ptl.ends {A B : List Nat} {s : Nat} (h : A.length = B.length) (a : Sta A) (b : Sta B) : ∀ (m : Nat) (w : List Nat), Ptl A B s w → A.length - w.length = m → ∃ w', Trl A B s w' := by
  intro m
  induction m with
  | zero =>
    intro w P hm
    by_cases c : gt (sel A B (w.length - 1)) (gt w (w.length - 1)) = gt w (w.length - 1) ∨ gt (sel A B (w.length - 1)) (gt w (w.length - 1)) = s
    · exact ⟨w, P, c⟩
    · have Q := P.more h a b (fun z => c (.inl z)) (fun z => c (.inr z))
      have := nodup_len Q.nd Q.lt
      rw [List.length_append, List.length_singleton] at this
      omega
  | succ m ih =>
    intro w P hm
    by_cases c : gt (sel A B (w.length - 1)) (gt w (w.length - 1)) = gt w (w.length - 1) ∨ gt (sel A B (w.length - 1)) (gt w (w.length - 1)) = s
    · exact ⟨w, P, c⟩
    · have Q := P.more h a b (fun z => c (.inl z)) (fun z => c (.inr z))
      exact ih _ Q (by rw [List.length_append, List.length_singleton]; omega)
theorem trl_ex {A B : List Nat} {s : Nat} (h : A.length = B.length) (a : Sta A) (b : Sta B) (hs : s < A.length) : ∃ w, Trl A B s w :=
  Ptl.ends h a b _ [s] ⟨Nat.succ_pos 0, rfl, by simp, fun x hx => by rw [List.mem_singleton.mp hx]; exact hs, fun j hj => absurd hj (by simp)⟩ rfl
theorem Trl.at_ {A B w w' : List Nat} {s : Nat} (T : Trl A B s w) (T' : Trl A B s w') : ∀ j, j < w.length → j < w'.length → gt w j = gt w' j
  | 0, _, _ => T.st.trans T'.st.symm
  | j + 1, h, h' => by rw [← T.go j h, ← T'.go j h', T.at_ T' j (by omega) (by omega)]
theorem Trl.le {A B w w' : List Nat} {s : Nat} (T : Trl A B s w) (T' : Trl A B s w') : w'.length ≤ w.length := by
  apply Nat.le_of_not_lt
  intro c
  have p := T.pos
  have e := T.at_ T' (w.length - 1) (by omega) (by omega)
  have g := T'.go (w.length - 1) (by omega)
  have f := T.fin
  rw [e, g] at f
  rcases f with f | f
  · have := gt_inj T'.nd (by omega) (by omega) f
    omega
  · rw [← T'.st] at f
    have := gt_inj T'.nd (by omega) (by omega) f
    omega
theorem ext_gt {w w' : List Nat} (hl : w.length = w'.length) (h : ∀ j, j < w.length → gt w j = gt w' j) : w = w' := by
  refine List.ext_getElem hl fun j h1 h2 => ?_
  have := h j h1
  unfold gt at this
  rw [List.getD_eq_getElem?_getD, List.getElem?_eq_getElem h1, List.getD_eq_getElem?_getD, List.getElem?_eq_getElem h2] at this
  exact this
theorem Trl.uniq {A B w w' : List Nat} {s : Nat} (T : Trl A B s w) (T' : Trl A B s w') : w = w' := by
  have hl := Nat.le_antisymm (T'.le T) (T.le T')
  exact ext_gt hl fun j hj => T.at_ T' j hj (by omega)
open Classical in
/-- the walk -/
noncomputable def walkF (A B : List Nat) (s : Nat) : List Nat := if h : ∃ w, Trl A B s w then Classical.choose h else []
theorem walkF_ok {A B : List Nat} {s : Nat} (h : ∃ w, Trl A B s w) : Trl A B s (walkF A B s) := by
  unfold walkF
  rw [dif_pos h]
  exact Classical.choose_spec h
theorem walkF_eq {A B w : List Nat} {s : Nat} (T : Trl A B s w) : walkF A B s = w := (walkF_ok ⟨w, T⟩).uniq T
/-- the part that holds x: a ring or not, its records -/
noncomputable def partF (A B : List Nat) (x : Nat) : Bool × List Nat :=
  if gt B x ∈ (walkF A B x).tail then (true, walkF A B x)
  else (false, if gt ((walkF B A x).tail.reverse ++ walkF A B x) 0 > gt ((walkF B A x).tail.reverse ++ walkF A B x) (((walkF B A x).tail.reverse ++ walkF A B x).length - 1) then ((walkF B A x).tail.reverse ++ walkF A B x).reverse else (walkF B A x).tail.reverse ++ walkF A B x)
noncomputable def partsF (A B : List Nat) : Nat → List (Bool × List Nat)
  | 0 => []
  | i + 1 => if gt A i ≠ gt B i ∧ i ∉ (partsF A B i).flatMap (·.2) then partsF A B i ++ [partF A B i] else partsF A B i
end Pv

/-! pieces laid out: free, pair, chain, ring -/
namespace Pv
open Pm
/-- a word, the records, which sort of link comes first -/
abbrev Pc := Nat × List Nat × Nat
/-- whom the k-th record shows in the row r -/
def nb (r w n s k : Nat) : Nat :=
  if w = 0 then k
  else if w = 1 then 1 - k
  else if (s + k) % 2 = r then (if k + 1 < n then k + 1 else if w = 3 then 0 else k)
  else (if 0 < k then k - 1 else if w = 3 then n - 1 else k)
structure PcOk (p : Pc) : Prop where
  w : p.1 < 4
  s : p.2.2 < 2
  nd : p.2.1.Nodup
  l0 : p.1 = 0 → p.2.1.length = 1
  l1 : p.1 = 1 → p.2.1.length = 2
  l2 : p.1 = 2 → 2 ≤ p.2.1.length
  l3 : p.1 = 3 → 4 ≤ p.2.1.length ∧ p.2.1.length % 2 = 0
def PcAt (A : List Nat) (r : Nat) (p : Pc) : Prop := ∀ k, k < p.2.1.length → gt A (gt p.2.1 k) = gt p.2.1 (nb r p.1 p.2.1.length p.2.2 k)
theorem PcOk.pos {p : Pc} (h : PcOk p) : 0 < p.2.1.length := by
  have h0 := h.l0
  have h1 := h.l1
  have h2 := h.l2
  have h3 := h.l3
  have hw := h.w
  omega
theorem nb_lt {p : Pc} (h : PcOk p) {r k : Nat} (hk : k < p.2.1.length) : nb r p.1 p.2.1.length p.2.2 k < p.2.1.length := by
  have h0 := h.l0
  have h1 := h.l1
  have h2 := h.l2
  have h3 := h.l3
  unfold nb
  split
  · exact hk
  · split
    · omega
    · split
      · split
        · omega
        · split <;> omega
      · split
        · omega
        · split <;> omega
theorem gt_drop {l : List Nat} {q j : Nat} : gt (l.drop q) j = gt l (q + j) := by
  unfold gt
  rw [List.getD_eq_getElem?_getD, List.getElem?_drop, List.getD_eq_getElem?_getD]
theorem gt_take {l : List Nat} {q j : Nat} (h : j < q) : gt (l.take q) j = gt l j := by
  unfold gt
  rw [List.getD_eq_getElem?_getD, List.getElem?_take_of_lt h, List.getD_eq_getElem?_getD]
theorem gt_app {l m : List Nat} {j : Nat} : gt (l ++ m) j = if j < l.length then gt l j else gt m (j - l.length) := by
  unfold gt
  rw [List.getD_eq_getElem?_getD, List.getElem?_append]
  split
  · rw [List.getD_eq_getElem?_getD]
  · rw [List.getD_eq_getElem?_getD]
theorem gt_rev {l : List Nat} {j : Nat} (h : j < l.length) : gt l.reverse j = gt l (l.length - 1 - j) := by
  unfold gt
  rw [List.getD_eq_getElem?_getD, List.getElem?_reverse h, List.getD_eq_getElem?_getD]
/-- a walk told by places -/
theorem trl_of {A B : List Nat} {p : Pc} {r q m : Nat} {ix : Nat → Nat} {W : List Nat} (ok : PcOk p) (hr : r < 2) (a : PcAt A r p) (b : PcAt B (1 - r) p) (lt : ∀ x ∈ p.2.1, x < A.length) (hm : 0 < m) (hl : W.length = m) (h0 : ix 0 = q)
    (hi : ∀ j, j < m → ix j < p.2.1.length) (inj : ∀ i j, i < m → j < m → ix i = ix j → i = j) (hW : ∀ j, j < m → gt W j = gt p.2.1 (ix j)) (go : ∀ j, j + 1 < m → nb ((r + j) % 2) p.1 p.2.1.length p.2.2 (ix j) = ix (j + 1))
    (fin : nb ((r + (m - 1)) % 2) p.1 p.2.1.length p.2.2 (ix (m - 1)) = ix (m - 1) ∨ nb ((r + (m - 1)) % 2) p.1 p.2.1.length p.2.2 (ix (m - 1)) = q) : Trl A B (gt p.2.1 q) W := by
  have row : ∀ j k, k < p.2.1.length → gt (sel A B j) (gt p.2.1 k) = gt p.2.1 (nb ((r + j) % 2) p.1 p.2.1.length p.2.2 k) := fun j k hk => by
    unfold sel
    by_cases c : j % 2 = 0
    · rw [if_pos c, show (r + j) % 2 = r by omega]
      exact a k hk
    · rw [if_neg c, show (r + j) % 2 = 1 - r by omega]
      exact b k hk
  refine ⟨⟨by omega, by rw [hW 0 hm, h0], ?_, fun x hx => ?_, fun j hj => ?_⟩, ?_⟩
  · rw [List.nodup_iff_pairwise_ne, List.pairwise_iff_getElem]
    intro i j hi' hj' hij e
    have ei : W[i] = gt W i := by
      unfold gt
      rw [List.getD_eq_getElem?_getD, List.getElem?_eq_getElem hi']
      rfl
    have ej : W[j] = gt W j := by
      unfold gt
      rw [List.getD_eq_getElem?_getD, List.getElem?_eq_getElem hj']
      rfl
    rw [ei, ej, hW i (by omega), hW j (by omega)] at e
    have := inj i j (by omega) (by omega) (gt_inj ok.nd (hi i (by omega)) (hi j (by omega)) e)
    omega
  · obtain ⟨j, hj, hx⟩ := mem_getD hx
    have hx : gt W j = x := hx
    rw [← hx, hW j (by omega)]
    exact lt _ (gt_mem (hi j (by omega)))
  · rw [hl] at hj
    rw [hW j (by omega), row j _ (hi j (by omega)), go j hj, hW (j + 1) hj]
  · rw [hl, hW (m - 1) (by omega), row _ _ (hi _ (by omega))]
    rcases fin with f | f
    · left
      rw [f]
    · right
      rw [f]
section
variable {A B : List Nat} {p : Pc} {r q : Nat}
theorem trl_up2 (ok : PcOk p) (hw : p.1 = 2) (hr : r < 2) (a : PcAt A r p) (b : PcAt B (1 - r) p) (lt : ∀ x ∈ p.2.1, x < A.length) (hq : q < p.2.1.length) (par : (p.2.2 + q) % 2 = r) : Trl A B (gt p.2.1 q) (p.2.1.drop q) := by
  refine trl_of (m := p.2.1.length - q) (ix := fun j => q + j) ok hr a b lt (by omega) (by rw [List.length_drop]) rfl (fun j hj => by show q + j < _; omega) (fun i j _ _ e => by have e : q + i = q + j := e; omega) (fun j _ => gt_drop) (fun j hj => ?_) (.inl ?_)
  · show nb _ _ _ _ (q + j) = q + (j + 1)
    unfold nb
    rw [if_neg (by omega), if_neg (by omega), if_pos (by omega), if_pos (by omega)]
    rfl
  · show nb _ _ _ _ (q + (p.2.1.length - q - 1)) = q + (p.2.1.length - q - 1)
    unfold nb
    rw [if_neg (by omega), if_neg (by omega), if_pos (by omega), if_neg (by omega), if_neg (by omega)]
theorem trl_dn2 (ok : PcOk p) (hw : p.1 = 2) (hr : r < 2) (a : PcAt A r p) (b : PcAt B (1 - r) p) (lt : ∀ x ∈ p.2.1, x < A.length) (hq : q < p.2.1.length) (par : (p.2.2 + q) % 2 ≠ r) : Trl A B (gt p.2.1 q) (p.2.1.take (q + 1)).reverse := by
  have tl : (p.2.1.take (q + 1)).length = q + 1 := by rw [List.length_take]; omega
  refine trl_of (m := q + 1) (ix := fun j => q - j) ok hr a b lt (by omega) (by rw [List.length_reverse, tl]) rfl (fun j hj => by show q - j < _; omega) (fun i j _ _ e => by have e : q - i = q - j := e; omega) (fun j hj => ?_) (fun j hj => ?_) (.inl ?_)
  · rw [gt_rev (by omega), tl, gt_take (by omega)]
    congr 1
  · show nb _ _ _ _ (q - j) = q - (j + 1)
    unfold nb
    rw [if_neg (by omega), if_neg (by omega), if_neg (by omega), if_pos (by omega)]
    omega
  · show nb _ _ _ _ (q - (q + 1 - 1)) = q - (q + 1 - 1)
    unfold nb
    rw [if_neg (by omega), if_neg (by omega), if_neg (by omega), if_neg (by omega), if_neg (by omega)]
theorem trl_up3 (ok : PcOk p) (hw : p.1 = 3) (hr : r < 2) (a : PcAt A r p) (b : PcAt B (1 - r) p) (lt : ∀ x ∈ p.2.1, x < A.length) (hq : q < p.2.1.length) (par : (p.2.2 + q) % 2 = r) : Trl A B (gt p.2.1 q) (p.2.1.drop q ++ p.2.1.take q) := by
  obtain ⟨n4, n2⟩ := ok.l3 hw
  have tl : (p.2.1.take q).length = q := by rw [List.length_take]; omega
  refine trl_of (m := p.2.1.length) (ix := fun j => if q + j < p.2.1.length then q + j else q + j - p.2.1.length) ok hr a b lt (by omega) (by rw [List.length_append, List.length_drop, tl]; omega) (by show (if q + 0 < _ then q + 0 else _) = q; rw [if_pos (by omega)]; rfl) (fun j hj => ?_) (fun i j hi hj e => ?_) (fun j hj => ?_) (fun j hj => ?_) (.inr ?_)
  · show (if q + j < p.2.1.length then q + j else q + j - p.2.1.length) < _
    split <;> omega
  · have e : (if q + i < p.2.1.length then q + i else q + i - p.2.1.length) = (if q + j < p.2.1.length then q + j else q + j - p.2.1.length) := e
    split at e <;> split at e <;> omega
  · show _ = gt p.2.1 (if q + j < p.2.1.length then q + j else q + j - p.2.1.length)
    rw [gt_app, List.length_drop]
    by_cases c : q + j < p.2.1.length
    · rw [if_pos (by omega), if_pos c, gt_drop]
    · rw [if_neg (by omega), if_neg c, gt_take (by omega)]
      congr 1
      omega
  · show nb _ _ _ _ (if q + j < p.2.1.length then q + j else q + j - p.2.1.length) = (if q + (j + 1) < p.2.1.length then q + (j + 1) else q + (j + 1) - p.2.1.length)
    unfold nb
    rw [if_neg (by omega), if_neg (by omega)]
    by_cases c : q + j < p.2.1.length
    · rw [if_pos c, if_pos (by omega)]
      by_cases c2 : q + j + 1 < p.2.1.length
      · rw [if_pos c2, if_pos (by omega)]
        omega
      · rw [if_neg c2, if_pos hw, if_neg (by omega)]
        omega
    · rw [if_neg c, if_pos (by omega), if_pos (by omega), if_neg (by omega)]
      omega
  · show nb _ _ _ _ (if q + (p.2.1.length - 1) < p.2.1.length then q + (p.2.1.length - 1) else q + (p.2.1.length - 1) - p.2.1.length) = q
    unfold nb
    rw [if_neg (by omega), if_neg (by omega)]
    by_cases c : q + (p.2.1.length - 1) < p.2.1.length
    · rw [if_pos c, if_pos (by omega), if_neg (by omega), if_pos hw]
      omega
    · rw [if_neg c, if_pos (by omega), if_pos (by omega)]
      omega
theorem trl_dn3 (ok : PcOk p) (hw : p.1 = 3) (hr : r < 2) (a : PcAt A r p) (b : PcAt B (1 - r) p) (lt : ∀ x ∈ p.2.1, x < A.length) (hq : q < p.2.1.length) (par : (p.2.2 + q) % 2 ≠ r) : Trl A B (gt p.2.1 q) ((p.2.1.take (q + 1)).reverse ++ (p.2.1.drop (q + 1)).reverse) := by
  obtain ⟨n4, n2⟩ := ok.l3 hw
  have tl : (p.2.1.take (q + 1)).length = q + 1 := by rw [List.length_take]; omega
  have dl : (p.2.1.drop (q + 1)).length = p.2.1.length - (q + 1) := by rw [List.length_drop]
  refine trl_of (m := p.2.1.length) (ix := fun j => if j ≤ q then q - j else q + p.2.1.length - j) ok hr a b lt (by omega) (by rw [List.length_append, List.length_reverse, List.length_reverse, tl, dl]; omega) (by show (if 0 ≤ q then q - 0 else _) = q; rw [if_pos (by omega)]; rfl) (fun j hj => ?_) (fun i j hi hj e => ?_) (fun j hj => ?_) (fun j hj => ?_) (.inr ?_)
  · show (if j ≤ q then q - j else q + p.2.1.length - j) < _
    split <;> omega
  · have e : (if i ≤ q then q - i else q + p.2.1.length - i) = (if j ≤ q then q - j else q + p.2.1.length - j) := e
    split at e <;> split at e <;> omega
  · show _ = gt p.2.1 (if j ≤ q then q - j else q + p.2.1.length - j)
    rw [gt_app, List.length_reverse, tl]
    by_cases c : j ≤ q
    · rw [if_pos (by omega), if_pos c, gt_rev (by omega), tl, gt_take (by omega)]
      congr 1
    · rw [if_neg (by omega), if_neg c, gt_rev (by omega), dl, gt_drop]
      congr 1
      omega
  · show nb _ _ _ _ (if j ≤ q then q - j else q + p.2.1.length - j) = (if j + 1 ≤ q then q - (j + 1) else q + p.2.1.length - (j + 1))
    unfold nb
    rw [if_neg (by omega), if_neg (by omega)]
    by_cases c : j ≤ q
    · rw [if_pos c, if_neg (by omega)]
      by_cases c2 : j = q
      · rw [if_neg (by omega), if_pos hw, if_neg (by omega)]
        omega
      · rw [if_pos (by omega), if_pos (by omega)]
        omega
    · rw [if_neg c, if_neg (by omega), if_pos (by omega), if_neg (by omega)]
      omega
  · show nb _ _ _ _ (if p.2.1.length - 1 ≤ q then q - (p.2.1.length - 1) else q + p.2.1.length - (p.2.1.length - 1)) = q
    unfold nb
    rw [if_neg (by omega), if_neg (by omega)]
    by_cases c : p.2.1.length - 1 ≤ q
    · rw [if_pos c, if_neg (by omega), if_neg (by omega), if_pos hw]
      omega
    · rw [if_neg c, if_neg (by omega), if_pos (by omega)]
      omega
end
end Pv

/-! the parts of pieces laid out -/
namespace Pv
open Pm
/-- how a chain or a ring is written -/
def canonP (A : List Nat) (p : Pc) : List Nat :=
  if p.1 = 2 then (if gt p.2.1 (p.2.1.length - 1) < gt p.2.1 0 then p.2.1.reverse else p.2.1)
  else if gt A (gt (p.2.1.drop (p.2.1.idxOf (mn p.2.1)) ++ p.2.1.take (p.2.1.idxOf (mn p.2.1))) 0) ≠ gt (p.2.1.drop (p.2.1.idxOf (mn p.2.1)) ++ p.2.1.take (p.2.1.idxOf (mn p.2.1))) 1
    then (p.2.1.drop (p.2.1.idxOf (mn p.2.1)) ++ p.2.1.take (p.2.1.idxOf (mn p.2.1))).take 1 ++ (p.2.1.drop (p.2.1.idxOf (mn p.2.1)) ++ p.2.1.take (p.2.1.idxOf (mn p.2.1))).tail.reverse
    else p.2.1.drop (p.2.1.idxOf (mn p.2.1)) ++ p.2.1.take (p.2.1.idxOf (mn p.2.1))
theorem take_succ' {l : List Nat} {q : Nat} (h : q < l.length) : l.take (q + 1) = l.take q ++ [gt l q] := by
  unfold gt
  rw [List.take_add_one, List.getElem?_eq_getElem h, List.getD_eq_getElem?_getD, List.getElem?_eq_getElem h]
  rfl
theorem drop_cons' {l : List Nat} {q : Nat} (h : q < l.length) : l.drop q = gt l q :: l.drop (q + 1) := by
  unfold gt
  rw [List.drop_eq_getElem_cons h, List.getD_eq_getElem?_getD, List.getElem?_eq_getElem h]
  rfl
theorem rev_take {l : List Nat} {q : Nat} (h : q < l.length) : (l.take (q + 1)).reverse = gt l q :: (l.take q).reverse := by
  rw [take_succ' h, List.reverse_append]
  rfl
section
variable {A B : List Nat} {p : Pc} {r q : Nat}
theorem gt_lt' (l : List Nat) {x : Nat} : (¬ gt l 0 > gt l (l.length - 1)) = ¬ gt l (l.length - 1) < gt l 0 := rfl
theorem idx_gt {l : List Nat} {x : Nat} (h : x ∈ l) : l.idxOf x < l.length ∧ gt l (l.idxOf x) = x := by
  have hl := List.idxOf_lt_length_of_mem h
  refine ⟨hl, ?_⟩
  unfold gt
  rw [List.getD_eq_getElem?_getD, List.getElem?_eq_getElem hl]
  exact List.getElem_idxOf hl
/-- a chain from its lesser end: the same from both ends -/
def lessE (l : List Nat) : List Nat := if gt l 0 > gt l (l.length - 1) then l.reverse else l
theorem lessE_rev {l : List Nat} (nd : l.Nodup) (h2 : 2 ≤ l.length) : lessE l.reverse = lessE l := by
  have hl : l.reverse.length = l.length := List.length_reverse
  unfold lessE
  rw [hl, gt_rev (by omega), gt_rev (by omega), show l.length - 1 - 0 = l.length - 1 by omega, show l.length - 1 - (l.length - 1) = 0 by omega, List.reverse_reverse]
  have ne : gt l 0 ≠ gt l (l.length - 1) := fun e => by
    have := gt_inj nd (by omega) (by omega) e
    omega
  by_cases c : gt l (l.length - 1) > gt l 0
  · rw [if_pos c, if_neg (by omega)]
  · rw [if_neg c, if_pos (by omega)]
theorem part_chain (ok : PcOk p) (hw : p.1 = 2) (hr : r < 2) (a : PcAt A r p) (b : PcAt B (1 - r) p) (hl : A.length = B.length) (lt : ∀ x ∈ p.2.1, x < A.length) (hq : q < p.2.1.length) : partF A B (gt p.2.1 q) = (false, lessE p.2.1) := by
  have n2 := ok.l2 hw
  have b' : PcAt A (1 - (1 - r)) p := by rw [show 1 - (1 - r) = r by omega]; exact a
  have lt' : ∀ x ∈ p.2.1, x < B.length := fun x hx => by rw [← hl]; exact lt x hx
  have other : gt B (gt p.2.1 q) = gt p.2.1 (nb (1 - r) p.1 p.2.1.length p.2.2 q) := b q hq
  have pars := ok.s
  by_cases c : (p.2.2 + q) % 2 = r
  · have w1 := walkF_eq (trl_up2 ok hw hr a b lt hq c)
    have w2 := walkF_eq (trl_dn2 ok hw (by omega) b b' lt' hq (by omega))
    have no : gt B (gt p.2.1 q) ∉ (p.2.1.drop q).tail := by
      rw [List.tail_drop, other]
      intro h
      obtain ⟨j, hj, e⟩ := mem_getD h
      rw [List.length_drop] at hj
      have e : gt (p.2.1.drop (q + 1)) j = _ := e
      rw [gt_drop] at e
      have e := gt_inj ok.nd (by omega) (nb_lt ok hq) e
      unfold nb at e
      rw [if_neg (by omega), if_neg (by omega), if_neg (by omega)] at e
      split at e
      · omega
      · rw [if_neg (by omega)] at e
        omega
    have row : (p.2.1.take (q + 1)).reverse.tail.reverse ++ p.2.1.drop q = p.2.1 := by
      rw [rev_take hq]
      show (p.2.1.take q).reverse.reverse ++ _ = _
      rw [List.reverse_reverse, List.take_append_drop]
    unfold partF
    rw [w1, w2, if_neg no, row]
    rfl
  · have w1 := walkF_eq (trl_dn2 ok hw hr a b lt hq c)
    have w2 := walkF_eq (trl_up2 ok hw (by omega) b b' lt' hq (by omega))
    have no : gt B (gt p.2.1 q) ∉ (p.2.1.take (q + 1)).reverse.tail := by
      rw [rev_take hq, other]
      show _ ∉ (p.2.1.take q).reverse
      rw [List.mem_reverse]
      intro h
      obtain ⟨j, hj, e⟩ := mem_getD h
      rw [List.length_take] at hj
      have e : gt (p.2.1.take q) j = _ := e
      rw [gt_take (by omega)] at e
      have e := gt_inj ok.nd (by omega) (nb_lt ok hq) e
      unfold nb at e
      rw [if_neg (by omega), if_neg (by omega), if_pos (by omega)] at e
      split at e
      · omega
      · rw [if_neg (by omega)] at e
        omega
    have row : (p.2.1.drop q).tail.reverse ++ (p.2.1.take (q + 1)).reverse = p.2.1.reverse := by
      rw [List.tail_drop, ← List.reverse_append, List.take_append_drop]
    unfold partF
    rw [w1, w2, if_neg no, row]
    exact congrArg (Prod.mk false) (lessE_rev ok.nd n2)
theorem part_ring (ok : PcOk p) (hw : p.1 = 3) (hr : r < 2) (a : PcAt A r p) (b : PcAt B (1 - r) p) (hl : A.length = B.length) (lt : ∀ x ∈ p.2.1, x < A.length) : partF A B (mn p.2.1) = (true, canonP A p) := by
  obtain ⟨n4, n2⟩ := ok.l3 hw
  have hm : mn p.2.1 ∈ p.2.1 := mn_mem (fun z => by rw [z] at n4; simp at n4)
  obtain ⟨hq, eq⟩ := idx_gt hm
  have pars := ok.s
  unfold canonP
  rw [if_neg (by omega)]
  generalize p.2.1.idxOf (mn p.2.1) = q at hq eq ⊢
  rw [← eq]
  have other : gt B (gt p.2.1 q) = gt p.2.1 (nb (1 - r) p.1 p.2.1.length p.2.2 q) := b q hq
  have mine : gt A (gt p.2.1 q) = gt p.2.1 (nb r p.1 p.2.1.length p.2.2 q) := a q hq
  have tl : (p.2.1.take q).length = q := by rw [List.length_take]; omega
  have f0 : gt (p.2.1.drop q ++ p.2.1.take q) 0 = gt p.2.1 q := by
    rw [gt_app, List.length_drop, if_pos (by omega), gt_drop]
    rfl
  have f1 : gt (p.2.1.drop q ++ p.2.1.take q) 1 = gt p.2.1 (if q + 1 < p.2.1.length then q + 1 else 0) := by
    rw [gt_app, List.length_drop]
    by_cases c : q + 1 < p.2.1.length
    · rw [if_pos (by omega), if_pos c, gt_drop]
    · rw [if_neg (by omega), if_neg c, gt_take (by omega)]
      congr 1
      omega
  have mem_at : ∀ k, k < p.2.1.length → k ≠ q → gt p.2.1 k ∈ p.2.1.drop (q + 1) ++ p.2.1.take q := fun k hk hn => by
    rw [List.mem_append]
    by_cases c : k < q
    · right
      have : gt (p.2.1.take q) k = gt p.2.1 k := gt_take c
      rw [← this]
      exact gt_mem (by omega)
    · left
      have : gt (p.2.1.drop (q + 1)) (k - (q + 1)) = gt p.2.1 k := by
        rw [gt_drop]
        congr 1
        omega
      rw [← this]
      exact gt_mem (by rw [List.length_drop]; omega)
  have nbne : ∀ r', nb r' p.1 p.2.1.length p.2.2 q ≠ q := fun r' => by
    unfold nb
    rw [if_neg (by omega), if_neg (by omega)]
    split
    · split
      · omega
      · omega
    · split
      · omega
      · omega
  by_cases c : (p.2.2 + q) % 2 = r
  · have w1 := walkF_eq (trl_up3 ok hw hr a b lt hq c)
    have e1 : gt A (gt p.2.1 q) = gt p.2.1 (if q + 1 < p.2.1.length then q + 1 else 0) := by
      rw [mine]
      unfold nb
      rw [if_neg (by omega), if_neg (by omega), if_pos c]
      split <;> rfl
    rw [f0, f1, if_neg (fun h => h e1)]
    unfold partF
    rw [w1, if_pos]
    rw [drop_cons' hq]
    show _ ∈ p.2.1.drop (q + 1) ++ p.2.1.take q
    rw [other]
    exact mem_at _ (nb_lt ok hq) (nbne _)
  · have w1 := walkF_eq (trl_dn3 ok hw hr a b lt hq c)
    have e1 : gt A (gt p.2.1 q) ≠ gt p.2.1 (if q + 1 < p.2.1.length then q + 1 else 0) := by
      rw [mine]
      intro e
      have e := gt_inj ok.nd (nb_lt ok hq) (by split <;> omega) e
      unfold nb at e
      rw [if_neg (by omega), if_neg (by omega), if_neg c] at e
      split at e
      · split at e <;> omega
      · split at e <;> omega
    rw [f0, f1, if_pos e1]
    unfold partF
    rw [w1, rev_take hq, if_pos]
    · rw [drop_cons' hq]
      show _ = (true, [gt p.2.1 q] ++ (p.2.1.drop (q + 1) ++ p.2.1.take q).reverse)
      rw [List.reverse_append]
      rfl
    · show _ ∈ (p.2.1.take q).reverse ++ (p.2.1.drop (q + 1)).reverse
      rw [← List.reverse_append, List.mem_reverse, other]
      exact mem_at _ (nb_lt ok hq) (nbne _)
end
end Pv

/-! the parts of two states put together of pieces; gains and entries -/
namespace Pv
open Pm
theorem uniqF {α : Type} {f : α → List Nat} : ∀ {ps : List α} {p q : α} {x : Nat}, (ps.flatMap f).Nodup → p ∈ ps → q ∈ ps → x ∈ f p → x ∈ f q → p = q
  | [], p, q, x, _, hp, _, _, _ => by cases hp
  | a :: ps, p, q, x, nd, hp, hq, xp, xq => by
    rw [List.flatMap_cons, List.nodup_append] at nd
    rcases List.mem_cons.mp hp with e1 | m1
    · rcases List.mem_cons.mp hq with e2 | m2
      · rw [e1, e2]
      · rw [e1] at xp
        exact absurd rfl (nd.2.2 x xp x (List.mem_flatMap.mpr ⟨q, m2, xq⟩))
    · rcases List.mem_cons.mp hq with e2 | m2
      · rw [e2] at xq
        exact absurd rfl (nd.2.2 x xq x (List.mem_flatMap.mpr ⟨p, m1, xp⟩))
      · exact uniqF nd.2.1 m1 m2 xp xq
theorem nb_cr {r w n s k : Nat} (h : 1 < w) : nb r w n s k = if (s + k) % 2 = r then (if k + 1 < n then k + 1 else if w = 3 then 0 else k) else (if 0 < k then k - 1 else if w = 3 then n - 1 else k) := by
  unfold nb
  rw [if_neg (by omega), if_neg (by omega)]
structure Bl (A B : List Nat) (f : Nat) (ps : List Pc) (n : Nat) : Prop where
  la : A.length = n
  lb : B.length = n
  hf : f < 2
  perm : (ps.flatMap (·.2.1)).Perm (List.range n)
  ok : ∀ p ∈ ps, PcOk p
  at_ : ∀ p ∈ ps, PcAt A f p ∧ PcAt B (1 - f) p
theorem Bl.swap {A B : List Nat} {f n : Nat} {ps : List Pc} (b : Bl A B f ps n) : Bl B A (1 - f) ps n :=
  ⟨b.lb, b.la, by omega, b.perm, b.ok, fun p hp => ⟨(b.at_ p hp).2, by rw [show 1 - (1 - f) = f by have := b.hf; omega]; exact (b.at_ p hp).1⟩⟩
def isCR (p : Pc) : Bool := decide (1 < p.1)
def atJ (ps : List Pc) (x : Nat) : Option Pc := ps.find? fun p => isCR p && decide (mn p.2.1 = x)
def psJ (ps : List Pc) (j : Nat) : List Pc := (List.range j).filterMap (atJ ps)
theorem psJ_step {ps : List Pc} {j : Nat} : psJ ps (j + 1) = psJ ps j ++ (match atJ ps j with | none => [] | some b => [b]) := by
  unfold psJ
  rw [List.range_succ, List.filterMap_append]
  congr 1
  rw [List.filterMap_cons, List.filterMap_nil]
  cases atJ ps j <;> rfl
def outP (A : List Nat) (p : Pc) : Bool × List Nat := (decide (p.1 = 3), canonP A p)
theorem canonP_perm {A : List Nat} {p : Pc} : (canonP A p).Perm p.2.1 := by
  have ring : (p.2.1.drop (p.2.1.idxOf (mn p.2.1)) ++ p.2.1.take (p.2.1.idxOf (mn p.2.1))).Perm p.2.1 := by
    refine List.perm_append_comm.trans ?_
    rw [List.take_append_drop]
  unfold canonP
  split
  · split
    · exact List.reverse_perm _
    · exact .refl _
  · split
    · refine List.Perm.trans ?_ ring
      generalize p.2.1.drop (p.2.1.idxOf (mn p.2.1)) ++ p.2.1.take (p.2.1.idxOf (mn p.2.1)) = l
      cases l with
      | nil => exact .refl _
      | cons a l => exact (List.reverse_perm l).cons a
    · exact ring
section
variable {A B : List Nat} {f n : Nat} {ps : List Pc}
theorem Bl.nd (b : Bl A B f ps n) : (ps.flatMap (·.2.1)).Nodup := b.perm.nodup_iff.mpr List.nodup_range
theorem Bl.lt (b : Bl A B f ps n) {p : Pc} (hp : p ∈ ps) : ∀ x ∈ p.2.1, x < n := fun x hx => List.mem_range.mp (b.perm.mem_iff.mp (List.mem_flatMap.mpr ⟨p, hp, hx⟩))
theorem Bl.own (b : Bl A B f ps n) {x : Nat} (hx : x < n) : ∃ p ∈ ps, x ∈ p.2.1 := List.mem_flatMap.mp (b.perm.mem_iff.mpr (List.mem_range.mpr hx))
theorem Bl.uq (b : Bl A B f ps n) {p q : Pc} {x : Nat} (hp : p ∈ ps) (hq : q ∈ ps) (h1 : x ∈ p.2.1) (h2 : x ∈ q.2.1) : p = q := uniqF b.nd hp hq h1 h2
theorem mn_in {p : Pc} (ok : PcOk p) : mn p.2.1 ∈ p.2.1 := mn_mem (fun z => by have := ok.pos; rw [z] at this; simp at this)
theorem atJ_some {x : Nat} {p : Pc} (h : atJ ps x = some p) : p ∈ ps ∧ 1 < p.1 ∧ mn p.2.1 = x := by
  unfold atJ at h
  have h1 := List.mem_of_find?_eq_some h
  have h2 := List.find?_some h
  rw [Bool.and_eq_true] at h2
  exact ⟨h1, of_decide_eq_true h2.1, of_decide_eq_true h2.2⟩
theorem Bl.atJ_is (b : Bl A B f ps n) {p : Pc} (hp : p ∈ ps) (h1 : 1 < p.1) : atJ ps (mn p.2.1) = some p := by
  cases h : atJ ps (mn p.2.1) with
  | none =>
    unfold atJ at h
    have := List.find?_eq_none.mp h p hp
    rw [show isCR p = true from decide_eq_true h1, decide_eq_true rfl] at this
    exact absurd rfl this
  | some q =>
    obtain ⟨hq, h2, h3⟩ := atJ_some h
    have e : q = p := b.uq hq hp (h3 ▸ mn_in (b.ok q hq)) (mn_in (b.ok p hp))
    rw [e]
theorem Bl.parts (b : Bl A B f ps n) : ∀ i, i ≤ n → partsF A B i = (psJ ps i).map (outP A)
  | 0, _ => rfl
  | i + 1, h => by
    have ih := b.parts i (by omega)
    have hi : i < n := h
    obtain ⟨p, hp, hx⟩ := b.own hi
    have ok := b.ok p hp
    obtain ⟨aA, aB⟩ := b.at_ p hp
    obtain ⟨q, hq, eq⟩ := mem_getD hx
    have eq : gt p.2.1 q = i := eq
    have hw4 := ok.w
    have hs := ok.s
    have hf := b.hf
    have seen : i ∈ (partsF A B i).flatMap (·.2) ↔ 1 < p.1 ∧ mn p.2.1 < i := by
      rw [ih, List.mem_flatMap]
      constructor
      · rintro ⟨c, hc, hic⟩
        obtain ⟨p', hp', rfl⟩ := List.mem_map.mp hc
        obtain ⟨x, hxr, hxs⟩ := List.mem_filterMap.mp hp'
        obtain ⟨m1, m2, m3⟩ := atJ_some hxs
        have hic : i ∈ p'.2.1 := canonP_perm.mem_iff.mp hic
        have := b.uq m1 hp hic hx
        subst this
        rw [m3]
        exact ⟨m2, List.mem_range.mp hxr⟩
      · rintro ⟨h1, h2⟩
        exact ⟨outP A p, List.mem_map.mpr ⟨p, List.mem_filterMap.mpr ⟨_, List.mem_range.mpr h2, b.atJ_is hp h1⟩, rfl⟩, canonP_perm.mem_iff.mpr hx⟩
    show (if gt A i ≠ gt B i ∧ i ∉ (partsF A B i).flatMap (·.2) then partsF A B i ++ [partF A B i] else partsF A B i) = _
    have eA : gt A i = gt p.2.1 (nb f p.1 p.2.1.length p.2.2 q) := by rw [← eq]; exact aA q hq
    have eB : gt B i = gt p.2.1 (nb (1 - f) p.1 p.2.1.length p.2.2 q) := by rw [← eq]; exact aB q hq
    rw [psJ_step]
    by_cases c1 : 1 < p.1
    · have differ : gt A i ≠ gt B i := by
        rw [eA, eB]
        intro e
        have e := gt_inj ok.nd (nb_lt ok hq) (nb_lt ok hq) e
        have l2 := ok.l2
        have l3 := ok.l3
        have np : nb f p.1 p.2.1.length p.2.2 q ≠ nb (1 - f) p.1 p.2.1.length p.2.2 q := by
          rw [nb_cr c1, nb_cr c1]
          by_cases par : (p.2.2 + q) % 2 = f
          · have p2 : ¬ (p.2.2 + q) % 2 = 1 - f := by omega
            rw [if_pos par, if_neg p2]
            by_cases c3 : p.1 = 3
            · obtain ⟨n4, n2⟩ := l3 c3
              rw [if_pos c3, if_pos c3]
              by_cases d1 : q + 1 < p.2.1.length
              · rw [if_pos d1]
                split <;> omega
              · rw [if_neg d1, if_pos (show 0 < q by omega)]
                omega
            · have := l2 (by omega)
              rw [if_neg c3, if_neg c3]
              by_cases d1 : q + 1 < p.2.1.length
              · rw [if_pos d1]
                split <;> omega
              · rw [if_neg d1, if_pos (show 0 < q by omega)]
                omega
          · have p2 : (p.2.2 + q) % 2 = 1 - f := by omega
            rw [if_neg par, if_pos p2]
            by_cases c3 : p.1 = 3
            · obtain ⟨n4, n2⟩ := l3 c3
              rw [if_pos c3, if_pos c3]
              by_cases d1 : q + 1 < p.2.1.length
              · rw [if_pos d1]
                split <;> omega
              · rw [if_neg d1, if_pos (show 0 < q by omega)]
                omega
            · have := l2 (by omega)
              rw [if_neg c3, if_neg c3]
              by_cases d1 : q + 1 < p.2.1.length
              · rw [if_pos d1]
                split <;> omega
              · rw [if_neg d1, if_pos (show 0 < q by omega)]
                omega
        exact np e
      by_cases cm : mn p.2.1 = i
      · have at_i : atJ ps i = some p := by rw [← cm]; exact b.atJ_is hp c1
        rw [at_i, if_pos ⟨differ, fun h => by have := (seen.mp h).2; omega⟩, ih, List.map_append]
        congr 1
        show [partF A B i] = [outP A p]
        congr 1
        have lA : ∀ x ∈ p.2.1, x < A.length := fun x hx => by rw [b.la]; exact b.lt hp x hx
        by_cases c3 : p.1 = 3
        · rw [← cm, part_ring ok c3 hf aA aB (b.la.trans b.lb.symm) lA]
          unfold outP
          rw [decide_eq_true c3]
        · rw [← eq, part_chain ok (by omega) hf aA aB (b.la.trans b.lb.symm) lA hq]
          unfold outP canonP
          rw [decide_eq_false c3, if_pos (by omega)]
          rfl
      · have lt_i : mn p.2.1 < i := by
          have := mn_le hx
          omega
        have at_i : atJ ps i = none := by
          cases h : atJ ps i with
          | none => rfl
          | some p' =>
            obtain ⟨m1, m2, m3⟩ := atJ_some h
            have := b.uq m1 hp (m3 ▸ mn_in (b.ok p' m1)) hx
            subst this
            exact absurd m3 cm
        rw [at_i, if_neg (fun h => h.2 (seen.mpr ⟨c1, lt_i⟩)), ih, List.append_nil]
    · have same : gt A i = gt B i := by
        rw [eA, eB]
        unfold nb
        by_cases c0 : p.1 = 0
        · rw [if_pos c0, if_pos c0]
        · rw [if_neg c0, if_neg c0, if_pos (by omega), if_pos (by omega)]
      have at_i : atJ ps i = none := by
        cases h : atJ ps i with
        | none => rfl
        | some p' =>
          obtain ⟨m1, m2, m3⟩ := atJ_some h
          have := b.uq m1 hp (m3 ▸ mn_in (b.ok p' m1)) hx
          subst this
          exact absurd m2 c1
      rw [at_i, if_neg (fun h => h.1 same), ih, List.append_nil]
theorem Bl.psJ_perm (b : Bl A B f ps n) : (psJ ps n).Perm (ps.filter isCR) := by
  have nd1 : (psJ ps n).Nodup := by
    have srt : (psJ ps n).Pairwise fun p q => mn p.2.1 < mn q.2.1 := by
      unfold psJ
      rw [List.pairwise_filterMap]
      refine List.Pairwise.imp ?_ List.pairwise_lt_range
      intro x y hxy p hp q hq
      have h1 := (atJ_some hp).2.2
      have h2 := (atJ_some hq).2.2
      omega
    exact srt.imp fun {p q} h z => by rw [z] at h; exact Nat.lt_irrefl _ h
  have nd2 : ps.Nodup := by
    have g : ∀ qs : List Pc, (qs.flatMap (·.2.1)).Nodup → (∀ p ∈ qs, PcOk p) → qs.Nodup := fun qs => by
      induction qs with
      | nil => exact fun _ _ => List.nodup_nil
      | cons a qs ih =>
        intro nd ok
        rw [List.flatMap_cons, List.nodup_append] at nd
        refine List.nodup_cons.mpr ⟨fun h => ?_, ih nd.2.1 fun p hp => ok p (List.mem_cons_of_mem _ hp)⟩
        have m := mn_in (ok a (List.mem_cons_self ..))
        exact nd.2.2 _ m _ (List.mem_flatMap.mpr ⟨a, h, m⟩) rfl
    exact g ps b.nd b.ok
  refine (List.perm_ext_iff_of_nodup nd1 (nd2.sublist List.filter_sublist)).mpr fun p => ?_
  rw [List.mem_filter]
  constructor
  · intro h
    obtain ⟨x, _, hx⟩ := List.mem_filterMap.mp h
    obtain ⟨m1, m2, _⟩ := atJ_some hx
    exact ⟨m1, decide_eq_true m2⟩
  · rintro ⟨h1, h2⟩
    exact List.mem_filterMap.mpr ⟨mn p.2.1, List.mem_range.mpr (b.lt h1 _ (mn_in (b.ok p h1))), b.atJ_is h1 (of_decide_eq_true h2)⟩
end
/-! gains -/
def cntA (A l : List Nat) : Nat := (l.filter fun x => decide (gt A x ≠ x)).length
def gainF (A B l : List Nat) : Int := ((cntA B l : Int) - (cntA A l : Int)) / 2
def cntF (r w n s : Nat) : Nat := ((List.range n).filter fun k => decide (nb r w n s k ≠ k)).length
theorem gain_tab : ((List.range 65).all fun n => (List.range 2).all fun s => (List.range 2).all fun f => decide (n < 2) || (((cntF (1 - f) 2 n s : Int) - (cntF f 2 n s : Int)) / 2 == if n % 2 = 1 then 0 else if s = f then -1 else 1)) = true := by decide +kernel
theorem line_map {l : List Nat} : l = (List.range l.length).map (gt l) := by
  refine List.ext_getElem (by simp) fun j h1 h2 => ?_
  rw [List.getElem_map, List.getElem_range]
  unfold gt
  rw [List.getD_eq_getElem?_getD, List.getElem?_eq_getElem h1]
  rfl
theorem cnt_line {A : List Nat} {p : Pc} {r : Nat} (ok : PcOk p) (a : PcAt A r p) : cntA A p.2.1 = cntF r p.1 p.2.1.length p.2.2 := by
  unfold cntA cntF
  conv => lhs; rw [line_map (l := p.2.1)]
  rw [List.filter_map, List.length_map]
  congr 1
  refine List.filter_congr fun k hk => ?_
  have hk := List.mem_range.mp hk
  show decide (gt A (gt p.2.1 k) ≠ gt p.2.1 k) = _
  rw [a k hk]
  rw [Bool.eq_iff_iff, decide_eq_true_eq, decide_eq_true_eq]
  constructor
  · intro h e
    rw [e] at h
    exact h rfl
  · intro h e
    exact h (gt_inj ok.nd (nb_lt ok hk) hk e)
def dueG (f : Nat) (p : Pc) : Int := if p.1 = 3 then 0 else if p.2.1.length % 2 = 1 then 0 else if p.2.2 = f then -1 else 1
theorem cnt_perm {A l m : List Nat} (h : l.Perm m) : cntA A l = cntA A m := (h.filter _).length_eq
theorem gain_is {A B : List Nat} {p : Pc} {f : Nat} (ok : PcOk p) (hf : f < 2) (h1 : 1 < p.1) (h64 : p.2.1.length ≤ 64) (a : PcAt A f p) (b : PcAt B (1 - f) p) {l : List Nat} (hl : l.Perm p.2.1) : gainF A B l = dueG f p := by
  unfold gainF dueG
  rw [cnt_perm hl, cnt_perm hl, cnt_line ok a, cnt_line ok b]
  have hw := ok.w
  by_cases c3 : p.1 = 3
  · obtain ⟨n4, n2⟩ := ok.l3 c3
    rw [if_pos c3]
    have all : ∀ r, cntF r p.1 p.2.1.length p.2.2 = p.2.1.length := fun r => by
      unfold cntF
      rw [List.filter_eq_self.mpr, List.length_range]
      intro k hk
      have hk := List.mem_range.mp hk
      refine decide_eq_true ?_
      unfold nb
      rw [if_neg (by omega), if_neg (by omega)]
      split <;> split <;> omega
    rw [all, all, Int.sub_self]
    rfl
  · have n2 := ok.l2 (by omega)
    have hs := ok.s
    rw [if_neg c3, show p.1 = 2 by omega]
    have t := gain_tab
    rw [List.all_eq_true] at t
    have t := t p.2.1.length (List.mem_range.mpr (by omega))
    rw [List.all_eq_true] at t
    have t := t p.2.2 (List.mem_range.mpr hs)
    rw [List.all_eq_true] at t
    have t := t f (List.mem_range.mpr hf)
    rw [decide_eq_false (by omega), Bool.false_or] at t
    exact beq_iff_eq.mp t
/-! entries -/
abbrev Ent := Nat × Int × Int
def entO (A B : List Nat) (c : Bool × List Nat) : Ent := (if c.1 then 1 else 0, (c.2.length : Int), gainF A B c.2)
noncomputable def entsF (A B : List Nat) (n : Nat) : List Ent := (partsF A B n).map (entO A B)
def entD (f : Nat) (p : Pc) : Ent := (if p.1 = 3 then 1 else 0, (p.2.1.length : Int), dueG f p)
def entsD (f : Nat) (ps : List Pc) : List Ent := (ps.filter isCR).map (entD f)
theorem Bl.ents {A B : List Nat} {f n : Nat} {ps : List Pc} (b : Bl A B f ps n) (h64 : n ≤ 64) : (entsF A B n).Perm (entsD f ps) := by
  unfold entsF entsD
  rw [b.parts n (Nat.le_refl _), List.map_map]
  have e : (psJ ps n).map (entO A B ∘ outP A) = (psJ ps n).map (entD f) := by
    refine List.map_congr_left fun p hp => ?_
    obtain ⟨x, _, hx⟩ := List.mem_filterMap.mp hp
    obtain ⟨m1, m2, _⟩ := atJ_some hx
    have len : p.2.1.length ≤ 64 := Nat.le_trans (nodup_len (b.ok p m1).nd (b.lt m1)) h64
    obtain ⟨aA, aB⟩ := b.at_ p m1
    show entO A B (outP A p) = entD f p
    unfold entO entD outP
    show ((if decide (p.1 = 3) = true then 1 else 0 : Nat), ((canonP A p).length : Int), gainF A B (canonP A p)) = _
    rw [gain_is (b.ok p m1) b.hf m2 len aA aB canonP_perm, canonP_perm.length_eq]
    by_cases c3 : p.1 = 3
    · rw [decide_eq_true c3, if_pos rfl, if_pos c3]
    · rw [decide_eq_false c3, if_neg c3]
      rfl
  rw [e]
  exact b.psJ_perm.map _
end Pv

namespace Pv
open PySem L2 Evl Pm
def nI (xs : List Nat) : List V := xs.map fun x : Nat => V.int (x : Int)
def ListN (H : Hp) (p : Addr) (xs : List Nat) : Prop := H p = some (.lst (nI xs))
theorem nI_len (xs : List Nat) : (nI xs).length = xs.length := List.length_map ..
theorem ListN.sz {K : PySem.W.Frag} {H : Hp} {p : Addr} {xs : List Nat} (h : ListN H p xs) : SqL K H p (nI xs) := SqL.of h
theorem ListN.ex {H H1 : Hp} {a : Addr} {xs : List Nat} (e : Ex H H1) (h : ListN H a xs) : ListN H1 a xs := e a _ h
theorem nat_at {ns : List Nat} {i : Nat} {y : V} (h : (nI ns)[i]? = some y) : i < ns.length ∧ y = V.int ((ns.getD i 0 : Nat) : Int) := by
  unfold nI at h
  rw [List.getElem?_map] at h
  cases e : ns[i]? with
  | none =>
    rw [e] at h
    cases h
  | some z =>
    rw [e] at h
    refine ⟨(List.getElem?_eq_some_iff.mp e).1, ?_⟩
    rw [List.getD_eq_getElem?_getD, e]
    exact (Option.some.inj h).symm
theorem ixN_ {xs : List Nat} {j : Nat} (h : j < xs.length) : (nI xs)[j]? = some (V.int ((xs.getD j 0 : Nat) : Int)) := by
  unfold nI
  rw [List.getElem?_map, List.getD_eq_getElem?_getD, List.getElem?_eq_getElem h]
  rfl
theorem atN {xs : List Nat} {j : Nat} (h : j < xs.length) : atI (nI xs) (j : Int) = some (V.int ((xs.getD j 0 : Nat) : Int)) := atI_nat (ixN_ h)
theorem ex_new {H H1 : Hp} {p : Addr} {o : HO} (e : Ex H H1) (h : H1 p = none) : Ex H (upd H1 p o) := e.trans (Ex.new h)
theorem nI_app {xs : List Nat} {v : Nat} : nI (xs ++ [v]) = nI xs ++ [V.int (v : Int)] := by
  unfold nI
  rw [List.map_append]
  rfl
theorem acc_step {G H' : Hp} {D : Addr} {ls : List Nat} {v : Nat} (hD : G D = none) (e : Ex G H') : Ex G (upd H' D (.lst (nI ls ++ [V.int (v : Int)]))) ∧ ListN (upd H' D (.lst (nI ls ++ [V.int (v : Int)]))) D (ls ++ [v]) := by
  refine ⟨fun b o hb => ?_, ?_⟩
  · rw [upd_ne (ne_of_none hb hD)]
    exact e b o hb
  · show upd H' D _ D = _
    rw [upd_same, nI_app]
theorem take_map_succ {xs : List Nat} {j : Nat} (h : j < xs.length) (f : Nat → Nat) : (xs.take (j + 1)).map f = (xs.take j).map f ++ [f (xs.getD j 0)] := by
  rw [List.take_add_one, List.getElem?_eq_getElem h, List.map_append, List.getD_eq_getElem?_getD, List.getElem?_eq_getElem h]
  rfl
theorem take_succ {xs : List Nat} {j : Nat} (h : j < xs.length) : xs.take (j + 1) = xs.take j ++ [xs.getD j 0] := by
  rw [List.take_add_one, List.getElem?_eq_getElem h, List.getD_eq_getElem?_getD, List.getElem?_eq_getElem h]
  rfl
theorem take_filter_pos {xs : List Nat} {j : Nat} (h : j < xs.length) {q : Nat → Bool} (c : q (xs.getD j 0) = true) : (xs.take (j + 1)).filter q = (xs.take j).filter q ++ [xs.getD j 0] := by
  rw [take_succ h, List.filter_append, List.filter_cons, if_pos c]
  rfl
theorem take_filter_neg {xs : List Nat} {j : Nat} (h : j < xs.length) {q : Nat → Bool} (c : q (xs.getD j 0) = false) : (xs.take (j + 1)).filter q = (xs.take j).filter q := by
  rw [take_succ h, List.filter_append, List.filter_cons, if_neg (by rw [c]; decide)]
  exact List.append_nil _
theorem flat_nI : ∀ xs : List Nat, (nI xs).all flatV = true
  | [] => rfl
  | _ :: xs => flat_nI xs
theorem inV_nI {x : Nat} : ∀ xs : List Nat, inV (V.int (x : Int)) (nI xs) = xs.contains x
  | [] => rfl
  | y :: xs => by
    show (eqV (V.int (y : Int)) (V.int (x : Int)) || inV (V.int (x : Int)) (nI xs)) = _
    rw [inV_nI xs, List.contains_cons]
    congr 1
    show ((y : Int) == (x : Int)) = (x == y)
    rw [Bool.eq_iff_iff, beq_iff_eq, beq_iff_eq]
    omega
theorem eqV_nat {x y : Nat} : eqV (V.int (x : Int)) (V.int (y : Int)) = true ↔ x = y := by
  show ((x : Int) == (y : Int)) = true ↔ _
  rw [beq_iff_eq]
  omega
/-! ### images of any integers -/
def ListI' (H : Hp) (p : Addr) (xs : List Int) : Prop := H p = some (.lst (xs.map V.int))
def badN (xs : List Int) (k : Nat) : Bool := decide (xs.getD k 0 < 0) || decide ((xs.length : Int) ≤ xs.getD k 0)
def firstOf (p : Nat → Bool) (n : Nat) : Option Nat := (List.range n).find? p
theorem firstOf_some {p : Nat → Bool} {n i : Nat} (hi : i < n) (hp : p i = true) (h : ∀ j, j < i → p j = false) : firstOf p n = some i := by
  unfold firstOf
  rw [List.find?_range_eq_some]
  exact ⟨hp, List.mem_range.mpr hi, fun j hj => by rw [h j hj]; rfl⟩
theorem firstOf_none {p : Nat → Bool} {n : Nat} (h : ∀ j, j < n → p j = false) : firstOf p n = none := by
  unfold firstOf
  rw [List.find?_range_eq_none]
  exact fun j hj => by rw [h j hj]; rfl
theorem firstOf_no {p : Nat → Bool} {n : Nat} (h : firstOf p n = none) : ∀ j, j < n → p j = false := by
  unfold firstOf at h
  rw [List.find?_range_eq_none] at h
  intro j hj
  have := h j hj
  simpa using this
theorem firstOf_is {p : Nat → Bool} {n i : Nat} (h : firstOf p n = some i) : i < n ∧ p i = true ∧ ∀ j, j < i → p j = false := by
  unfold firstOf at h
  rw [List.find?_range_eq_some] at h
  exact ⟨List.mem_range.mp h.2.1, h.1, fun j hj => by have := h.2.2 j hj; simpa using this⟩
/-- the first entry that is no record -/
def strayI (xs : List Int) : Option Nat := firstOf (badN xs) xs.length
def spInit (C : Addr) (f : Str) : Sp := fun vs H Q _ => ∃ (a : Addr) (v : V), vs = [.ref a, v] ∧ H a = some (exo a C none) ∧ ∀ dx, H dx = none → dx ≠ a → Q .non (upd (upd H dx (exd dx [(f, v)])) a (exo a C (some dx)))
theorem mkO_go {C : Addr} {f : Str} {v : V} {H1 : Hp} {Q : XK} (k : ∀ d H', Ex H1 H' → H' d = some (.xd [(f, v)]) → Q (.ref C) (some d) H') (e : Addr) (he : H1 e = none) :
    spInit C f (.ref e :: ([v] ++ [])) (upd H1 e (exo e C none)) (fun v H2 => v = .non ∧ ∃ (d : Addr) (fs : List (Str × V)), H2 e = some (exo e C (some d)) ∧ H2 d = some (exd d fs) ∧ H1 d = none ∧ Q (.ref C) (some d) (upd (L2.del H2 e) d (.xd fs))) (fun _ _ _ => False) := by
  refine ⟨e, v, rfl, upd_same, fun dx hdx ne => ⟨rfl, dx, _, upd_same, (by rw [upd_ne ne, upd_same]), ?_, k dx _ ?_ upd_same⟩⟩
  · rw [upd_ne ne] at hdx
    exact hdx
  · rw [upd_ne ne] at hdx
    intro b o hb
    have n1 : b ≠ dx := ne_of_none hb hdx
    have n2 : b ≠ e := ne_of_none hb he
    rw [upd_ne n1, del_ne n2, upd_ne n2, upd_ne n1, upd_ne n2]
    exact hb
theorem units65R {k : Nat} {A : Around} (r : Room k A) : A.units + 65 < cLine := by have := r.un; omega
theorem huH {k : Nat} {A : Around} (r : L2H.RoomH k A) : A.units + 1 < cLine := by have := r.un; omega
theorem units65H {k : Nat} {A : Around} (r : L2H.RoomH k A) : A.units + 65 < cLine := by have := r.un; omega
theorem rd_ex {H H' : Hp} {a : Addr} {u : HO} (e : Ex H H') (h : Rd H a u) : Rd H' a u := h.elim (fun z => .inl (e _ _ z)) fun ⟨o, z⟩ => .inr ⟨o, e _ _ z⟩
theorem sqL_ex {K : PySem.W.Frag} {H H' : Hp} {a : Addr} {xs : List V} (e : Ex H H') (h : SqL K H a xs) : SqL K H' a xs := h.elim (fun z => .inl (rd_ex e z)) .inr
theorem back_none {H H1 : Hp} {p : Addr} (e : Ex H H1) (h : H1 p = none) : H p = none := by
  cases q : H p with
  | none => rfl
  | some o =>
    rw [e p o q] at h
    cases h

/-! ### integers and records -/
def natI (xs : List Int) : List Nat := xs.map Int.toNat
theorem natI_len {xs : List Int} : (natI xs).length = xs.length := List.length_map ..
theorem natI_at {xs : List Int} (h : strayI xs = none) {k : Nat} (hk : k < xs.length) : xs.getD k 0 = (((natI xs).getD k 0 : Nat) : Int) ∧ (natI xs).getD k 0 < xs.length := by
  have q := firstOf_no h k hk
  unfold badN at q
  rw [Bool.or_eq_false_iff] at q
  have q1 := of_decide_eq_false q.1
  have q2 := of_decide_eq_false q.2
  have e : (natI xs).getD k 0 = (xs.getD k 0).toNat := by
    unfold natI
    rw [List.getD_eq_getElem?_getD, List.getElem?_map, List.getD_eq_getElem?_getD, List.getElem?_eq_getElem hk]
    rfl
  rw [e]
  omega
theorem natI_map {xs : List Int} (h : strayI xs = none) : nI (natI xs) = xs.map V.int := by
  unfold nI natI
  rw [List.map_map]
  refine List.ext_getElem (by rw [List.length_map, List.length_map]) fun k h1 h2 => ?_
  rw [List.length_map] at h1
  rw [List.getElem_map, List.getElem_map]
  have := (natI_at h h1).1
  have e : (natI xs).getD k 0 = (xs.getD k 0).toNat := by
    unfold natI
    rw [List.getD_eq_getElem?_getD, List.getElem?_map, List.getD_eq_getElem?_getD, List.getElem?_eq_getElem h1]
    rfl
  rw [e, List.getD_eq_getElem?_getD, List.getElem?_eq_getElem h1] at this
  exact congrArg V.int this.symm
def toI (ys : List Nat) : List Int := ys.map fun x : Nat => (x : Int)
theorem toI_len {ys : List Nat} : (toI ys).length = ys.length := List.length_map ..
theorem toI_v {ys : List Nat} : (toI ys).map V.int = nI ys := by
  unfold toI nI
  rw [List.map_map]
  rfl
theorem toI_nat {ys : List Nat} : natI (toI ys) = ys := by
  unfold natI toI
  rw [List.map_map]
  exact (List.map_congr_left fun x _ => Int.toNat_natCast x).trans (List.map_id' ys)
theorem toI_at {ys : List Nat} {j : Nat} (h : j < ys.length) : (toI ys).getD j 0 = ((ys.getD j 0 : Nat) : Int) := by
  unfold toI
  rw [List.getD_eq_getElem?_getD, List.getElem?_map, List.getElem?_eq_getElem h, List.getD_eq_getElem?_getD, List.getElem?_eq_getElem h]
  rfl
theorem ListI.ex {H H1 : Hp} {a : Addr} {xs : List Int} (e : Ex H H1) (h : ListI H a xs) : ListI H1 a xs := e a _ h
theorem ListN.int {H : Hp} {a : Addr} {ys : List Nat} (h : ListN H a ys) : ListI H a (toI ys) := by
  show H a = _
  rw [toI_v]
  exact h
theorem ListI.nat {H : Hp} {a : Addr} {xs : List Int} (h : ListI H a xs) (s : strayI xs = none) : ListN H a (natI xs) := by
  show H a = _
  rw [natI_map s]
  exact h
/-- the first record that is not named by the one that it names -/
def unset (ys : List Nat) : Option Nat := firstOf (fun x => decide (gt ys (gt ys x) ≠ x)) ys.length
def faultS (xs : List Int) : Option (Nat × Nat) := match strayI xs with
  | some k => some (1, k)
  | none => (unset (natI xs)).map fun k => (2, k)
def faultF (xs zs : List Int) : Option (Nat × Nat) := match faultS xs with
  | some f => some f
  | none => match faultS zs with
    | some f => some f
    | none => if xs.length ≠ zs.length then some (3, 0) else none
theorem faultS_no {xs : List Int} (h : faultS xs = none) : strayI xs = none ∧ Sta (natI xs) := by
  unfold faultS at h
  cases s : strayI xs with
  | some k => rw [s] at h; cases h
  | none =>
    rw [s] at h
    have u : unset (natI xs) = none := Option.map_eq_none_iff.mp h
    refine ⟨rfl, fun x hx => ?_, fun x hx => ?_⟩
    · rw [natI_len] at hx ⊢
      exact (natI_at s hx).2
    · have := of_decide_eq_false (firstOf_no u x hx)
      exact Decidable.not_not.mp this
theorem faultF_no {xs zs : List Int} (h : faultF xs zs = none) : faultS xs = none ∧ faultS zs = none ∧ xs.length = zs.length := by
  unfold faultF at h
  cases s : faultS xs with
  | some f => rw [s] at h; cases h
  | none =>
    rw [s] at h
    cases t : faultS zs with
    | some f => simp only [t] at h; cases h
    | none =>
      simp only [t] at h
      by_cases c : xs.length = zs.length
      · exact ⟨rfl, rfl, c⟩
      · rw [if_pos c] at h
        cases h
theorem sta_fault {ys : List Nat} (s : Sta ys) : strayI (toI ys) = none ∧ faultS (toI ys) = none := by
  have a : strayI (toI ys) = none := by
    refine firstOf_none fun j hj => ?_
    rw [toI_len] at hj
    unfold badN
    rw [toI_at hj, toI_len, decide_eq_false (by omega), decide_eq_false (by have := s.lt j hj; unfold gt at this; omega)]
    rfl
  refine ⟨a, ?_⟩
  unfold faultS
  rw [a]
  show (unset (natI (toI ys))).map _ = none
  rw [toI_nat]
  have : unset ys = none := firstOf_none fun j hj => by
    show decide _ = false
    rw [decide_eq_false]
    exact fun h => h (s.inv j hj)
  rw [this]
  rfl
/-! ### what raises -/
def RzI (A : Ad) (k : Nat) (H : Hp) (E : XK) : Prop := ∀ d H', Ex H H' → H' d = some (.xd [("record", .int (k : Int))]) → E (.ref A.InvalidImage) (some d) H'
def RzS (A : Ad) (k : Nat) (H : Hp) (E : XK) : Prop := ∀ d H', Ex H H' → H' d = some (.xd [("record", .int (k : Int))]) → E (.ref A.NotState) (some d) H'
def RzU (A : Ad) (H : Hp) (E : XK) : Prop := ∀ H', Ex H H' → E (.ref A.UnequalSizes) none H'
def RzF (A : Ad) (f : Nat × Nat) (H : Hp) (E : XK) : Prop := (f.1 = 1 → RzI A f.2 H E) ∧ (f.1 = 2 → RzS A f.2 H E) ∧ (f.1 = 3 → RzU A H E)
theorem RzF.mono {A : Ad} {f : Nat × Nat} {H H1 : Hp} {E : XK} (e : Ex H H1) (h : RzF A f H E) : RzF A f H1 E :=
  ⟨fun z d H' e' hd => h.1 z d H' (e.trans e') hd, fun z d H' e' hd => h.2.1 z d H' (e.trans e') hd, fun z H' e' => h.2.2 z H' (e.trans e')⟩
/-! ### promises of the program -/
def spCI (A : Ad) : Sp := fun vs H Q E => ∃ (a : Addr) (xs : List Int), vs = [.ref a] ∧ ListI H a xs ∧ xs.length ≤ 65 ∧ (strayI xs = none → ∀ H', Ex H H' → Q .non H') ∧ ∀ k, strayI xs = some k → RzI A k H E
def spCS (A : Ad) : Sp := fun vs H Q E => ∃ (a : Addr) (xs : List Int), vs = [.ref a] ∧ ListI H a xs ∧ xs.length ≤ 65 ∧ (faultS xs = none → ∀ H', Ex H H' → Q .non H') ∧ ∀ f, faultS xs = some f → RzF A f H E
def spCP (A : Ad) : Sp := fun vs H Q E => ∃ (a b : Addr) (xs zs : List Int), vs = [.ref a, .ref b] ∧ ListI H a xs ∧ ListI H b zs ∧ xs.length ≤ 65 ∧ zs.length ≤ 65 ∧ (faultF xs zs = none → ∀ H', Ex H H' → Q .non H') ∧ ∀ f, faultF xs zs = some f → RzF A f H E
def spWk : Sp := fun vs H Q _ => ∃ (a b : Addr) (ys zs w : List Nat) (s : Nat), vs = [.ref a, .ref b, .int (s : Int)] ∧ ListN H a ys ∧ ListN H b zs ∧ zs.length = ys.length ∧ ys.length ≤ 65 ∧ Trl ys zs s w ∧ ∀ p H', H p = none → Ex H H' → ListN H' p w → Q (.ref p) H'
def wE : Nat → Str
  | 0 => "chain"
  | _ => "ring"
def rgB (b : Bool) : Nat := if b then 1 else 0
/-- a tuple (word, records) -/
def PrtAt (H : Hp) (t : Addr) (c : Bool × List Nat) : Prop := ∃ l, H t = some (.tup [.str (wE (rgB c.1)), .ref l]) ∧ ListN H l c.2
theorem PrtAt.ex {H H' : Hp} {t : Addr} {c : Bool × List Nat} (e : Ex H H') (h : PrtAt H t c) : PrtAt H' t c := by
  obtain ⟨l, h1, h2⟩ := h
  exact ⟨l, e _ _ h1, h2.ex e⟩
def PrtsAt (H : Hp) (p : Addr) (cs : List (Bool × List Nat)) : Prop := ∃ ts : List Addr, H p = some (.lst (ts.map V.ref)) ∧ ts.length = cs.length ∧ ∀ (i : Nat) (t : Addr) (c : Bool × List Nat), ts[i]? = some t → cs[i]? = some c → PrtAt H t c
theorem PrtsAt.ex {H H' : Hp} {p : Addr} {cs : List (Bool × List Nat)} (e : Ex H H') (h : PrtsAt H p cs) : PrtsAt H' p cs := by
  obtain ⟨ts, h1, h2, h3⟩ := h
  exact ⟨ts, e _ _ h1, h2, fun i t c a b => (h3 i t c a b).ex e⟩
def spPt : Sp := fun vs H Q _ => ∃ (a b : Addr) (ys zs : List Nat) (x : Nat), vs = [.ref a, .ref b, .int (x : Int)] ∧ ListN H a ys ∧ ListN H b zs ∧ Sta ys ∧ Sta zs ∧ zs.length = ys.length ∧ ys.length ≤ 65 ∧ x < ys.length ∧ ∀ p l H', H p = none → H l = none → Ex H H' → H' p = some (.tup [.str (wE (rgB (partF ys zs x).1)), .ref l]) → ListN H' l (partF ys zs x).2 → Q (.ref p) H'
def spPts (A : Ad) : Sp := fun vs H Q E => ∃ (a b : Addr) (xs zs : List Int), vs = [.ref a, .ref b] ∧ ListI H a xs ∧ ListI H b zs ∧ xs.length ≤ 65 ∧ zs.length ≤ 65 ∧ (faultF xs zs = none → ∀ p H', H p = none → Ex H H' → PrtsAt H' p (partsF (natI xs) (natI zs) xs.length) → Q (.ref p) H') ∧ ∀ f, faultF xs zs = some f → RzF A f H E
def spGn : Sp := fun vs H Q _ => ∃ (a b r : Addr) (ys zs l : List Nat), vs = [.ref a, .ref b, .ref r] ∧ ListN H a ys ∧ ListN H b zs ∧ ListN H r l ∧ zs.length = ys.length ∧ ys.length ≤ 65 ∧ l.length ≤ 200 ∧ (∀ x ∈ l, x < ys.length) ∧ ∀ H', Ex H H' → Q (.int (gainF ys zs l)) H'
/-- a tuple (word, length, gain) -/
def EntAt (H : Hp) (t : Addr) (e : Ent) : Prop := H t = some (.tup [.str (wE e.1), .int e.2.1, .int e.2.2])
def leE (e f : Ent) : Bool := decide (e.1 < f.1) || (decide (e.1 = f.1) && (decide (e.2.1 < f.2.1) || (decide (e.2.1 = f.2.1) && decide (e.2.2 ≤ f.2.2))))
def KindAt (H : Hp) (p : Addr) (es : List Ent) : Prop := ∃ ts : List Addr, H p = some (.tup (ts.map V.ref)) ∧ ts.length = es.length ∧ ∀ (i : Nat) (t : Addr) (e : Ent), ts[i]? = some t → es[i]? = some e → EntAt H t e
def EntsAt (H : Hp) (p : Addr) (es : List Ent) : Prop := ∃ ts : List Addr, H p = some (.lst (ts.map V.ref)) ∧ ts.length = es.length ∧ ∀ (i : Nat) (t : Addr) (e : Ent), ts[i]? = some t → es[i]? = some e → EntAt H t e
theorem KindAt.ex {H H' : Hp} {p : Addr} {es : List Ent} (e : Ex H H') (h : KindAt H p es) : KindAt H' p es := by
  obtain ⟨ts, h1, h2, h3⟩ := h
  exact ⟨ts, e _ _ h1, h2, fun i t c a b => e _ _ (h3 i t c a b)⟩
theorem EntsAt.ex {H H' : Hp} {p : Addr} {es : List Ent} (e : Ex H H') (h : EntsAt H p es) : EntsAt H' p es := by
  obtain ⟨ts, h1, h2, h3⟩ := h
  exact ⟨ts, e _ _ h1, h2, fun i t c a b => e _ _ (h3 i t c a b)⟩
def spKd (A : Ad) : Sp := fun vs H Q E => ∃ (a b : Addr) (xs zs : List Int), vs = [.ref a, .ref b] ∧ ListI H a xs ∧ ListI H b zs ∧ xs.length ≤ 65 ∧ zs.length ≤ 65 ∧ (faultF xs zs = none → ∀ p es H', H p = none → Ex H H' → es.Perm (entsF (natI xs) (natI zs) xs.length) → es.Pairwise (fun e f => leE e f = true) → KindAt H' p es → Q (.ref p) H') ∧ ∀ f, faultF xs zs = some f → RzF A f H E
/-- an update at u -/
def UpAt (A : Ad) (H : Hp) (u : Addr) (ys zs : List Nat) : Prop := ∃ dx p q, H u = some (.ins A.Update dx [("before", .ref p), ("after", .ref q)]) ∧ ListN H p ys ∧ ListN H q zs ∧ p ≠ u ∧ q ≠ u
def spUi (A : Ad) : Sp := fun vs H Q E => ∃ (u a b dx : Addr) (xs zs : List Int), vs = [.ref u, .ref a, .ref b] ∧ H u = some (.ins A.Update dx []) ∧ ListI H a xs ∧ ListI H b zs ∧ xs.length ≤ 65 ∧ zs.length ≤ 65 ∧
  (faultF xs zs = none → ∀ p q H', H p = none → H q = none → p ≠ q → (∀ x o, x ≠ u → H x = some o → H' x = some o) → H' u = some (.ins A.Update dx [("before", .ref p), ("after", .ref q)]) → ListN H' p (natI xs) → ListN H' q (natI zs) → Q .non H') ∧ ∀ f, faultF xs zs = some f → RzF A f H E
def spUk (A : Ad) : Sp := fun vs H Q _ => ∃ (u : Addr) (ys zs : List Nat), vs = [.ref u] ∧ UpAt A H u ys zs ∧ Sta ys ∧ Sta zs ∧ zs.length = ys.length ∧ ys.length ≤ 65 ∧ ∀ p es H', H p = none → Ex H H' → es.Perm (entsF ys zs ys.length) → es.Pairwise (fun e f => leE e f = true) → KindAt H' p es → Q (.ref p) H'
end Pv

namespace Pv
open PySem L2 Evl Pm PySem.W
def encE (e : Ent) : PyData := .tuple [.str (wE e.1), .int e.2.1, .int e.2.2]
def ltE (e f : Ent) : Bool := decide (e.1 < f.1) || (decide (e.1 = f.1) && (decide (e.2.1 < f.2.1) || (decide (e.2.1 = f.2.1) && decide (e.2.2 < f.2.2))))
theorem le_lt {e f : Ent} : leE e f = !ltE f e := by
  unfold leE ltE
  rw [Bool.eq_iff_iff]
  simp only [Bool.or_eq_true, Bool.and_eq_true, decide_eq_true_eq, Bool.not_eq_true', Bool.or_eq_false_iff, Bool.and_eq_false_iff, decide_eq_false_iff_not]
  omega
theorem str_lt : ∀ i, i < 2 → ∀ j, j < 2 → i ≠ j → dataLt (.str (wE i)) (.str (wE j)) = decide (i < j) := by
  intro i hi j hj
  rw [dataLt_str]
  match i, hi, j, hj with
  | 0, _, 0, _ => exact fun h => absurd rfl h
  | 0, _, 1, _ => exact fun _ => by decide +kernel
  | 1, _, 0, _ => exact fun _ => by decide +kernel
  | 1, _, 1, _ => exact fun h => absurd rfl h
theorem str_eq : ∀ i, i < 2 → ∀ j, j < 2 → PyData.eqv (.str (wE i)) (.str (wE j)) = decide (i = j) := by
  intro i hi j hj
  match i, hi, j, hj with
  | 0, _, 0, _ => decide +kernel
  | 0, _, 1, _ => decide +kernel
  | 1, _, 0, _ => decide +kernel
  | 1, _, 1, _ => decide +kernel
theorem int_eq (x y : Int) : PyData.eqv (.int x) (.int y) = decide (x = y) := by
  show (x == y) = _
  rw [Bool.eq_iff_iff, beq_iff_eq, decide_eq_true_eq]
theorem data_lt {e f : Ent} (he : e.1 < 2) (hf : f.1 < 2) : dataLt (encE e) (encE f) = ltE e f := by
  unfold encE
  rw [dataLt_tuple, dataLt_cons (by simp [alike]), str_eq _ he _ hf, dataLt_cons (by simp [alike]), int_eq, dataLt_cons (by simp [alike]), int_eq, dataLt_int, dataLt_int]
  unfold ltE
  by_cases c1 : e.1 = f.1
  · rw [decide_eq_true c1, if_pos rfl, decide_eq_false (show ¬ e.1 < f.1 by omega)]
    by_cases c2 : e.2.1 = f.2.1
    · rw [decide_eq_true c2, if_pos rfl, decide_eq_false (show ¬ e.2.1 < f.2.1 by omega)]
      by_cases c3 : e.2.2 = f.2.2
      · rw [decide_eq_true c3, if_pos rfl, decide_eq_false (show ¬ e.2.2 < f.2.2 by omega)]
        rfl
      · rw [decide_eq_false c3, if_neg (by decide)]
        simp
    · rw [decide_eq_false c2, if_neg (by decide)]
      simp
  · rw [decide_eq_false c1, if_neg (by decide), str_lt _ he _ hf c1]
    simp
theorem alike_ent (e f : Ent) : alike (encE e) (encE f) = true := by simp [encE, alike, alikeAll]
theorem depth_ent (e : Ent) : (encE e).depth ≤ 60 := by simp [encE, PyData.depth, PyData.depthAll]
theorem dp_ent {K : PySem.W.Frag} {H : Hp} {t : Addr} {e : Ent} (h : EntAt H t e) : Dp K H (.ref t) (encE e) := .tup (SqT.of h) (.cons (.str _) (.cons (.int _) (.cons (.int _) .nil)))
theorem le_trans' {e f g : Ent} (h1 : leE e f = true) (h2 : leE f g = true) : leE e g = true := by
  unfold leE at *
  simp only [Bool.or_eq_true, Bool.and_eq_true, decide_eq_true_eq] at *
  omega
theorem le_total' (e f : Ent) : leE e f = true ∨ leE f e = true := by
  unfold leE
  simp only [Bool.or_eq_true, Bool.and_eq_true, decide_eq_true_eq]
  omega
theorem le_anti {e f : Ent} (h1 : leE e f = true) (h2 : leE f e = true) : e = f := by
  obtain ⟨a, b, c⟩ := e
  obtain ⟨a', b', c'⟩ := f
  unfold leE at *
  simp only [Bool.or_eq_true, Bool.and_eq_true, decide_eq_true_eq] at *
  have e1 : a = a' := by omega
  have e2 : b = b' := by omega
  have e3 : c = c' := by omega
  rw [e1, e2, e3]
/-- the ascending row of the entries is but one -/
theorem sorted_one {es fs : List Ent} (p : es.Perm fs) (h1 : es.Pairwise fun e f => leE e f = true) (h2 : fs.Pairwise fun e f => leE e f = true) : es = fs :=
  List.Perm.eq_of_pairwise (fun a b _ _ x y => le_anti x y) h1 h2 p
/-- entries laid out, sorted -/
theorem sort_ents {H : Hp} {ts : List Addr} {es : List Ent} (hl : ts.length = es.length) (h : ∀ (i : Nat) (t : Addr) (e : Ent), ts[i]? = some t → es[i]? = some e → EntAt H t e) (h2 : ∀ e ∈ es, e.1 < 2) :
    ∃ (ts' : List Addr) (es' : List Ent), ((((ts.zip es).map fun z => (V.ref z.1, encE z.2)).mergeSort (dataLe false Prod.snd)).map Prod.fst) = ts'.map V.ref ∧ es'.Perm es ∧ es'.Pairwise (fun e f => leE e f = true) ∧ ts'.length = es'.length ∧ ∀ (i : Nat) (t : Addr) (e : Ent), ts'[i]? = some t → es'[i]? = some e → EntAt H t e := by
  have at_ : ∀ z ∈ ts.zip es, EntAt H z.1 z.2 := fun z hz => by
    obtain ⟨i, hi, e⟩ := List.getElem_of_mem hz
    have e2 : (ts.zip es)[i]? = some z := by rw [List.getElem?_eq_getElem hi, e]
    rw [List.getElem?_zip_eq_some] at e2
    exact h i _ _ e2.1 e2.2
  have m2 : ∀ z ∈ ts.zip es, z.2.1 < 2 := fun z hz => h2 _ (List.of_mem_zip hz).2
  have sm : ((ts.zip es).map fun z => (V.ref z.1, encE z.2)).mergeSort (dataLe false Prod.snd) = ((ts.zip es).mergeSort fun a b => leE a.2 b.2).map fun z => (V.ref z.1, encE z.2) := by
    refine (sort_maps (fun z : Addr × Ent => (V.ref z.1, encE z.2)) fun a ha b hb => ?_).symm
    show leE a.2 b.2 = !dataLt (encE b.2) (encE a.2)
    rw [data_lt (m2 b hb) (m2 a ha), le_lt]
  refine ⟨((ts.zip es).mergeSort fun a b => leE a.2 b.2).map Prod.fst, ((ts.zip es).mergeSort fun a b => leE a.2 b.2).map Prod.snd, ?_, ?_, ?_, ?_, fun i t e h3 h4 => ?_⟩
  · rw [sm, List.map_map, List.map_map]
    rfl
  · have p := (List.mergeSort_perm (ts.zip es) fun a b => leE a.2 b.2).map Prod.snd
    rw [List.map_snd_zip (by omega)] at p
    exact p
  · rw [List.pairwise_map]
    exact List.pairwise_mergeSort (le := fun a b : Addr × Ent => leE a.2 b.2) (fun a b c x y => le_trans' x y) (fun a b => by
      rw [Bool.or_eq_true]
      exact le_total' a.2 b.2) _
  · rw [List.length_map, List.length_map]
  · rw [List.getElem?_map] at h3 h4
    cases q : ((ts.zip es).mergeSort fun a b => leE a.2 b.2)[i]? with
    | none => rw [q] at h3; cases h3
    | some z =>
      rw [q] at h3 h4
      cases h3
      cases h4
      exact at_ z ((List.mergeSort_perm (ts.zip es) fun a b => leE a.2 b.2).mem_iff.mp (List.mem_of_getElem? q))
end Pv

namespace Pv
open PySem L2 Evl Pm
/-- the box of the draws at b, the script's numbers at c -/
def Bx (H : Hp) (b c : Addr) : Prop := ∃ (ns : List Int) (d i k s : Int), H b = some (.lst [.ref c, .int d, .int i, .int k, .int s]) ∧ H c = some (.lst (ns.map V.int)) ∧ 0 ≤ d ∧ 0 ≤ i
theorem Bx.ne {H : Hp} {b c p : Addr} (B : Bx H b c) (h : H p = none) : p ≠ b ∧ p ≠ c := by
  obtain ⟨ns, d, i, k, s, h1, h2, _⟩ := B
  exact ⟨(fun e => by rw [e, h1] at h; cases h), (fun e => by rw [e, h2] at h; cases h)⟩
theorem Bx.bc {H : Hp} {b c : Addr} (B : Bx H b c) : b ≠ c := by
  obtain ⟨ns, d, i, k, s, h1, h2, _⟩ := B
  intro e
  rw [e, h2] at h1
  have h3 := HO.lst.inj (Option.some.inj h1)
  cases ns with
  | nil => cases h3
  | cons a l => cases h3
theorem Bx.keep {H H' : Hp} {b c : Addr} (B : Bx H b c) (h1 : ∀ o, H b = some o → H' b = some o) (h2 : ∀ o, H c = some o → H' c = some o) : Bx H' b c := by
  obtain ⟨ns, d, i, k, s, a1, a2, q⟩ := B
  exact ⟨ns, d, i, k, s, h1 _ a1, h2 _ a2, q⟩
theorem Bx.ex {H H' : Hp} {b c : Addr} (e : Ex H H') (B : Bx H b c) : Bx H' b c := B.keep (e b) (e c)
theorem Mut.of_ex {b : Addr} {H H1 : Hp} (e : Ex H H1) : Mut b H H1 := fun a o _ h => e a o h
theorem bx_back {b c : Addr} {H G : Hp} (B : Bx G b c) (M : Mut b H G) {a : Addr} (h : G a = none) : H a = none := by
  cases q : H a with
  | none => rfl
  | some u =>
    rw [M a u (B.ne h).1 q] at h
    cases h
def spMix : Sp := fun vs H Q _ => ∃ x y : Int, vs = [.int x, .int y] ∧ ∀ z : Int, Q (.int z) H
def spBox (K : PySem.W.Frag) : Sp := fun vs H Q _ => ∃ (a : Addr) (ns : List Int), vs = [.ref a] ∧ SqL K H a (ns.map V.int) ∧ ns.length ≤ 63 ∧ ∀ b c H', H b = none → H c = none → Ex H H' → Bx H' b c → Q (.ref b) H'
def spDw : Sp := fun vs H Q _ => ∃ (b c : Addr) (n : Int), vs = [.ref b, .int n] ∧ 0 < n ∧ n < 1152921504606846976 ∧ Bx H b c ∧ ∀ (d : Nat) H', (d : Int) < n → Bx H' b c → Mut b H H' → Q (.int d) H'
def spSz : Sp := fun vs H Q _ => ∃ b c : Addr, vs = [.ref b] ∧ Bx H b c ∧ ∀ (n : Nat) H', n ≤ 64 → Bx H' b c → Mut b H H' → Q (.int (n : Int)) H'
/-- an answer that is the whole number asked for -/
def spWh : Sp := fun vs H Q _ => ∃ i j : Int, vs = [.int i, .int j] ∧ Q (.bl (decide (i = j))) H
def spRw : Sp := fun vs H Q _ => ∃ (t d : Addr) (xs : List Nat), vs = [.ref t, .ref d] ∧ ListN H t xs ∧ ListN H d xs ∧ xs.length ≤ 200 ∧ ∀ H', Ex H H' → Q (.bl true) H'
def spSpl : Sp := fun vs H Q _ => ∃ (a : Addr) (xs : List V), vs = [.ref a] ∧ H a = some (.lst xs) ∧ xs.length ≤ 65 ∧ ∀ ys H', (∀ x o, x ≠ a → H x = some o → H' x = some o) → H' a = some (.lst ys) → Q .non H'
/-- -1 or the place of the first that is wrong -/
def orM (o : Option Nat) : Int := match o with
  | some k => k
  | none => -1
def spEn : Sp := fun vs H Q _ => ∃ (a : Addr) (xs : List Int), vs = [.ref a] ∧ ListI H a xs ∧ xs.length ≤ 65 ∧ ∀ H', Ex H H' → Q (.int (orM (strayI xs))) H'
def spUn : Sp := fun vs H Q _ => ∃ (a : Addr) (xs : List Int), vs = [.ref a] ∧ ListI H a xs ∧ strayI xs = none ∧ xs.length ≤ 65 ∧ ∀ H', Ex H H' → Q (.int (orM (unset (natI xs)))) H'
def spOr : Sp := fun vs H Q _ => ∃ (b c : Addr) (n : Nat), vs = [.ref b, .int (n : Int)] ∧ n ≤ 64 ∧ Bx H b c ∧ ∀ p os H', H p = none → Bx H' b c → Mut b H H' → ListN H' p os → os.Perm (List.range n) → Q (.ref p) H'
def w4 : Nat → Str
  | 0 => "free" | 1 => "pair" | 2 => "chain" | _ => "ring"
/-- a word, a length and a start that fit the room -/
structure Shp (room w n s : Nat) : Prop where
  hw : w < 4
  hn : n ≤ room
  hs : s < 2
  l0 : w = 0 → n = 1
  l1 : w = 1 → n = 2
  l2 : w = 2 → 2 ≤ n
  l3 : w = 3 → 4 ≤ n ∧ n % 2 = 0 ∧ s = 0
def spPc : Sp := fun vs H Q _ => ∃ (b c : Addr) (room : Nat), vs = [.ref b, .int (room : Int)] ∧ 0 < room ∧ room ≤ 64 ∧ Bx H b c ∧ ∀ p (w n s : Nat) H', H p = none → Bx H' b c → Mut b H H' → H' p = some (.lst [.str (w4 w), .int (n : Int), .int (s : Int)]) → Shp room w n s → Q (.ref p) H'
/-- a list [word, records, start] -/
def PcLst (H : Hp) (t : Addr) (p : Pc) : Prop := ∃ l, H t = some (.lst [.str (w4 p.1), .ref l, .int (p.2.2 : Int)]) ∧ ListN H l p.2.1
theorem PcLst.ex {H H' : Hp} {t : Addr} {p : Pc} (e : Ex H H') (h : PcLst H t p) : PcLst H' t p := by
  obtain ⟨l, h1, h2⟩ := h
  exact ⟨l, e _ _ h1, h2.ex e⟩
def PcsAt (H : Hp) (q : Addr) (ps : List Pc) : Prop := ∃ ts : List Addr, H q = some (.lst (ts.map V.ref)) ∧ ts.length = ps.length ∧ ∀ (i : Nat) (t : Addr) (p : Pc), ts[i]? = some t → ps[i]? = some p → PcLst H t p
theorem PcsAt.ex {H H' : Hp} {q : Addr} {ps : List Pc} (e : Ex H H') (h : PcsAt H q ps) : PcsAt H' q ps := by
  obtain ⟨ts, h1, h2, h3⟩ := h
  exact ⟨ts, e _ _ h1, h2, fun i t p a b => (h3 i t p a b).ex e⟩
/-- pieces cut from a row of all records -/
structure Cut (n : Nat) (ps : List Pc) : Prop where
  perm : (ps.flatMap (·.2.1)).Perm (List.range n)
  ok : ∀ p ∈ ps, PcOk p
  s0 : ∀ p ∈ ps, p.1 = 3 → p.2.2 = 0
def spBt : Sp := fun vs H Q _ => ∃ (b c : Addr) (n : Nat), vs = [.ref b, .int (n : Int)] ∧ n ≤ 64 ∧ Bx H b c ∧ ∀ q ps H', H q = none → Bx H' b c → Mut b H H' → PcsAt H' q ps → Cut n ps → Q (.ref q) H'
def spSs : Sp := fun vs H Q _ => ∃ (q : Addr) (n : Nat) (ps : List Pc), vs = [.ref q, .int (n : Int)] ∧ n ≤ 64 ∧ PcsAt H q ps ∧ Cut n ps ∧ ∀ r a b A B H', H r = none → H a = none → H b = none → a ≠ b → Ex H H' → H' r = some (.lst [.ref a, .ref b]) → ListN H' a A → ListN H' b B → Bl A B 0 ps n → Q (.ref r) H'
def spLst : Sp := fun vs H Q _ => ∃ (l : Addr) (xs : List Nat), vs = [.ref l] ∧ ListN H l xs ∧ 0 < xs.length ∧ xs.length ≤ 64 ∧ ∀ H', Ex H H' → Q (.int (mn xs : Nat)) H'
def spCan : Sp := fun vs H Q _ => ∃ (l r : Addr) (p : Pc) (A : List Nat), vs = [.str (w4 p.1), .ref l, .ref r] ∧ ListN H l p.2.1 ∧ ListN H r A ∧ (p.1 = 2 ∨ p.1 = 3) ∧ 2 ≤ p.2.1.length ∧ p.2.1.length ≤ 64 ∧ (∀ x ∈ p.2.1, x < A.length) ∧ ∀ q H', H q = none → Ex H H' → ListN H' q (canonP A p) → Q (.ref q) H'
def spDp : Sp := fun vs H Q _ => ∃ (q r : Addr) (n : Nat) (ps : List Pc) (A : List Nat), vs = [.ref q, .int (n : Int), .ref r] ∧ n ≤ 64 ∧ PcsAt H q ps ∧ ListN H r A ∧ A.length = n ∧ Cut n ps ∧ ∀ d H', H d = none → Ex H H' → PrtsAt H' d ((psJ ps n).map (outP A)) → Q (.ref d) H'
def spDk : Sp := fun vs H Q _ => ∃ (q : Addr) (n f : Nat) (ps : List Pc), vs = [.ref q, .int (if f = 0 then 1 else -1)] ∧ f < 2 ∧ n ≤ 64 ∧ PcsAt H q ps ∧ Cut n ps ∧ ∀ d es H', H d = none → Ex H H' → EntsAt H' d es → es.Perm (entsD f ps) → es.Pairwise (fun e f => leE e f = true) → Q (.ref d) H'
def spAsc : Sp := fun vs H Q _ => ∃ (q : Addr) (es : List Ent), vs = [.ref q] ∧ EntsAt H q es ∧ es.length ≤ 64 ∧ (∀ e ∈ es, e.1 < 2) ∧ ∀ d fs H', H d = none → Ex H H' → EntsAt H' d fs → fs.Perm es → fs.Pairwise (fun e f => leE e f = true) → Q (.ref d) H'
def spPtd : Sp := fun vs H Q _ => ∃ (t d : Addr) (cs : List (Bool × List Nat)), vs = [.ref t, .ref d] ∧ PrtsAt H t cs ∧ PrtsAt H d cs ∧ cs.length ≤ 200 ∧ (∀ c ∈ cs, c.2.length ≤ 200) ∧ ∀ H', Ex H H' → Q (.bl true) H'
def spKtd : Sp := fun vs H Q _ => ∃ (t d : Addr) (es : List Ent), vs = [.ref t, .ref d] ∧ KindAt H t es ∧ EntsAt H d es ∧ es.length ≤ 200 ∧ ∀ H', Ex H H' → Q (.bl true) H'
/-- the word of a fault -/
def fw : Nat → Str
  | 1 => "entry" | 2 => "state" | 3 => "sizes" | _ => "none"
def fltV (o : Option (Nat × Nat)) : List V := [.str (fw ((o.map (·.1)).getD 0)), .int ((o.map (·.2)).getD 0 : Nat)]
def spFl : Sp := fun vs H Q _ => ∃ (a b : Addr) (xs zs : List Int), vs = [.ref a, .ref b] ∧ ListI H a xs ∧ ListI H b zs ∧ xs.length ≤ 65 ∧ zs.length ≤ 65 ∧ ∀ p H', H p = none → Ex H H' → H' p = some (.lst (fltV (faultF xs zs))) → Q (.ref p) H'
def spBe : Sp := fun vs H Q _ => ∃ (b c r : Addr) (xs : List Nat), vs = [.ref b, .ref r] ∧ Bx H b c ∧ ListN H r xs ∧ r ≠ b ∧ xs.length ≤ 64 ∧ ∀ p zs H', H p = none → Bx H' b c → Mut b H H' → ListI H' p zs → zs.length ≤ 65 → Q (.ref p) H'
def spCl (A : Ad) : Sp := fun vs H Q E => ∃ (a b : Addr) (xs zs : List Int) (dr : Nat), vs = [.int (dr : Int), .ref a, .ref b] ∧ dr < 3 ∧ ListI H a xs ∧ ListI H b zs ∧ xs.length ≤ 65 ∧ zs.length ≤ 65 ∧ (faultF xs zs = none → ∀ H', Ex H H' → Q .non H') ∧ ∀ f, faultF xs zs = some f → RzF A f H E
def spFt : Sp := fun vs H Q _ => ∃ (a b du : Addr) (xs zs : List Int) (dr : Nat), vs = [.int (dr : Int), .ref a, .ref b, .ref du] ∧ dr < 3 ∧ ListI H a xs ∧ ListI H b zs ∧ xs.length ≤ 65 ∧ zs.length ≤ 65 ∧ H du = some (.lst (fltV (faultF xs zs))) ∧ ∀ H', Ex H H' → Q (.bl true) H'
def spKp : Sp := fun vs H Q _ => ∃ (q a b : Addr) (n f : Nat) (ps : List Pc) (A B : List Nat), vs = [.ref q, .int (n : Int), .ref a, .ref b, .int (if f = 0 then 1 else -1)] ∧ n ≤ 64 ∧ PcsAt H q ps ∧ Cut n ps ∧ ListN H a A ∧ ListN H b B ∧ Bl A B f ps n ∧ ∀ H', Ex H H' → Q (.bl true) H'
def spLaw (K : PySem.W.Frag) : Sp := fun vs H Q _ => ∃ (a : Addr) (ns : List Int), vs = [.ref a] ∧ SqL K H a (ns.map V.int) ∧ ns.length ≤ 63 ∧ ∀ H', Q (.bl true) H'
end Pv

/-! rows put together of pieces, step by step -/
namespace Pv
open Pm
/-- two records that show each other -/
def swp (R : List Nat) (x y : Nat) : List Nat := (R.set x y).set y x
theorem swp_len {R : List Nat} {x y : Nat} : (swp R x y).length = R.length := by
  unfold swp
  rw [List.length_set, List.length_set]
theorem gt_set {R : List Nat} {x y z : Nat} (hx : x < R.length) : gt (R.set x y) z = if z = x then y else gt R z := by
  unfold gt
  rw [List.getD_eq_getElem?_getD, List.getElem?_set, List.getD_eq_getElem?_getD]
  by_cases c : x = z
  · rw [if_pos c, if_pos c.symm, if_pos (by omega)]
    rfl
  · rw [if_neg c, if_neg (fun h => c h.symm)]
theorem gt_swp {R : List Nat} {x y z : Nat} (hx : x < R.length) (hy : y < R.length) : gt (swp R x y) z = if z = y then x else if z = x then y else gt R z := by
  unfold swp
  rw [gt_set (by rw [List.length_set]; exact hy), gt_set hx]
/-- whom the j-th record shows in the row r after k links -/
def stp (r s k j : Nat) : Nat := if (s + j) % 2 = r then (if j < k then j + 1 else j) else (if 0 < j ∧ j ≤ k then j - 1 else j)
theorem stp_zero {r s j : Nat} : stp r s 0 j = j := by
  unfold stp
  split <;> split <;> omega
theorem stp_same {r s k j : Nat} (hr : r < 2) (h : (s + k) % 2 ≠ r) : stp r s (k + 1) j = stp r s k j := by
  unfold stp
  split <;> split <;> split <;> omega
theorem stp_go {r s k j : Nat} (h : (s + k) % 2 = r) : stp r s (k + 1) j = if j = k + 1 then k else if j = k then k + 1 else stp r s k j := by
  unfold stp
  by_cases c1 : j = k + 1
  · rw [if_pos c1, if_neg (by omega), if_pos (by omega)]
    omega
  · rw [if_neg c1]
    by_cases c2 : j = k
    · rw [if_pos c2, if_pos (by omega), if_pos (by omega)]
      omega
    · rw [if_neg c2]
      split <;> split <;> split <;> omega
/-- the links so far, in the row r -/
structure Lnk (R0 R : List Nat) (L : List Nat) (r s k : Nat) : Prop where
  len : R.length = R0.length
  out : ∀ z, z ∉ L → gt R z = gt R0 z
  at_ : ∀ j, j < L.length → gt R (gt L j) = gt L (stp r s k j)
theorem Lnk.zero {R0 L : List Nat} {r s : Nat} (h : ∀ x ∈ L, gt R0 x = x) : Lnk R0 R0 L r s 0 :=
  ⟨rfl, fun _ _ => rfl, fun j hj => by rw [stp_zero]; exact h _ (gt_mem hj)⟩
theorem Lnk.same {R0 R L : List Nat} {r s k : Nat} (l : Lnk R0 R L r s k) (hr : r < 2) (h : (s + k) % 2 ≠ r) : Lnk R0 R L r s (k + 1) :=
  ⟨l.len, l.out, fun j hj => by rw [stp_same hr h]; exact l.at_ j hj⟩
theorem Lnk.go {R0 R L : List Nat} {r s k : Nat} (l : Lnk R0 R L r s k) (nd : L.Nodup) (lt : ∀ x ∈ L, x < R0.length) (hk : k + 1 < L.length) (h : (s + k) % 2 = r) : Lnk R0 (swp R (gt L k) (gt L (k + 1))) L r s (k + 1) := by
  have m1 := gt_mem (show k < L.length by omega)
  have m2 := gt_mem hk
  have b1 := lt _ m1
  have b2 := lt _ m2
  rw [← l.len] at b1 b2
  refine ⟨by rw [swp_len]; exact l.len, fun z hz => ?_, fun j hj => ?_⟩
  · rw [gt_swp b1 b2, if_neg (fun e => hz (by rw [e]; exact m2)), if_neg (fun e => hz (by rw [e]; exact m1))]
    exact l.out z hz
  · rw [gt_swp b1 b2, stp_go h]
    by_cases c1 : j = k + 1
    · rw [c1, if_pos rfl, if_pos rfl]
    · rw [if_neg (fun e => c1 (gt_inj nd hj hk e)), if_neg c1]
      by_cases c2 : j = k
      · rw [c2, if_pos rfl, if_pos rfl]
      · rw [if_neg (fun e => c2 (gt_inj nd hj (by omega) e)), if_neg c2]
        exact l.at_ j hj
theorem Lnk.chain {R0 R : List Nat} {p : Pc} {r : Nat} (l : Lnk R0 R p.2.1 r p.2.2 (p.2.1.length - 1)) (hw : p.1 = 2) : PcAt R r p := by
  intro k hk
  rw [l.at_ k hk]
  congr 1
  unfold stp nb
  rw [if_neg (show ¬ p.1 = 0 by omega), if_neg (show ¬ p.1 = 1 by omega), if_neg (show ¬ p.1 = 3 by omega), if_neg (show ¬ p.1 = 3 by omega)]
  split
  · split <;> split <;> omega
  · split <;> split <;> omega
theorem Lnk.free {R0 R : List Nat} {p : Pc} {r : Nat} (l : Lnk R0 R p.2.1 r p.2.2 (p.2.1.length - 1)) (ok : PcOk p) (hw : p.1 = 0) : PcAt R r p := by
  intro k hk
  rw [l.at_ k hk]
  congr 1
  have := ok.l0 hw
  rw [show p.2.1.length - 1 = 0 by omega, stp_zero]
  unfold nb
  rw [if_pos hw]
theorem Lnk.ring0 {R0 R : List Nat} {p : Pc} (l : Lnk R0 R p.2.1 0 p.2.2 (p.2.1.length - 1)) (ok : PcOk p) (hw : p.1 = 3) (s0 : p.2.2 = 0) : PcAt R 0 p := by
  intro k hk
  rw [l.at_ k hk]
  congr 1
  obtain ⟨n4, n2⟩ := ok.l3 hw
  unfold stp nb
  rw [if_neg (show ¬ p.1 = 0 by omega), if_neg (show ¬ p.1 = 1 by omega), if_pos hw, if_pos hw, s0]
  split
  · split <;> split <;> omega
  · split <;> split <;> omega
theorem Lnk.ring1 {R0 R : List Nat} {p : Pc} (l : Lnk R0 R p.2.1 1 p.2.2 (p.2.1.length - 1)) (ok : PcOk p) (lt : ∀ x ∈ p.2.1, x < R0.length) (hw : p.1 = 3) (s0 : p.2.2 = 0) : PcAt (swp R (gt p.2.1 (p.2.1.length - 1)) (gt p.2.1 0)) 1 p := by
  intro k hk
  obtain ⟨n4, n2⟩ := ok.l3 hw
  have m1 := lt _ (gt_mem (show p.2.1.length - 1 < p.2.1.length by omega))
  have m2 := lt _ (gt_mem (show 0 < p.2.1.length by omega))
  rw [← l.len] at m1 m2
  rw [gt_swp m1 m2]
  unfold nb
  rw [if_neg (show ¬ p.1 = 0 by omega), if_neg (show ¬ p.1 = 1 by omega), if_pos hw, if_pos hw, s0]
  by_cases c1 : k = 0
  · rw [if_pos (by rw [c1]), if_neg (by omega), if_neg (by omega)]
  · rw [if_neg (fun e => c1 (gt_inj ok.nd hk (by omega) e))]
    by_cases c2 : k = p.2.1.length - 1
    · rw [if_pos (by rw [← c2]), if_pos (by omega), if_neg (by omega)]
    · rw [if_neg (fun e => c2 (gt_inj ok.nd hk (by omega) e)), l.at_ k hk, s0]
      congr 1
      unfold stp
      split
      · split <;> split <;> omega
      · split <;> split <;> omega
theorem ring_out {R0 R L : List Nat} {s k : Nat} (l : Lnk R0 R L 1 s k) (pos : 0 < L.length) (lt : ∀ x ∈ L, x < R0.length) : ∀ z, z ∉ L → gt (swp R (gt L (L.length - 1)) (gt L 0)) z = gt R0 z := fun z hz => by
  have a1 := gt_mem (show L.length - 1 < L.length by omega)
  have a2 := gt_mem pos
  have m1 := lt _ a1
  have m2 := lt _ a2
  rw [← l.len] at m1 m2
  rw [gt_swp m1 m2, if_neg (fun e => hz (by rw [e]; exact a2)), if_neg (fun e => hz (by rw [e]; exact a1))]
  exact l.out z hz
theorem pair_at {R : List Nat} {p : Pc} {r : Nat} (ok : PcOk p) (hw : p.1 = 1) (lt : ∀ x ∈ p.2.1, x < R.length) : PcAt (swp R (gt p.2.1 0) (gt p.2.1 1)) r p ∧ ∀ z, z ∉ p.2.1 → gt (swp R (gt p.2.1 0) (gt p.2.1 1)) z = gt R z := by
  have l1 := ok.l1 hw
  have a1 := gt_mem (show 0 < p.2.1.length by omega)
  have a2 := gt_mem (show 1 < p.2.1.length by omega)
  have m1 := lt _ a1
  have m2 := lt _ a2
  refine ⟨fun k hk => ?_, fun z hz => ?_⟩
  · rw [gt_swp m1 m2]
    unfold nb
    rw [if_neg (show ¬ p.1 = 0 by omega), if_pos hw]
    by_cases c : k = 1
    · rw [c, if_pos rfl]
    · rw [if_neg (fun e => c (gt_inj ok.nd hk (by omega) e)), if_pos (by rw [show k = 0 by omega]), show 1 - k = 1 by omega]
  · rw [gt_swp m1 m2, if_neg (fun e => hz (by rw [e]; exact a2)), if_neg (fun e => hz (by rw [e]; exact a1))]
/-- the rows after some pieces -/
structure Stt (n : Nat) (qs : List Pc) (A B : List Nat) : Prop where
  la : A.length = n
  lb : B.length = n
  at_ : ∀ p ∈ qs, PcAt A 0 p ∧ PcAt B 1 p
  out : ∀ x, x < n → x ∉ qs.flatMap (·.2.1) → gt A x = x ∧ gt B x = x
theorem Stt.step {n : Nat} {qs : List Pc} {p : Pc} {A B A1 B1 : List Nat} (S : Stt n qs A B) (ok : ∀ q ∈ qs, PcOk q) (dis : ∀ x ∈ p.2.1, x ∉ qs.flatMap (·.2.1)) (l1 : A1.length = A.length) (l2 : B1.length = B.length) (o1 : ∀ z, z ∉ p.2.1 → gt A1 z = gt A z) (o2 : ∀ z, z ∉ p.2.1 → gt B1 z = gt B z) (h1 : PcAt A1 0 p) (h2 : PcAt B1 1 p) : Stt n (qs ++ [p]) A1 B1 := by
  refine ⟨l1.trans S.la, l2.trans S.lb, fun q hq => ?_, fun x hx hn => ?_⟩
  · rcases List.mem_append.mp hq with hq | hq
    · obtain ⟨a, b⟩ := S.at_ q hq
      have no : ∀ k, k < q.2.1.length → gt q.2.1 k ∉ p.2.1 := fun k hk h => dis _ h (List.mem_flatMap.mpr ⟨q, hq, gt_mem hk⟩)
      exact ⟨fun k hk => by rw [o1 _ (no k hk)]; exact a k hk, fun k hk => by rw [o2 _ (no k hk)]; exact b k hk⟩
    · rw [List.mem_singleton.mp hq]
      exact ⟨h1, h2⟩
  · rw [List.flatMap_append, List.mem_append, not_or] at hn
    have hp : x ∉ p.2.1 := fun h => hn.2 (List.mem_flatMap.mpr ⟨p, List.mem_singleton.mpr rfl, h⟩)
    rw [o1 _ hp, o2 _ hp]
    exact S.out x hx hn.1
theorem gt_range {n x : Nat} (h : x < n) : gt (List.range n) x = x := by
  unfold gt
  rw [List.getD_eq_getElem?_getD, List.getElem?_range h]
  rfl
theorem Stt.zero {n : Nat} : Stt n [] (List.range n) (List.range n) :=
  ⟨List.length_range, List.length_range, (fun _ h => by cases h), fun x hx _ => ⟨gt_range hx, gt_range hx⟩⟩
end Pv

/-! rows put together of pieces are states -/
namespace Pv
open Pm
theorem nb_nb {p : Pc} (ok : PcOk p) {r k : Nat} (hr : r < 2) (hk : k < p.2.1.length) : nb r p.1 p.2.1.length p.2.2 (nb r p.1 p.2.1.length p.2.2 k) = k := by
  have h0 := ok.l0
  have h1 := ok.l1
  have h2 := ok.l2
  have h3 := ok.l3
  have hw := ok.w
  by_cases c0 : p.1 = 0
  · have nz : ∀ j, nb r p.1 p.2.1.length p.2.2 j = j := fun j => by unfold nb; rw [if_pos c0]
    rw [nz, nz]
  by_cases c1 : p.1 = 1
  · have l := h1 c1
    have n1 : ∀ j, nb r p.1 p.2.1.length p.2.2 j = 1 - j := fun j => by unfold nb; rw [if_neg c0, if_pos c1]
    rw [n1, n1]
    omega
  have cr : ∀ j, nb r p.1 p.2.1.length p.2.2 j = if (p.2.2 + j) % 2 = r then (if j + 1 < p.2.1.length then j + 1 else if p.1 = 3 then 0 else j) else (if 0 < j then j - 1 else if p.1 = 3 then p.2.1.length - 1 else j) := fun j => nb_cr (by omega)
  rw [cr k]
  by_cases par : (p.2.2 + k) % 2 = r
  · rw [if_pos par]
    by_cases d : k + 1 < p.2.1.length
    · rw [if_pos d, cr, if_neg (by omega), if_pos (by omega)]
      omega
    · rw [if_neg d]
      by_cases c3 : p.1 = 3
      · obtain ⟨n4, n2⟩ := h3 c3
        rw [if_pos c3, cr, if_neg (by omega), if_neg (by omega), if_pos c3]
        omega
      · rw [if_neg c3, cr, if_pos par, if_neg d, if_neg c3]
  · rw [if_neg par]
    by_cases d : 0 < k
    · rw [if_pos d, cr, if_pos (by omega), if_pos (by omega)]
      omega
    · rw [if_neg d]
      by_cases c3 : p.1 = 3
      · obtain ⟨n4, n2⟩ := h3 c3
        rw [if_pos c3, cr, if_pos (by omega), if_neg (by omega), if_pos c3]
        omega
      · rw [if_neg c3, cr, if_neg par, if_neg d, if_neg c3]
theorem Bl.sta_ {A B : List Nat} {f n r : Nat} {ps : List Pc} (b : Bl A B f ps n) {R : List Nat} (hr : r < 2) (hl : R.length = n) (h : ∀ p ∈ ps, PcAt R r p) : Sta R := by
  have one : ∀ x, x < n → ∃ p q, p ∈ ps ∧ q < p.2.1.length ∧ gt p.2.1 q = x := fun x hx => by
    obtain ⟨p, hp, hm⟩ := b.own hx
    obtain ⟨q, hq, e⟩ := mem_getD hm
    exact ⟨p, q, hp, hq, e⟩
  refine ⟨fun x hx => ?_, fun x hx => ?_⟩
  · rw [hl] at hx ⊢
    obtain ⟨p, q, hp, hq, rfl⟩ := one x hx
    rw [h p hp q hq]
    exact b.lt hp _ (gt_mem (nb_lt (b.ok p hp) hq))
  · rw [hl] at hx
    obtain ⟨p, q, hp, hq, rfl⟩ := one x hx
    rw [h p hp q hq, h p hp _ (nb_lt (b.ok p hp) hq), nb_nb (b.ok p hp) hr hq]
theorem Bl.sta {A B : List Nat} {f n : Nat} {ps : List Pc} (b : Bl A B f ps n) : Sta A ∧ Sta B := by
  have hf := b.hf
  exact ⟨b.sta_ hf b.la fun p hp => (b.at_ p hp).1, b.sta_ (r := 1 - f) (by omega) b.lb fun p hp => (b.at_ p hp).2⟩
end Pv

/-! several except clauses with names, of errors without a context -/
namespace L2N
open PySem PySem.Spec PyProof.Rows L2
inductive HdsNN (X : Cx) : List ExceptHandler → List (Value × Option Nat × (Addr → Value → Option Addr → TS)) → Prop
  | nil : HdsNN X [] []
  | cons {x : Str} {c : Value} {ts : Addr → Value → Option Addr → TS} {b₀ : Stmt} {suite : List Stmt} {np pos' : Pos} {hds : List ExceptHandler} {l : List (Value × Option Nat × (Addr → Value → Option Addr → TS))} (hc : Names X x c)
      (hsu : ∀ (a : Addr) (oe : Obj) (cls : Value) (d : Option Addr) (pn : List (Addr × Obj)), Zn cls d oe → (∃ vs, oe.data = .fields vs) → PSs (X.suite a ((a, oe) :: pn)) (b₀ :: suite) (ts a cls d)) (r : HdsNN X hds l) :
      HdsNN X (.ExceptHandler (some (.Name x np)) none (b₀ :: suite) pos' :: hds) ((c, none, ts) :: l)
  | consN {x n : Str} {i : Nat} {c : Value} {ts : Addr → Value → Option Addr → TS} {b₀ : Stmt} {suite : List Stmt} {np pos' : Pos} {hds : List ExceptHandler} {l : List (Value × Option Nat × (Addr → Value → Option Addr → TS))} (hN : X.N.Nodup) (hi : X.N[i]? = some n) (hln : X.env.kindOf n = some .local) (hc : Names X x c)
      (hsu : ∀ (a : Addr) (oe : Obj) (cls : Value) (d : Option Addr) (pn : List (Addr × Obj)), Zn cls d oe → (∃ vs, oe.data = .fields vs) → PSs (X.suite a ((a, oe) :: pn)) (b₀ :: suite) (ts a cls d)) (r : HdsNN X hds l) :
      HdsNN X (.ExceptHandler (some (.Name x np)) (some n) (b₀ :: suite) pos' :: hds) ((c, some i, ts) :: l)
section
variable {X : Cx} {body : List Stmt} {h₀ : ExceptHandler} {hds : List ExceptHandler} {l : List (Value × Option Nat × (Addr → Value → Option Addr → TS))} {pos : Pos} {tb : WX → TS} {Wout : WX}
theorem ps_try_manyNN (hs : X.stack = X.env :: X.outer) (hf : X.env.frame = some X.env.locals) (tk : Takes X Wout)
    (hb : ∀ (W : WX) (pn : List (Addr × Obj)) (xe : Value → Shared → Prop), Takes (X.tr pn xe) W → PassesOwn (model X.prog X.w) X.A X.env xe → PSs (X.tr pn xe) body (tb W))
    (hh : HdsNN X (h₀ :: hds) l) : PS X (.Try body (h₀ :: hds) [] [] pos) (fun D σ H => tb (wManyN X.K Wout D l) D σ H) := by
  refine ⟨fun pins s σ H D I h => ?_⟩
  have ok := I.ok
  have frA : X.A.frames = some (X.env :: X.outer) := by rw [ok.frames, hs]
  refine wpAny_Try_except ?_
  refine wpAny_mono ((hb (wManyN X.K Wout D l) (X.pn ++ pins) (fun e s₁ => wpAny (model X.prog X.w) X.A (noteFrame e X.env) (fun _ s₂ => wpAny (model X.prog X.w) X.A (setFlight e none) (fun _ s₃ =>
    wpAny (model X.prog X.w) X.A (handleBy e X.env (h₀ :: hds)) (SP X pins D) X.xe s₃) X.xe s₂) X.xe s₁) (fun u s' xx => ?_) PassesOwn.looking).run [] s σ H D (I.toTry _) h) (fun f s1 back => ?_) (fun e s1 he => he)
  · -- the catch
    obtain ⟨a, B, sI, pins', σ', H', cls, d, rfl, J', nb, up, sky, na, os, ag, w⟩ := xx
    have J : Inv X pins σ' H' sI := J'.ofTry ok
    have skyE : Sky B (X.env :: X.outer) a (Zn cls d) X.env.locals s'.heap := by rw [← hs]; exact sky
    show wpAny (model X.prog X.w) X.A (noteFrame (.ref a) X.env) _ _ _
    refine Sky.land Zn.steady frA hf skyE fun h3 fz3 ut3 => ?_
    have Jn3 : Inv X pins σ' H' { s' with heap := h3 } := J.landed nb fz3.1 (up.trans ut3) os ag
    obtain ⟨ox3, xs3, ob3, zc3, dt3⟩ := fz3.there
    have aside : ∀ {h : Heap} {o : Obj} {vs : Array Value}, h.FunFrames B (X.env :: X.outer) → h.get? a = some o → o.data = .fields vs → a ∉ frs (X.env :: X.outer) := fun {h o vs} ff e dd hm => by
      obtain ⟨_, o', e', hnf⟩ := ff.mem hm
      rw [e] at e'; cases e'
      exact hnf _ dd
    have offF := aside fz3.2.2.1 ob3 dt3
    have offL : a ≠ X.env.locals := fun z => offF (List.mem_filterMap.mpr ⟨X.env, List.mem_cons_self, by rw [hf, z]⟩)
    have offS : a ∉ X.fs := fun hm => by
      obtain ⟨e, he, q⟩ := List.mem_filterMap.mp hm
      exact offF (List.mem_filterMap.mpr ⟨e, List.mem_cons_of_mem _ he, q⟩)
    have In3 := Jn3.suite ob3 dt3 na offL offS
    have go : ∀ {hds' : List ExceptHandler} {l' : List (Value × Option Nat × (Addr → Value → Option Addr → TS))}, HdsNN X hds' l' → wManyN X.K Wout D l' cls d σ' H' →
        wpAny (model X.prog X.w) X.A (handleBy (.ref a) X.env hds') (SP X pins D) X.xe { s' with heap := h3 } := by
      intro hds' l' hk
      induction hk with
      | nil =>
        intro w
        refine wpAny_handleBy_nil ?_
        obtain ⟨k1, k2, k3, oe, vs, T, oT, ts', he, hz, hd, h1, hr⟩ := id fz3
        unfold PySem.passOn
        refine wpAny_bind (wpAny_field he hd h1 ?_)
        rw [if_neg (show ¬ ((Value.ref T == Value.none) = true) from by simp)]
        have fin : wpAny (model X.prog X.w) X.A (setFlight (.ref a) X.env.frame) (fun _ s4 => wpAny (model X.prog X.w) X.A (throw (.ref a) : Sem Flow) (SP X pins D) X.xe s4) X.xe { s' with heap := h3 } := by
          rw [hf]
          refine HandSPX.setFlight_upZ fz3 fun h4 hh4 ut4 => wpAny_throw (tk _ _ ?_)
          exact ⟨a, B, sI, pins, σ', H', cls, d, rfl, J, nb, (up.trans ut3).trans ut4, .inr (.inr (by rw [hs]; exact hh4)), na, os, ag, w⟩
        first
          | exact wpAny_bind (wpAny_pure (wpAny_bind fin))
          | exact wpAny_bind fin
      | @cons x c ts b₀ suite np pos' hds2 l2 hc hsu r ih =>
        intro w
        obtain ⟨b, hx1, yes, nay⟩ := w
        refine wpAny_handleBy_cons (codeAny_handlers_test ?_) (by intro q; cases q)
        have lkT : PySem.W.Looks (model X.prog X.w) h3 (typeOf (.ref a)) cls := fun A Q E s k q => wpAny_typeOf_ref (k _ _ ob3) (by rw [zc3.1]; exact q)
        have lkM := PySem.W.exm_one (M := model X.prog X.w) (Jn3.kIn) lkT hx1
        have test : ∀ {Q : Value → Shared → Prop} {E : Value → Shared → Prop}, Q c { s' with heap := h3 } → wpAny (model X.prog X.w) (X.A.mark (some (.ref a))) (eval (.Name x np) X.env) Q E { s' with heap := h3 } := fun {Q E} q => by
          obtain ⟨hg, hdbg, hm | ⟨hm, hv, hnn⟩⟩ := hc
          · exact ld_glob (X := X.suite a ((a, ox3) :: (X.pn ++ pins))) In3 hg hm q hdbg
          · exact ld_blt (X := X.suite a ((a, ox3) :: (X.pn ++ pins))) In3 hg hm hv q hnn hdbg
        refine test (lkM.here ?_)
        cases b with
        | true =>
          refine codeAny_handlers_suite ?_
          refine HandSPX.lands_againZ fz3 fun h4 fz4 ut4 => ?_
          have Jn4 : Inv X pins σ' H' { s' with heap := h4 } := J.landed nb fz4.1 ((up.trans ut3).trans ut4) os ag
          obtain ⟨ox4, xs4, ob4, zc4, dt4⟩ := fz4.there
          have In4 := Jn4.suite ob4 dt4 na offL offS
          refine wpAny_mono ((hsu a ox4 cls d (X.pn ++ pins) zc4 ⟨_, dt4⟩).run [] _ _ H' _ In4 (yes rfl a na)) (fun f t6 back => ?_) (fun _ _ z => False.elim z)
          cases f with
          | next =>
            obtain ⟨σb, Hb, Inb, qb⟩ := back
            exact ⟨_, _, Inb.unsuite ok, qb⟩
          | brk =>
            obtain ⟨σb, Hb, Inb, qb⟩ := back
            exact ⟨_, _, Inb.unsuite ok, qb⟩
          | cont =>
            obtain ⟨σb, Hb, Inb, qb⟩ := back
            exact ⟨_, _, Inb.unsuite ok, qb⟩
          | ret u =>
            obtain ⟨vb, σb, Hb, Inb, rb, qb⟩ := back
            exact ⟨_, _, _, Inb.unsuite ok, rb, qb⟩
        | false =>
          show wpAny _ X.A (handleBy (.ref a) X.env hds2) _ _ _
          exact ih (nay rfl)
      | @consN x n i c ts b₀ suite np pos' hds2 l2 hN hi hln hc hsu r ih =>
        intro w
        obtain ⟨b, hx1, yes, nay⟩ := w
        have hloc : Loc X.env.scope n := .inl hln
        refine wpAny_handleBy_cons (codeAny_handlers_test ?_) (by intro q; cases q)
        have lkT : PySem.W.Looks (model X.prog X.w) h3 (typeOf (.ref a)) cls := fun A Q E s k q => wpAny_typeOf_ref (k _ _ ob3) (by rw [zc3.1]; exact q)
        have lkM := PySem.W.exm_one (M := model X.prog X.w) (Jn3.kIn) lkT hx1
        have test : ∀ {Q : Value → Shared → Prop} {E : Value → Shared → Prop}, Q c { s' with heap := h3 } → wpAny (model X.prog X.w) (X.A.mark (some (.ref a))) (eval (.Name x np) X.env) Q E { s' with heap := h3 } := fun {Q E} q => by
          obtain ⟨hg, hdbg, hm | ⟨hm, hv, hnn⟩⟩ := hc
          · exact ld_glob (X := X.suite a ((a, ox3) :: (X.pn ++ pins))) In3 hg hm q hdbg
          · exact ld_blt (X := X.suite a ((a, ox3) :: (X.pn ++ pins))) In3 hg hm hv q hnn hdbg
        refine test (lkM.here ?_)
        cases b with
        | true =>
          refine codeAny_handlers_suite_as ?_
          refine HandSPX.lands_againZ fz3 fun h4 fz4 ut4 => ?_
          have Jn4 : Inv X pins σ' H' { s' with heap := h4 } := J.landed nb fz4.1 ((up.trans ut3).trans ut4) os ag
          obtain ⟨ox4, xs4, ob4, zc4, dt4⟩ := fz4.there
          have In4 := Jn4.suite ob4 dt4 na offL offS
          refine store_ok (X := X.suite a ((a, ox4) :: (X.pn ++ pins))) (v := .ref a) In4 hN hi hloc rfl (fun t5 In5 => ?_) (.inr hln)
          refine wpAny_mono ((hsu a ox4 cls d (X.pn ++ pins) zc4 ⟨_, dt4⟩).run [] t5 _ H' _ In5 (yes rfl a na)) (fun f t6 back => ?_) (fun _ _ z => False.elim z)
          have gone : ∀ {σb : St} {Hb : Hp} {Q : Shared → Prop}, Inv (X.suite a ((a, ox4) :: (X.pn ++ pins))) [] σb Hb t6 → (∀ s7, Inv X pins (σb.set i none) Hb s7 → Q s7) →
              wpAny (model X.prog X.w) X.A (do bindName X.env n .none; unbindBehindTheSuite X.env n pos') (fun _ s7 => Q s7) X.xe t6 := fun {σb Hb Q} Inb hq => gone_ok (Inb.unsuite ok) hN hi hln hq
          cases f with
          | next =>
            obtain ⟨σb, Hb, Inb, qb⟩ := back
            exact gone Inb fun s7 J7 => ⟨_, _, J7, qb⟩
          | brk =>
            obtain ⟨σb, Hb, Inb, qb⟩ := back
            exact gone Inb fun s7 J7 => ⟨_, _, J7, qb⟩
          | cont =>
            obtain ⟨σb, Hb, Inb, qb⟩ := back
            exact gone Inb fun s7 J7 => ⟨_, _, J7, qb⟩
          | ret u =>
            obtain ⟨vb, σb, Hb, Inb, rb, qb⟩ := back
            exact gone Inb fun s7 J7 => ⟨_, _, _, J7, rb, qb⟩
        | false =>
          show wpAny _ X.A (handleBy (.ref a) X.env hds2) _ _ _
          exact ih (nay rfl)
    exact go hh w
  · cases f with
    | next =>
      obtain ⟨σ', H', J', q⟩ := back
      exact wpAny_execs_nil ⟨σ', H', J'.ofTry ok, q⟩
    | brk =>
      obtain ⟨σ', H', J', q⟩ := back
      exact ⟨σ', H', J'.ofTry ok, q⟩
    | cont =>
      obtain ⟨σ', H', J', q⟩ := back
      exact ⟨σ', H', J'.ofTry ok, q⟩
    | ret u =>
      obtain ⟨v, σ', H', J', r, q⟩ := back
      exact ⟨v, σ', H', J'.ofTry ok, r, q⟩
end
def lstR (K : PySem.W.Frag) : List V → Hp → VK → Prop := fun xs H Q => ∃ p ys, xs = [.ref p] ∧ (SqL K H p ys ∨ SqT K H p ys) ∧ ∀ l, H l = none → Q (.ref l) (upd H l (.lst ys))
theorem call_listK {X : Cx} {K : PySem.W.Frag} (h : X.K = K) : CallR X (.type "list") (lstR K) := by
  subst h
  exact call_list_of
end L2N

namespace Pv
open PySem L2 Evl Pm
local macro_rules | `(tactic| walk_at "r1") => `(tactic| first
  | refine ⟨_, rfl, ?_⟩
  | refine ⟨rfl, ?_⟩
  | refine ⟨_, _, rfl, rfl, (show (_ : Prop) from by first | decide | omega | assumption | exact Or.inr ⟨by decide, by decide⟩ | exact Or.inl ⟨by omega, by omega⟩ | exact ⟨by decide, by decide, by decide⟩ | exact ⟨by decide, by decide⟩ | exact wide_div (b := 60) (by omega) (by omega) (by decide) (by decide)), ?_⟩
  | refine ⟨_, _, rfl, rfl, ?_⟩
  | refine ⟨_, _, _, _, rfl, rfl, (show (_ : Prop) from by first | exact SqL.of (by assumption) | exact SqL.of upd_same | assumption | exact upd_same), rfl, ?_⟩
  | refine Or.inl ⟨_, rfl, ?_⟩)
local macro_rules | `(tactic| walk_at "ex") => `(tactic| first | exact Ex.refl _ | assumption | (refine ex_new ?_ (by assumption); walk_at "ex"))
local macro_rules | `(tactic| walk_at "r") => `(tactic| repeat (walk_at "r1"))

section
variable {P : Program} {w : World} {K : PySem.W.Frag} {mg : Str → Option Value} {base : Heap} {A : Ad}
theorem strip_getD_of {xs : List Int} {k : Nat} {z : Int} (h : xs[k]? = some z) : xs.getD k 0 = z := by
  rw [List.getD_eq_getElem?_getD, h]
  rfl
theorem markV_int {xs : List Int} {i : Nat} {y : V} (h : (xs.map V.int)[i]? = some y) : ∃ z, xs[i]? = some z ∧ y = V.int z := by
  rw [List.getElem?_map] at h
  cases e : xs[i]? with
  | none => rw [e] at h; cases h
  | some z =>
    rw [e] at h
    exact ⟨z, rfl, (Option.some.inj h).symm⟩
theorem deq (x y : Nat) : decide (V.int (x : Int) = V.int (y : Int)) = decide (x = y) := by
  by_cases c : x = y
  · rw [c, decide_eq_true rfl, decide_eq_true rfl]
  · rw [decide_eq_false c, decide_eq_false]
    intro h
    injection h with h
    exact c (Int.ofNat.inj h)
theorem dne (x y : Nat) : (!decide (V.int (x : Int) = V.int (y : Int))) = decide (x ≠ y) := by
  rw [deq]
  by_cases c : x = y
  · rw [decide_eq_true c, decide_eq_false (fun h => h c)]
    rfl
  · rw [decide_eq_false c, decide_eq_true c]
    rfl
theorem atLast {l : List Nat} (h : 0 < l.length) : atI (nI l) (-1) = some (V.int ((gt l (l.length - 1) : Nat) : Int)) := by
  have e : l = l.take (l.length - 1) ++ [gt l (l.length - 1)] := by
    have t := take_succ' (l := l) (q := l.length - 1) (by omega)
    rw [show l.length - 1 + 1 = l.length by omega, List.take_length] at t
    exact t
  have g := atI_last (nI (l.take (l.length - 1))) (V.int ((gt l (l.length - 1) : Nat) : Int))
  rw [← nI_app, ← e] at g
  exact g
theorem rgN (n : Nat) : rgV 0 (n : Int) = nI (List.range n) := by
  rw [rgV_map, List.map_map]
  rfl
theorem cutDrop {l : List Nat} {k : Nat} (h : k ≤ l.length) : cutV (nI l) (some (k : Int)) none = nI (l.drop k) := by
  unfold cutV
  rw [HT.sIx_nat, HT.sIx_none, nI_len, Nat.min_eq_left h]
  unfold nI
  rw [← List.map_drop, ← List.map_take, List.take_of_length_le (by rw [List.length_drop]; exact Nat.le_refl _)]
theorem cutTake {l : List Nat} {k : Nat} (h : k ≤ l.length) : cutV (nI l) none (some (k : Int)) = nI (l.take k) := by
  unfold cutV
  rw [HT.sIx_nat, HT.sIx_none, nI_len, Nat.min_eq_left h, Nat.sub_zero]
  unfold nI
  rw [List.drop_zero, List.map_take]
theorem cat_nI {l m : List Nat} : nI l ++ nI m = nI (l ++ m) := (List.map_append ..).symm
theorem rev_nI {l : List Nat} : (nI l).reverse = nI l.reverse := (List.map_reverse ..).symm
theorem tail_nI {l : List Nat} : (nI l).tail = nI l.tail := (List.map_tail ..).symm
theorem nat_in {x : Nat} {xs : List Nat} : inV (V.int (x : Int)) (nI xs) = decide (x ∈ xs) := by
  rw [inV_nI, Bool.eq_iff_iff, decide_eq_true_eq]
  exact List.contains_iff_mem
theorem ok_InvalidImage (T : Txt K mg A)   : Okd P w K mg base CX0 1 A.i_InvalidImage P_InvalidImage (spInit A.InvalidImage "record") := by
  obtain ⟨fd, F⟩ := T.f_InvalidImage.fn

  refine ⟨fd, F.ok sc_InvalidImage (fun vs H Q E h => ?_) (fun cdv A' outer s H vs Q E hr h => ?_), F.binds fun _ _ _ _ _ _ us hl => match us, hl with | [_, _], _ => rfl⟩
  · obtain ⟨a, v, rfl, _⟩ := h
    rfl
  · obtain ⟨a, v, rfl, ha, k⟩ := h
    refine ⟨_, (pss_one (ps_ost (pv 0) (pv 1))), ?_⟩
    exact ⟨_, rfl, _, rfl, a, A.InvalidImage, rfl, T.e_InvalidImage.oex, T.f_InvalidImage.nf, Or.inl ⟨ha, fun dx hdx ne => k dx hdx ne⟩⟩


theorem ok_NotState (T : Txt K mg A)   : Okd P w K mg base CX0 1 A.i_NotState P_NotState (spInit A.NotState "record") := by
  obtain ⟨fd, F⟩ := T.f_NotState.fn

  refine ⟨fd, F.ok sc_NotState (fun vs H Q E h => ?_) (fun cdv A' outer s H vs Q E hr h => ?_), F.binds fun _ _ _ _ _ _ us hl => match us, hl with | [_, _], _ => rfl⟩
  · obtain ⟨a, v, rfl, _⟩ := h
    rfl
  · obtain ⟨a, v, rfl, ha, k⟩ := h
    refine ⟨_, (pss_one (ps_ost (pv 0) (pv 1))), ?_⟩
    exact ⟨_, rfl, _, rfl, a, A.NotState, rfl, T.e_NotState.oex, T.f_NotState.nf, Or.inl ⟨ha, fun dx hdx ne => k dx hdx ne⟩⟩

end

section
variable {P : Program} {w : World} {K : PySem.W.Frag} {mg : Str → Option Value} {base : Heap} {A : Ad}
theorem ref_at {ts : List Addr} {i : Nat} {x : V} (h : (ts.map V.ref)[i]? = some x) : ∃ t, ts[i]? = some t ∧ x = V.ref t := by
  rw [List.getElem?_map] at h
  cases z : ts[i]? with
  | none => rw [z] at h; cases h
  | some y => rw [z] at h; exact ⟨y, rfl, (Option.some.inj h).symm⟩
theorem atR {ts : List Addr} {i : Nat} {t : Addr} (h : ts[i]? = some t) : atI (ts.map V.ref) (i : Int) = some (V.ref t) := atI_nat (by rw [List.getElem?_map, h]; rfl)
theorem app_at {α β : Type} {R : α → β → Prop} {us : List α} {fs : List β} {t : α} {e : β} (ul : us.length = fs.length) (h : ∀ (k : Nat) (a : α) (b : β), us[k]? = some a → fs[k]? = some b → R a b) (h1 : R t e)   : ∀ (k : Nat) (a : α) (b : β), (us ++ [t])[k]? = some a → (fs ++ [e])[k]? = some b → R a b := by
  intro k a b ha hb
  by_cases c : k < us.length
  · rw [List.getElem?_append_left c] at ha
    rw [List.getElem?_append_left (by omega)] at hb
    exact h k a b ha hb
  · rw [List.getElem?_append_right (by omega)] at ha
    rw [List.getElem?_append_right (by omega), ← ul] at hb
    match hz : k - us.length with
    | 0 =>
      rw [hz] at ha hb
      have ha := Option.some.inj ha
      have hb := Option.some.inj hb
      rw [← ha, ← hb]
      exact h1
    | z + 1 =>
      rw [hz] at ha
      cases ha
theorem ins_at {α β : Type} {R : α → β → Prop} {us : List α} {fs : List β} {t : α} {e : β} {j : Nat} (ul : us.length = fs.length) (hj : j ≤ us.length) (h : ∀ (k : Nat) (a : α) (b : β), us[k]? = some a → fs[k]? = some b → R a b) (h1 : R t e)   : ∀ (k : Nat) (a : α) (b : β), (us.take j ++ [t] ++ us.drop j)[k]? = some a → (fs.take j ++ [e] ++ fs.drop j)[k]? = some b → R a b := by
  intro k a b ha hb
  rw [List.append_assoc, List.getElem?_append, List.length_take, Nat.min_eq_left hj] at ha
  rw [List.append_assoc, List.getElem?_append, List.length_take, Nat.min_eq_left (by omega)] at hb
  by_cases c : k < j
  · rw [if_pos c, List.getElem?_take_of_lt c] at ha hb
    exact h k a b ha hb
  · rw [if_neg c] at ha hb
    match hz : k - j with
    | 0 =>
      rw [hz] at ha hb
      have ha := Option.some.inj ha
      have hb := Option.some.inj hb
      rw [← ha, ← hb]
      exact h1
    | z + 1 =>
      rw [hz] at ha hb
      have ha : (us.drop j)[z]? = some a := ha
      have hb : (fs.drop j)[z]? = some b := hb
      rw [List.getElem?_drop] at ha hb
      exact h _ a b ha hb
theorem w4_eq {i j : Nat} (hi : i < 4) (hj : j < 4) : decide (V.str (w4 i) = V.str (w4 j)) = decide (i = j) := by
  by_cases c : i = j
  · rw [c, decide_eq_true rfl, decide_eq_true rfl]
  · rw [decide_eq_false c, decide_eq_false]
    intro h
    injection h with h
    have all : ∀ i, i < 4 → ∀ j, j < 4 → i ≠ j → w4 i ≠ w4 j := by decide +kernel
    exact all i hi j hj c h
theorem w4_pair {i : Nat} (hi : i < 4) : decide (V.str (w4 i) = V.str (Str.ofString "pair")) = decide (i = 1) := w4_eq (j := 1) hi (by decide)
theorem w4_chain {i : Nat} (hi : i < 4) : decide (V.str (w4 i) = V.str (Str.ofString "chain")) = decide (i = 2) := w4_eq (j := 2) hi (by decide)
theorem w4_ring {i : Nat} (hi : i < 4) : decide (V.str (w4 i) = V.str (Str.ofString "ring")) = decide (i = 3) := w4_eq (j := 3) hi (by decide)
end

section
variable {P : Program} {w : World} {K : PySem.W.Frag} {mg : Str → Option Value} {base : Heap} {A : Ad}
theorem ifF {b : Bool} {p q : Prop} (h : b = false) (k : q) : if b = true then p else q := by
  rw [h]
  exact iteF k
theorem ifT {b : Bool} {p q : Prop} (h : b = true) (k : p) : if b = true then p else q := by
  rw [h]
  exact iteT k
theorem ndec {p : Prop} [Decidable p] (h : p) : (!decide p) = false := by
  rw [decide_eq_true h]
  rfl
theorem bit1 : ∀ n, n < 200 → Builtin.bitAnd ((n : Nat) : Int) 1 = ((n % 2 : Nat) : Int) := by decide +kernel
theorem inCR : ∀ w, w < 4 → inV (V.str (w4 w)) [V.str (Str.ofString "chain"), V.str (Str.ofString "ring")] = decide (1 < w) := by decide +kernel
theorem flat_few : ∀ {ps : List Pc}, (∀ p ∈ ps, 0 < p.2.1.length) → ps.length ≤ (ps.flatMap (·.2.1)).length
  | [], _ => Nat.zero_le _
  | p :: ps, h => by
    have ih := flat_few (ps := ps) fun q hq => h q (List.mem_cons_of_mem _ hq)
    have := h p (List.mem_cons_self ..)
    rw [List.flatMap_cons, List.length_append, List.length_cons]
    omega
theorem Cut.few {n : Nat} {ps : List Pc} (C : Cut n ps) : ps.length ≤ n := by
  have := flat_few fun p hp => (C.ok p hp).pos
  have e := C.perm.length_eq
  rw [List.length_range] at e
  omega
theorem Cut.lt {n : Nat} {ps : List Pc} (C : Cut n ps) {p : Pc} (hp : p ∈ ps) : ∀ x ∈ p.2.1, x < n := fun x hx => List.mem_range.mp (C.perm.mem_iff.mp (List.mem_flatMap.mpr ⟨p, hp, hx⟩))
theorem Cut.len {n : Nat} {ps : List Pc} (C : Cut n ps) {p : Pc} (hp : p ∈ ps) : p.2.1.length ≤ n := nodup_len (C.ok p hp).nd (C.lt hp)
theorem Cut.nd {n : Nat} {ps : List Pc} (C : Cut n ps) : (ps.flatMap (·.2.1)).Nodup := C.perm.nodup_iff.mpr List.nodup_range
theorem one_least {i : Nat} : ∀ {ps : List Pc}, (ps.flatMap (·.2.1)).Nodup → (∀ p ∈ ps, PcOk p) → ps.filter (fun p => isCR p && decide (mn p.2.1 = i)) = (atJ ps i).toList
  | [], _, _ => rfl
  | a :: ps, nd, ok => by
    rw [List.flatMap_cons, List.nodup_append] at nd
    have ih := one_least (i := i) nd.2.1 fun p hp => ok p (List.mem_cons_of_mem _ hp)
    unfold atJ at *
    rw [List.filter_cons, List.find?_cons]
    by_cases c : (isCR a && decide (mn a.2.1 = i)) = true
    · rw [c, if_pos rfl]
      have : ps.filter (fun p => isCR p && decide (mn p.2.1 = i)) = [] := by
        rw [List.filter_eq_nil_iff]
        intro p hp c2
        rw [Bool.and_eq_true, decide_eq_true_eq] at c c2
        exact nd.2.2 _ (mn_in (ok a (List.mem_cons_self ..))) _ (List.mem_flatMap.mpr ⟨p, hp, mn_in (ok p (List.mem_cons_of_mem _ hp))⟩) (c.2.trans c2.2.symm)
      rw [this]
      rfl
    · have c := Bool.not_eq_true _ ▸ c
      rw [c, if_neg (by decide)]
      exact ih
end

section
variable {P : Program} {w : World} {K : PySem.W.Frag} {mg : Str → Option Value} {base : Heap} {A : Ad}
theorem ok_law_kept (T : Txt K mg A)  (g_law_due_kind : Okd P w K mg base CX0 2 A.law_due_kind P_law_due_kind spDk) (g_parts : Okd P w K mg base (L2N.CX P w) 6 A.parts P_parts (spPts A)) (g_law_due_parts : Okd P w K mg base CX0 3 A.law_due_parts P_law_due_parts spDp) (g_law_parts_told : Okd P w K mg base CX0 3 A.law_parts_told P_law_parts_told spPtd) (g_kind_of : Okd P w K mg base (L2N.CX P w) 7 A.kind_of P_kind_of (spKd A)) (g_law_kind_told : Okd P w K mg base CX0 2 A.law_kind_told P_law_kind_told spKtd) (g_m_init : Okd P w K mg base (L2N.CX P w) 6 A.m_init P_m_init (spUi A)) (g_law_row : Okd P w K mg base CX0 2 A.law_row P_law_row spRw) (g_law_spoil : Okd P w K mg base CX0 1 A.law_spoil P_law_spoil spSpl) (g_m_kind : Okd P w K mg base CX0 8 A.m_kind P_m_kind (spUk A)) : Okd P w K mg base CX0 10 A.law_kept P_law_kept spKp := by
  obtain ⟨fd, F⟩ := T.d_law_kept
  obtain ⟨fd_law_due_kind, G_law_due_kind, b_law_due_kind⟩ := g_law_due_kind
  obtain ⟨fd_parts, G_parts, b_parts⟩ := g_parts
  obtain ⟨fd_law_due_parts, G_law_due_parts, b_law_due_parts⟩ := g_law_due_parts
  obtain ⟨fd_law_parts_told, G_law_parts_told, b_law_parts_told⟩ := g_law_parts_told
  obtain ⟨fd_kind_of, G_kind_of, b_kind_of⟩ := g_kind_of
  obtain ⟨fd_law_kind_told, G_law_kind_told, b_law_kind_told⟩ := g_law_kind_told
  obtain ⟨fd_m_init, G_m_init, b_m_init⟩ := g_m_init
  obtain ⟨fd_law_row, G_law_row, b_law_row⟩ := g_law_row
  obtain ⟨fd_law_spoil, G_law_spoil, b_law_spoil⟩ := g_law_spoil
  obtain ⟨fd_m_kind, G_m_kind, b_m_kind⟩ := g_m_kind
  refine ⟨fd, F.ok sc_law_kept (fun vs H Q E h => ?_) (fun cdv A' outer s H vs Q E hr h => ?_), F.binds fun _ _ _ _ _ _ us hl => match us, hl with | [_, _, _, _, _], _ => rfl⟩
  · obtain ⟨q, a, b, n, f, ps, A0, B0, rfl, _⟩ := h
    rfl
  · obtain ⟨q, a, b, n, f, ps, A0, B0, rfl, hn, hq, C, ha, hb, BL, k⟩ := h
    refine ⟨_, (pss_cons (ps_set (i := 5) sc_law_kept.nd rfl (Or.inl rfl) (pe_call G_law_due_kind (hr.mono (by decide)) (by rfl) T.g_law_due_kind T.k_law_due_kind b_law_due_kind .nil pass0 (pa_cons (pv 0) (pa_cons (pv 4) pa_nil))))
      (pss_cons (ps_set (i := 6) sc_law_kept.nd rfl (Or.inl rfl) (pe_lst (pa_cons (pe_callTy call_list_of (by rfl) T.n_list (by decide +kernel) (pa_cons (pv 2) pa_nil)) (pa_cons (pe_callTy call_list_of (by rfl) T.n_list (by decide +kernel) (pa_cons (pv 3) pa_nil)) pa_nil))))
      (pss_cons (ps_if (pt_not (pt_val (pe_call G_law_parts_told (hr.mono (by decide)) (by rfl) T.g_law_parts_told T.k_law_parts_told b_law_parts_told .nil pass0 (pa_cons (pe_callS G_parts (hr.mono (by decide)) rfl T.g_parts T.k_parts b_parts (fun σ => L2N.passAt L2N.takes0N σ) (pa_cons (pe_ix ix_list (pv 6) pe_int (fun _ _ => rfl)) (pa_cons (pe_ix ix_list (pv 6) pe_int (fun _ _ => rfl)) pa_nil))) (pa_cons (pe_call G_law_due_parts (hr.mono (by decide)) (by rfl) T.g_law_due_parts T.k_law_due_parts b_law_due_parts .nil pass0 (pa_cons (pv 0) (pa_cons (pv 1) (pa_cons (pv 2) pa_nil)))) pa_nil))))) (pss_one (ps_ret pe_bl)) pss_nil)
      (pss_cons (ps_if (pt_not (pt_val (pe_call G_law_kind_told (hr.mono (by decide)) (by rfl) T.g_law_kind_told T.k_law_kind_told b_law_kind_told .nil pass0 (pa_cons (pe_callS G_kind_of (hr.mono (by decide)) rfl T.g_kind_of T.k_kind_of b_kind_of (fun σ => L2N.passAt L2N.takes0N σ) (pa_cons (pe_ix ix_list (pv 6) pe_int (fun _ _ => rfl)) (pa_cons (pe_ix ix_list (pv 6) pe_int (fun _ _ => rfl)) pa_nil))) (pa_cons (pv 5) pa_nil))))) (pss_one (ps_ret pe_bl)) pss_nil)
      (pss_cons (ps_set (i := 7) sc_law_kept.nd rfl (Or.inl rfl) (DaS.pe_makeP T.mkR G_m_init (hr.mono (by decide)) (by rfl) T.g_Update b_m_init (fun σ => L2N.passAt L2N.takes0N σ) (pa_cons (pe_ix ix_list (pv 6) pe_int (fun _ _ => rfl)) (pa_cons (pe_ix ix_list (pv 6) pe_int (fun _ _ => rfl)) pa_nil))))
      (pss_cons (ps_if (PW.pt (pw_or (pt_not (pt_val (pe_call G_law_row (hr.mono (by decide)) (by rfl) T.g_law_row T.k_law_row b_law_row .nil pass0 (pa_cons (pe_ix ix_list (pv 6) pe_int (fun _ _ => rfl)) (pa_cons (pv 2) pa_nil))))) (pw_or1 (pt_not (pt_val (pe_call G_law_row (hr.mono (by decide)) (by rfl) T.g_law_row T.k_law_row b_law_row .nil pass0 (pa_cons (pe_ix ix_list (pv 6) pe_int (fun _ _ => rfl)) (pa_cons (pv 3) pa_nil)))))))) (pss_one (ps_ret pe_bl)) pss_nil)
      (pss_cons (ps_expr (pe_call G_law_spoil (hr.mono (by decide)) (by rfl) T.g_law_spoil T.k_law_spoil b_law_spoil .nil pass0 (pa_cons (pe_ix ix_list (pv 6) pe_int (fun _ _ => rfl)) pa_nil)))
      (pss_cons (ps_expr (pe_call G_law_spoil (hr.mono (by decide)) (by rfl) T.g_law_spoil T.k_law_spoil b_law_spoil .nil pass0 (pa_cons (pe_ix ix_list (pv 6) pe_int (fun _ _ => rfl)) pa_nil)))
      (pss_one (ps_ret (pe_call G_law_kind_told (hr.mono (by decide)) (by rfl) T.g_law_kind_told T.k_law_kind_told b_law_kind_told .nil pass0 (pa_cons (pe_prop (pv 7) T.cR T.pp_kind G_m_kind (hr.mono (by decide)) b_m_kind .nil pass0 rfl) (pa_cons (pv 5) pa_nil))))))))))))), ?_⟩
    have few := C.few
    obtain ⟨sA, sB⟩ := BL.sta
    have f64 := BL.hf
    have al : A0.length = n := BL.la
    have bl : B0.length = n := BL.lb
    have nofault : faultF (toI A0) (toI B0) = none := by
      unfold faultF
      rw [(sta_fault sA).2]
      simp only [(sta_fault sB).2]
      rw [if_neg (fun h => h (by rw [toI_len, toI_len, al, bl]))]
    have elen : (entsD f ps).length ≤ 64 := by
      unfold entsD
      rw [List.length_map]
      exact Nat.le_trans (List.length_filter_le _ _) (by omega)
    refine ⟨_, rfl, _, rfl, q, n, f, ps, rfl, f64, hn, hq, C, fun d es H1 hd e1 EA pm pw => ?_⟩
    have esl : es.length ≤ 64 := by rw [pm.length_eq]; exact elen
    have same : ∀ es' : List Ent, es'.Perm (entsF A0 B0 n) → es'.Pairwise (fun e f => leE e f = true) → es' = es := fun es' p1 p2 => sorted_one ((p1.trans (BL.ents hn)).trans pm.symm) p2 pw
    refine ⟨_, rfl, a, _, rfl, Or.inl (ha.ex e1).sz, fun p1 hp1 => ?_⟩
    have E1 := Ex.new (o := .lst (nI A0)) hp1
    have l1 : ListN (upd H1 p1 (.lst (nI A0))) p1 A0 := upd_same
    generalize upd H1 p1 (.lst (nI A0)) = H2 at E1 l1 ⊢
    refine ⟨_, rfl, b, _, rfl, Or.inl ((hb.ex e1).ex E1).sz, fun p2 hp2 => ?_⟩
    have n12 : p1 ≠ p2 := ne_of_none (show H2 p1 = some _ from l1) hp2
    have E2 := Ex.new (o := .lst (nI B0)) hp2
    have l12 := l1.ex E2
    have l2 : ListN (upd H2 p2 (.lst (nI B0))) p2 B0 := upd_same
    generalize upd H2 p2 (.lst (nI B0)) = H3 at E2 l12 l2 ⊢
    refine ⟨(by show 2 ≤ sizeLine; decide), fun pl hpl => ?_⟩
    have n1l : p1 ≠ pl := ne_of_none (show H3 p1 = some _ from l12) hpl
    have n2l : p2 ≠ pl := ne_of_none (show H3 p2 = some _ from l2) hpl
    have E3 := Ex.new (o := .lst [V.ref p1, V.ref p2]) hpl
    have lp : upd H3 pl (.lst [V.ref p1, V.ref p2]) pl = some (.lst [V.ref p1, V.ref p2]) := upd_same
    have m1 := l12.ex E3
    have m2 := l2.ex E3
    have e14 := (E1.trans E2).trans E3
    generalize upd H3 pl (.lst [V.ref p1, V.ref p2]) = H4 at lp m1 m2 e14 ⊢
    have fp1 : H p1 = none := back_none e1 hp1
    have fp2 : H p2 = none := back_none (e1.trans E1) hp2
    have fp2' : H1 p2 = none := back_none E1 hp2
    refine ⟨_, rfl, pl, _, _, _, rfl, rfl, SqL.of lp, atI_nat (j := 0) rfl, _, rfl, pl, _, _, _, rfl, rfl, SqL.of lp, atI_nat (j := 1) rfl, p1, p2, toI A0, toI B0, rfl, m1.int, m2.int, by rw [toI_len]; omega, by rw [toI_len]; omega, fun _ t H5 ht e5 PT => ?_, fun g hg => by rw [nofault] at hg; cases hg⟩
    rw [toI_nat, toI_nat, toI_len, al, BL.parts n (Nat.le_refl _)] at PT
    have e05 := (e1.trans e14).trans e5
    have hq5 : PcsAt H5 q ps := hq.ex e05
    refine ⟨_, rfl, _, rfl, _, rfl, q, a, n, ps, A0, rfl, hn, hq5, ha.ex e05, al, C, fun du H6 hdu e6 PD => ?_⟩
    have jl : (psJ ps n).length ≤ n := by
      unfold psJ
      exact Nat.le_trans (List.length_filterMap_le _ _) (by rw [List.length_range]; exact Nat.le_refl _)
    refine ⟨t, du, (psJ ps n).map (outP A0), rfl, PT.ex e6, PD, by rw [List.length_map]; omega, fun c hc => ?_, fun H7 e7 => ⟨true, rfl, iteF ?_⟩⟩
    · obtain ⟨p, hp, rfl⟩ := List.mem_map.mp hc
      obtain ⟨x, _, hx⟩ := List.mem_filterMap.mp hp
      have := C.len (atJ_some hx).1
      show (canonP A0 p).length ≤ 200
      rw [canonP_perm.length_eq]
      omega
    have e47 := (e5.trans e6).trans e7
    have lp7 := e47 _ _ lp
    refine ⟨_, rfl, pl, _, _, _, rfl, rfl, SqL.of lp7, atI_nat (j := 0) rfl, _, rfl, pl, _, _, _, rfl, rfl, SqL.of lp7, atI_nat (j := 1) rfl, p1, p2, toI A0, toI B0, rfl, (m1.ex e47).int, (m2.ex e47).int, by rw [toI_len]; omega, by rw [toI_len]; omega, fun _ t2 es2 H8 ht2 e8 p2a p2b KT => ?_, fun g hg => by rw [nofault] at hg; cases hg⟩
    rw [toI_nat, toI_nat, toI_len, al] at p2a
    rw [same es2 p2a p2b] at KT
    have e18 := (e14.trans e47).trans e8
    refine ⟨_, rfl, t2, d, es, rfl, KT, EA.ex e18, by omega, fun H9 e9 => ⟨true, rfl, iteF ?_⟩⟩
    have e49 := (e47.trans e8).trans e9
    have lp9 := e49 _ _ lp
    refine ⟨_, rfl, pl, _, _, _, rfl, rfl, SqL.of lp9, atI_nat (j := 0) rfl, _, rfl, pl, _, _, _, rfl, rfl, SqL.of lp9, atI_nat (j := 1) rfl, fun u dx hu hdx nux => ?_⟩
    have ea : Ex H9 (upd (upd H9 dx (.own u)) u (.ins A.Update dx [])) := fun x o h => by
      rw [upd_ne (ne_of_none h hu), upd_ne (ne_of_none h hdx)]
      exact h
    have hua : upd (upd H9 dx (.own u)) u (.ins A.Update dx []) u = some (.ins A.Update dx []) := upd_same
    generalize upd (upd H9 dx (.own u)) u (.ins A.Update dx []) = Ha at ea hua ⊢
    have e4a := e49.trans ea
    refine ⟨u, p1, p2, dx, toI A0, toI B0, rfl, hua, (m1.ex e4a).int, (m2.ex e4a).int, by rw [toI_len]; omega, by rw [toI_len]; omega, fun _ ub ua Hb hub hua2 nba Kb hu2 lub lua => ?_, fun g hg => by rw [nofault] at hg; cases hg⟩
    rw [toI_nat] at lub lua
    have e9b : Ex H9 Hb := fun x o h => Kb x o (ne_of_none h hu) (ea _ _ h)
    have e4b := e49.trans e9b
    have nubu : ub ≠ u := fun z => by rw [z, hua] at hub; cases hub
    have nuau : ua ≠ u := fun z => by rw [z, hua] at hua2; cases hua2
    have g1 : Ha p1 ≠ none := fun z => by have h : Ha p1 = some _ := e4a _ _ m1; rw [z] at h; cases h
    have g2 : Ha p2 ≠ none := fun z => by have h : Ha p2 = some _ := e4a _ _ m2; rw [z] at h; cases h
    have nu1 : u ≠ p1 := fun z => by have h : H9 p1 = some _ := e49 _ _ m1; rw [← z, hu] at h; cases h
    have nu2 : u ≠ p2 := fun z => by have h : H9 p2 = some _ := e49 _ _ m2; rw [← z, hu] at h; cases h
    have nub1 : ub ≠ p1 := fun z => g1 (z ▸ hub)
    have nub2 : ub ≠ p2 := fun z => g2 (z ▸ hub)
    have nua1 : ua ≠ p1 := fun z => g1 (z ▸ hua2)
    have nua2 : ua ≠ p2 := fun z => g2 (z ▸ hua2)
    refine ⟨rfl, ?_⟩
    have lpb := e4b _ _ lp
    have e0b := (e1.trans e14).trans e4b
    refine ⟨_, rfl, pl, _, _, _, rfl, rfl, SqL.of lpb, atI_nat (j := 0) rfl, _, rfl, p1, a, A0, rfl, m1.ex e4b, ha.ex e0b, by omega, fun Hc ec => ⟨true, rfl, iteF ?_⟩⟩
    have e0c := e0b.trans ec
    have e4c := e4b.trans ec
    have lpc := e4c _ _ lp
    refine ⟨_, rfl, pl, _, _, _, rfl, rfl, SqL.of lpc, atI_nat (j := 1) rfl, _, rfl, p2, b, B0, rfl, m2.ex e4c, hb.ex e0c, by omega, fun Hd ed => ⟨true, rfl, iteF ?_⟩⟩
    have e4d := e4c.trans ed
    have ebd := ec.trans ed
    have lpd := e4d _ _ lp
    refine ⟨_, rfl, pl, _, _, _, rfl, rfl, SqL.of lpd, atI_nat (j := 0) rfl, p1, _, rfl, e4d _ _ m1, by rw [nI_len]; omega, fun ys1 He Ke _ => ?_⟩
    have lpe := Ke _ _ (Ne.symm n1l) lpd
    refine ⟨_, rfl, pl, _, _, _, rfl, rfl, SqL.of lpe, atI_nat (j := 1) rfl, p2, _, rfl, Ke _ _ (Ne.symm n12) (e4d _ _ m2), by rw [nI_len]; omega, fun ys2 Hf Kf _ => ?_⟩
    have e1f : Ex H1 Hf := fun x o h => Kf _ _ (ne_of_none h fp2') (Ke _ _ (ne_of_none h hp1) (e4d _ _ (e14 _ _ h)))
    have huf := Kf _ _ nu2 (Ke _ _ nu1 (ebd _ _ hu2))
    have lubf : ListN Hf ub A0 := Kf _ _ nub2 (Ke _ _ nub1 (ebd _ _ lub))
    have luaf : ListN Hf ua B0 := Kf _ _ nua2 (Ke _ _ nua1 (ebd _ _ lua))
    refine ⟨_, rfl, u, dx, _, rfl, huf, u, A0, B0, rfl, ⟨dx, ub, ua, huf, lubf, luaf, nubu, nuau⟩, sA, sB, by omega, by omega, fun t3 es3 Hg ht3 eg p3a p3b KT3 => ?_⟩
    rw [al] at p3a
    rw [same es3 p3a p3b] at KT3
    refine ⟨_, rfl, t3, d, es, rfl, KT3, (EA.ex e1f).ex eg, by omega, fun Hh eh => ?_⟩
    exact k Hh (((e1.trans e1f).trans eg).trans eh)

end

section
variable {P : Program} {w : World} {K : PySem.W.Frag} {mg : Str → Option Value} {base : Heap} {A : Ad}
theorem ne_ix {l : List Addr} (h : l.Nodup) (i j : Nat) {a b : Addr} (ha : l[i]? = some a) (hb : l[j]? = some b) (hij : i ≠ j) : a ≠ b := fun z => by
  obtain ⟨h1, e1⟩ := List.getElem?_eq_some_iff.mp ha
  obtain ⟨h2, e2⟩ := List.getElem?_eq_some_iff.mp hb
  exact hij ((List.getElem_inj h).mp (e1.trans (z.trans e2.symm)))
theorem fault_low {xs zs : List Int} {f : Nat × Nat} (h : faultF xs zs = some f) : f.1 = 1 ∨ f.1 = 2 ∨ (f.1 = 3 ∧ f.2 = 0) := by
  have one : ∀ {ys : List Int} {f : Nat × Nat}, faultS ys = some f → f.1 = 1 ∨ f.1 = 2 := fun {ys f} h => by
    unfold faultS at h
    cases s : strayI ys with
    | some k =>
      rw [s] at h
      cases h
      exact .inl rfl
    | none =>
      rw [s] at h
      cases u : unset (natI ys) with
      | none => simp only [u] at h; cases h
      | some k => simp only [u] at h; cases h; exact .inr rfl
  unfold faultF at h
  cases s : faultS xs with
  | some g =>
    rw [s] at h
    cases h
    exact (one s).imp id .inl
  | none =>
    rw [s] at h
    cases t : faultS zs with
    | some g =>
      simp only [t] at h
      cases h
      exact (one t).imp id .inl
    | none =>
      simp only [t] at h
      split at h
      · cases h
        exact .inr (.inr ⟨rfl, rfl⟩)
      · cases h
theorem ok_law_fault_told (T : Txt K mg A)  (g_law_call : Okd P w K mg base (L2N.CX P w) 8 A.law_call P_law_call (spCl A)) (h_law_whole : Okh P w K mg base CX0 1 A.law_whole P_law_whole spWh) : Okd P w K mg base CX0 9 A.law_fault_told P_law_fault_told spFt := by
  obtain ⟨fd, F⟩ := T.d_law_fault_told
  obtain ⟨fd_law_call, G_law_call, b_law_call⟩ := g_law_call
  obtain ⟨fdh_law_whole, H_law_whole, hb_law_whole⟩ := h_law_whole
  refine ⟨fd, F.ok sc_law_fault_told (fun vs H Q E h => ?_) (fun cdv A' outer s H vs Q E hr h => ?_), F.binds fun _ _ _ _ _ _ us hl => match us, hl with | [_, _, _, _], _ => rfl⟩
  · obtain ⟨a, b, du, xs, zs, dr, rfl, _⟩ := h
    rfl
  · obtain ⟨a, b, du, xs, zs, dr, rfl, h3, ha, hb, hl, hl2, hdu, k⟩ := h
    refine ⟨_, (pss_cons (L2N.ps_try_manyNN (tb := (fun W => tDrop (tCallS (spCl A) (WE W) (tCons (tVar 0) (tCons (tCB (L2N.lstR K) (tCons (tVar 1) tNil)) (tCons (tCB (L2N.lstR K) (tCons (tVar 2) tNil)) tNil)))))) rfl rfl L2N.takes0N (fun W pn xe tk _ => (pss_one (ps_expr (pe_callS G_law_call (hr.mono (by decide)) rfl T.g_law_call T.k_law_call b_law_call (fun σ => L2N.passAt tk σ) (pa_cons (pv 0) (pa_cons (pe_callTy (T := "list") (L2N.call_listK (K := K) rfl) (by rfl) T.n_list (by decide +kernel) (pa_cons (pv 1) pa_nil)) (pa_cons (pe_callTy (T := "list") (L2N.call_listK (K := K) rfl) (by rfl) T.n_list (by decide +kernel) (pa_cons (pv 2) pa_nil)) pa_nil))))))) (L2N.HdsNN.consN (i := 4) sc_law_fault_told.nd rfl rfl ⟨rfl, by decide, .inl T.e_InvalidImage.g⟩ (fun a oe cls d pn hz hf => (pss_one (ps_ret (pe_and (pe_cmpR op_eq (pe_ix (ix_listK (K := K) rfl) (pv 3) pe_int (fun _ _ => rfl)) pe_str (nomark _)) (pe_and (pe_callB (call_isS2 (K := K) rfl hz.zc hf) (by rfl) T.n_isinstance (by decide +kernel) (pa_cons (pv 4) (pa_cons (pe_glob (v := .ref A.MendError) rfl T.e_MendError.g rfl) pa_nil))) (pe_one (L2H.pe_callH H_law_whole (L2H.roomH_mark (hr.mono (by decide)) _) (hot_suite hz hf) (by rfl) T.g_law_whole T.k_law_whole hb_law_whole (passH0 (fun _ => E0)) (pa_cons (pe_xf T.e_InvalidImage.xfc T.f_InvalidImage.nf hz.zc hf (pv 4)) (pa_cons (pe_ix (ix_listK (K := K) rfl) (pv 3) pe_int (fun _ _ => rfl)) pa_nil))))))))) (L2N.HdsNN.consN (i := 4) sc_law_fault_told.nd rfl rfl ⟨rfl, by decide, .inl T.e_NotState.g⟩ (fun a oe cls d pn hz hf => (pss_one (ps_ret (pe_and (pe_cmpR op_eq (pe_ix (ix_listK (K := K) rfl) (pv 3) pe_int (fun _ _ => rfl)) pe_str (nomark _)) (pe_and (pe_callB (call_isS2 (K := K) rfl hz.zc hf) (by rfl) T.n_isinstance (by decide +kernel) (pa_cons (pv 4) (pa_cons (pe_glob (v := .ref A.MendError) rfl T.e_MendError.g rfl) pa_nil))) (pe_one (L2H.pe_callH H_law_whole (L2H.roomH_mark (hr.mono (by decide)) _) (hot_suite hz hf) (by rfl) T.g_law_whole T.k_law_whole hb_law_whole (passH0 (fun _ => E0)) (pa_cons (pe_xf T.e_NotState.xfc T.f_NotState.nf hz.zc hf (pv 4)) (pa_cons (pe_ix (ix_listK (K := K) rfl) (pv 3) pe_int (fun _ _ => rfl)) pa_nil))))))))) (L2N.HdsNN.consN (i := 4) sc_law_fault_told.nd rfl rfl ⟨rfl, by decide, .inl T.e_UnequalSizes.g⟩ (fun a oe cls d pn hz hf => (pss_one (ps_ret (pe_and (pe_cmpR op_eq (pe_ix (ix_listK (K := K) rfl) (pv 3) pe_int (fun _ _ => rfl)) pe_str (nomark _)) (pe_and (pe_callB (call_isS2 (K := K) rfl hz.zc hf) (by rfl) T.n_isinstance (by decide +kernel) (pa_cons (pv 4) (pa_cons (pe_glob (v := .ref A.MendError) rfl T.e_MendError.g rfl) pa_nil))) (pe_one (pe_callB (call_isS2 (K := K) rfl hz.zc hf) (by rfl) T.n_isinstance (by decide +kernel) (pa_cons (pv 4) (pa_cons (pe_bltn (v := .ty "ValueError") (u := .type "ValueError") (by rfl) T.n_ValueError (by decide +kernel) rfl) pa_nil))))))))) L2N.HdsNN.nil))))
      (pss_one (ps_ret (pe_cmpR op_eq (pe_ix ix_list (pv 3) pe_int (fun _ _ => rfl)) pe_str (nomark _))))), ?_⟩
    refine ⟨_, rfl, _, rfl, a, _, rfl, Or.inl (SqL.of ha), fun p1 hp1 => ?_⟩
    have e1 := Ex.new (o := .lst (xs.map V.int)) hp1
    have ha1 : ListI (upd H p1 (.lst (xs.map V.int))) p1 xs := upd_same
    generalize upd H p1 (.lst (xs.map V.int)) = H1 at e1 ha1 ⊢
    refine ⟨_, rfl, b, _, rfl, Or.inl (SqL.of (hb.ex e1)), fun p2 hp2 => ?_⟩
    have e2 := e1.trans (Ex.new (o := .lst (zs.map V.int)) hp2)
    have ha2 := ha1.ex (Ex.new (o := .lst (zs.map V.int)) hp2)
    have hb2 : ListI (upd H1 p2 (.lst (zs.map V.int))) p2 zs := upd_same
    generalize upd H1 p2 (.lst (zs.map V.int)) = H2 at e2 ha2 hb2 ⊢
    refine ⟨p1, p2, xs, zs, dr, rfl, h3, ha2, hb2, hl, hl2, fun f0 H3 e3 => ?_, fun f hf => ?_⟩
    · rw [f0] at hdu
      refine ⟨_, rfl, du, _, _, _, rfl, rfl, SqL.of (e3 _ _ (e2 _ _ hdu)), atI_nat (j := 0) rfl, rfl, ?_⟩
      rw [show decide (V.str (fw ((Option.map (·.1) (none : Option (Nat × Nat))).getD 0)) = V.str (Str.ofString "none")) = true from decide_eq_true rfl]
      exact k H3 (e2.trans e3)
    have low := fault_low hf
    rw [hf] at hdu
    have hdu : H du = some (.lst [.str (fw f.1), .int (f.2 : Nat)]) := hdu
    refine ⟨fun z d H' e hd => ?_, fun z d H' e hd => ?_, fun z H' e => ?_⟩
    · have hduH := e _ _ (e2 _ _ hdu)
      rw [z] at hduH
      refine ⟨true, T.e_InvalidImage.exm, fun _ a0 ha0 => ?_, fun z => (nomatch z)⟩
      refine ⟨_, rfl, du, _, _, _, rfl, rfl, SqL.of (hduH), atI_nat (j := 0) rfl, rfl, _, rfl, ifT (decide_eq_true rfl) ?_⟩
      refine ⟨_, rfl, A.InvalidImage, _, _, true, rfl, rfl, Or.inr ⟨d, _, rfl, hd⟩, T.e_InvalidImage.exc T.cn T.ct, ClsV.own _, T.e_InvalidImage.kit_base T.e_MendError (ne_ix T.nd 1 0 rfl rfl (by decide)), _, rfl, iteT ?_⟩
      refine ⟨_, rfl, rfl, rfl, d, _, _, rfl, hd, rfl, _, rfl, du, _, _, _, rfl, rfl, SqL.of (hduH), atI_nat (j := 1) rfl, (f.2 : Int), (f.2 : Int), rfl, ?_⟩
      rw [decide_eq_true rfl]
      exact k H' (e2.trans e)
    · have hduH := e _ _ (e2 _ _ hdu)
      rw [z] at hduH
      refine ⟨false, T.e_NotState.exm_ne T.e_InvalidImage (ne_ix T.nd 2 1 rfl rfl (by decide)) (ne_ix T.nd 0 1 rfl rfl (by decide)), fun z => (nomatch z), fun _ => ?_⟩
      refine ⟨true, T.e_NotState.exm, fun _ a0 ha0 => ?_, fun z => (nomatch z)⟩
      refine ⟨_, rfl, du, _, _, _, rfl, rfl, SqL.of (hduH), atI_nat (j := 0) rfl, rfl, _, rfl, ifT (decide_eq_true rfl) ?_⟩
      refine ⟨_, rfl, A.NotState, _, _, true, rfl, rfl, Or.inr ⟨d, _, rfl, hd⟩, T.e_NotState.exc T.cn T.ct, ClsV.own _, T.e_NotState.kit_base T.e_MendError (ne_ix T.nd 2 0 rfl rfl (by decide)), _, rfl, iteT ?_⟩
      refine ⟨_, rfl, rfl, rfl, d, _, _, rfl, hd, rfl, _, rfl, du, _, _, _, rfl, rfl, SqL.of (hduH), atI_nat (j := 1) rfl, (f.2 : Int), (f.2 : Int), rfl, ?_⟩
      rw [decide_eq_true rfl]
      exact k H' (e2.trans e)
    · have hduH := e _ _ (e2 _ _ hdu)
      rw [z] at hduH
      refine ⟨false, T.e_UnequalSizes.exm_ne T.e_InvalidImage (ne_ix T.nd 3 1 rfl rfl (by decide)) (ne_ix T.nd 0 1 rfl rfl (by decide)), fun z => (nomatch z), fun _ => ?_⟩
      refine ⟨false, T.e_UnequalSizes.exm_ne T.e_NotState (ne_ix T.nd 3 2 rfl rfl (by decide)) (ne_ix T.nd 0 2 rfl rfl (by decide)), fun z => (nomatch z), fun _ => ?_⟩
      refine ⟨true, T.e_UnequalSizes.exm, fun _ a0 ha0 => ?_, fun z => (nomatch z)⟩
      refine ⟨_, rfl, du, _, _, _, rfl, rfl, SqL.of (hduH), atI_nat (j := 0) rfl, rfl, _, rfl, ifT (decide_eq_true rfl) ?_⟩
      refine ⟨_, rfl, A.UnequalSizes, _, _, true, rfl, rfl, Or.inl rfl, T.e_UnequalSizes.exc T.cn T.ct, ClsV.own _, T.e_UnequalSizes.kit_base T.e_MendError (ne_ix T.nd 3 0 rfl rfl (by decide)), _, rfl, iteT ?_⟩
      refine ⟨_, rfl, A.UnequalSizes, _, _, true, rfl, rfl, Or.inl rfl, T.e_UnequalSizes.exc T.cn T.ct, ClsV.ty "ValueError", T.e_UnequalSizes.kit_ve, ?_⟩
      exact k H' (e2.trans e)

end

section
variable {P : Program} {w : World} {K : PySem.W.Frag} {mg : Str → Option Value} {base : Heap} {A : Ad}
theorem ok_law_fault (T : Txt K mg A)  (g_law_entry : Okd P w K mg base CX0 1 A.law_entry P_law_entry spEn) (g_law_unsettled : Okd P w K mg base CX0 1 A.law_unsettled P_law_unsettled spUn) : Okd P w K mg base CX0 2 A.law_fault P_law_fault spFl := by
  obtain ⟨fd, F⟩ := T.d_law_fault
  obtain ⟨fd_law_entry, G_law_entry, b_law_entry⟩ := g_law_entry
  obtain ⟨fd_law_unsettled, G_law_unsettled, b_law_unsettled⟩ := g_law_unsettled
  refine ⟨fd, F.ok sc_law_fault (fun vs H Q E h => ?_) (fun cdv A' outer s H vs Q E hr h => ?_), F.binds fun _ _ _ _ _ _ us hl => match us, hl with | [_, _], _ => rfl⟩
  · obtain ⟨a, b, xs, zs, rfl, _⟩ := h
    rfl
  · obtain ⟨a, b, xs, zs, rfl, ha, hb, hl, hl2, k⟩ := h
    refine ⟨_, (pss_cons (ps_for PassesOwn.never rfl (pi_list (pe_lst (pa_cons (pv 0) (pa_cons (pv 1) pa_nil)))) (pg_name (i := 2) sc_law_fault.nd rfl (Or.inl rfl)) (pss_cons (ps_set (i := 3) sc_law_fault.nd rfl (Or.inl rfl) (pe_call G_law_entry (hr.mono (by decide)) (by rfl) T.g_law_entry T.k_law_entry b_law_entry .nil pass0 (pa_cons (pv 2) pa_nil)))
      (pss_cons (ps_if (pt_cmpR op_ge (pv 3) pe_int (nomark _)) (pss_one (ps_ret (pe_lst (pa_cons pe_str (pa_cons (pv 3) pa_nil))))) pss_nil)
      (pss_cons (ps_set (i := 3) sc_law_fault.nd rfl (Or.inl rfl) (pe_call G_law_unsettled (hr.mono (by decide)) (by rfl) T.g_law_unsettled T.k_law_unsettled b_law_unsettled .nil pass0 (pa_cons (pv 2) pa_nil)))
      (pss_one (ps_if (pt_cmpR op_ge (pv 3) pe_int (nomark _)) (pss_one (ps_ret (pe_lst (pa_cons pe_str (pa_cons (pv 3) pa_nil))))) pss_nil))))))
      (pss_one (ps_ret (pe_ifExp (pt_cmpR op_ne (pe_callB call_len_seq (by rfl) T.n_len PySem.boot_len (pa_cons (pv 0) pa_nil)) (pe_callB call_len_seq (by rfl) T.n_len PySem.boot_len (pa_cons (pv 1) pa_nil)) (nomark _)) (pe_lst (pa_cons pe_str (pa_cons pe_int pa_nil))) (pe_lst (pa_cons pe_str (pa_cons pe_int pa_nil))))))), ?_⟩
    refine ⟨_, rfl, _, rfl, (by show 2 ≤ sizeLine; decide), fun D hD => ?_⟩
    have e0 := Ex.new (o := .lst [V.ref a, V.ref b]) hD
    have hD0 : upd H D (.lst [V.ref a, V.ref b]) D = some (.lst [V.ref a, V.ref b]) := upd_same
    generalize upd H D (.lst [V.ref a, V.ref b]) = H1 at e0 hD0 ⊢
    have fF : ∀ f, faultS xs = some f → faultF xs zs = some f := fun f h => by unfold faultF; rw [h]
    have fG : faultS xs = none → ∀ f, faultS zs = some f → faultF xs zs = some f := fun h1 f h => by unfold faultF; rw [h1]; simp only [h]
    refine ⟨D, rfl, ⟨_, SqL.of hD0⟩, for_list (K := K) (a := D) (xs := [V.ref a, V.ref b]) (fun i σ G => ∃ (v2 v3 : Option V), σ = [some (.ref a), some (.ref b), v2, v3] ∧ Ex H1 G ∧ (1 ≤ i → faultS xs = none) ∧ (2 ≤ i → faultS zs = none)) ⟨none, none, rfl, Ex.refl _, (fun h => absurd h (by decide)), (fun h => absurd h (by decide))⟩ (fun i σ G _ ⟨_, _, _, e, _⟩ => SqL.of (e _ _ hD0)) ?_ ?_⟩
    · rintro i x σ G hx ⟨v2, v3, rfl, e, i1, i2⟩
      obtain ⟨r, ys, rfl, hr0, hyl, F1, F2⟩ : ∃ r ys, x = V.ref r ∧ ListI H r ys ∧ ys.length ≤ 65 ∧ (∀ f, faultS ys = some f → faultF xs zs = some f) ∧ (faultS ys = none → (1 ≤ i + 1 → faultS xs = none) ∧ (2 ≤ i + 1 → faultS zs = none)) := by
        match i, hx with
        | 0, hx => exact ⟨a, xs, (Option.some.inj hx).symm, ha, hl, fF, fun h => ⟨fun _ => h, fun h => absurd h (by decide)⟩⟩
        | 1, hx => exact ⟨b, zs, (Option.some.inj hx).symm, hb, hl2, fG (i1 (Nat.le_refl _)), fun h => ⟨fun _ => i1 (Nat.le_refl _), fun _ => h⟩⟩
        | i + 2, hx => cases hx
      have hrG := (hr0.ex e0).ex e
      refine ⟨_, rfl, r, ys, rfl, hrG, hyl, fun G2 e2 => ?_⟩
      refine ⟨_, rfl, _, _, rfl, rfl, _, rfl, ?_⟩
      cases s : strayI ys with
      | some n =>
        refine iteT ?_
        refine ⟨_, rfl, (by show 2 ≤ sizeLine; decide), fun p hp => ?_⟩
        have ff := F1 (1, n) (by unfold faultS; rw [s])
        refine k p _ (back_none ((e0.trans e).trans e2) hp) (((e0.trans e).trans e2).trans (Ex.new hp)) ?_
        rw [ff, upd_same]
        rfl
      | none =>
        refine iteF ?_
        refine ⟨_, rfl, r, ys, rfl, hrG.ex e2, s, hyl, fun G3 e3 => ?_⟩
        refine ⟨_, rfl, _, _, rfl, rfl, _, rfl, ?_⟩
        cases u : unset (natI ys) with
        | some n =>
          refine iteT ?_
          refine ⟨_, rfl, (by show 2 ≤ sizeLine; decide), fun p hp => ?_⟩
          have ff := F1 (2, n) (by unfold faultS; rw [s]; show (unset (natI ys)).map _ = _; rw [u]; rfl)
          refine k p _ (back_none (((e0.trans e).trans e2).trans e3) hp) ((((e0.trans e).trans e2).trans e3).trans (Ex.new hp)) ?_
          rw [ff, upd_same]
          rfl
        | none =>
          refine iteF ?_
          have n0 : faultS ys = none := by unfold faultS; rw [s]; show (unset (natI ys)).map _ = _; rw [u]; rfl
          exact ⟨_, _, rfl, (e.trans e2).trans e3, (F2 n0).1, (F2 n0).2⟩
    rintro σ G ⟨v2, v3, rfl, e, i1, i2⟩
    have s1 := i1 (by show 1 ≤ 2; decide)
    have s2 := i2 (by show 2 ≤ 2; decide)
    have hax := (ha.ex e0).ex e
    have hbx := (hb.ex e0).ex e
    refine ⟨_, rfl, a, _, rfl, .inl (SqL.of hax), _, rfl, b, _, rfl, .inl (SqL.of hbx), rfl, _, rfl, ?_⟩
    rw [dne, List.length_map, List.length_map]
    have ff : faultF xs zs = if xs.length ≠ zs.length then some (3, 0) else none := by unfold faultF; rw [s1]; simp only [s2]
    refine ite_b (fun c => ?_) (fun c => ?_)
    · rw [if_pos (of_decide_eq_true c)] at ff
      refine ⟨(by show 2 ≤ sizeLine; decide), fun p hp => ?_⟩
      refine k p _ (back_none (e0.trans e) hp) ((e0.trans e).trans (Ex.new hp)) ?_
      rw [ff, upd_same]
      rfl
    · rw [if_neg (of_decide_eq_false c)] at ff
      refine ⟨(by show 2 ≤ sizeLine; decide), fun p hp => ?_⟩
      refine k p _ (back_none (e0.trans e) hp) ((e0.trans e).trans (Ex.new hp)) ?_
      rw [ff, upd_same]
      rfl

end

section
variable {P : Program} {w : World} {K : PySem.W.Frag} {mg : Str → Option Value} {base : Heap} {A : Ad}
theorem ok_law_bent (T : Txt K mg A)  (g_law_draw : Okd P w K mg base CX0 2 A.law_draw P_law_draw spDw) : Okd P w K mg base CX0 3 A.law_bent P_law_bent spBe := by
  obtain ⟨fd, F⟩ := T.d_law_bent
  obtain ⟨fd_law_draw, G_law_draw, b_law_draw⟩ := g_law_draw
  refine ⟨fd, F.ok sc_law_bent (fun vs H Q E h => ?_) (fun cdv A' outer s H vs Q E hr h => ?_), F.binds fun _ _ _ _ _ _ us hl => match us, hl with | [_, _], _ => rfl⟩
  · obtain ⟨b, c, r, xs, rfl, _⟩ := h
    rfl
  · obtain ⟨b, c, r, xs, rfl, B, hr0, nrb, hl, k⟩ := h
    refine ⟨_, (pss_cons (ps_set (i := 2) sc_law_bent.nd rfl (Or.inl rfl) (pe_call G_law_draw (hr.mono (by decide)) (by rfl) T.g_law_draw T.k_law_draw b_law_draw .nil pass0 (pa_cons (pv 0) (pa_cons pe_int pa_nil))))
      (pss_cons (ps_set (i := 3) sc_law_bent.nd rfl (Or.inl rfl) (pe_callB call_len_seq (by rfl) T.n_len PySem.boot_len (pa_cons (pv 1) pa_nil)))
      (pss_cons (ps_set (i := 4) sc_law_bent.nd rfl (Or.inl rfl) (pe_callTy call_list_of (by rfl) T.n_list (by decide +kernel) (pa_cons (pv 1) pa_nil)))
      (pss_cut (ps_if (PW.pt (pw_and (pt_cmpR op_eq (pv 2) pe_int (nomark _)) (pw_and1 (pt_cmpR op_gt (pv 3) pe_int (nomark _))))) (pss_one (ps_asg (pe_call G_law_draw (hr.mono (by decide)) (by rfl) T.g_law_draw T.k_law_draw b_law_draw .nil pass0 (pa_cons (pv 0) (pa_cons (pv 3) pa_nil))) (pg_sub (pv 4) (pe_call G_law_draw (hr.mono (by decide)) (by rfl) T.g_law_draw T.k_law_draw b_law_draw .nil pass0 (pa_cons (pv 0) (pa_cons (pv 3) pa_nil))) set_list))) pss_nil)
      (pss_cut (ps_if (PW.pt (pw_and (pt_cmpR op_eq (pv 2) pe_int (nomark _)) (pw_and1 (pt_cmpR op_gt (pv 3) pe_int (nomark _))))) (pss_cons (ps_set (i := 5) sc_law_bent.nd rfl (Or.inl rfl) (pe_lst (pa_cons (pe_un un_neg pe_int) (pa_cons (pv 3) (pa_cons (pe_op op_sub pe_int (pv 3)) (pa_cons (pe_op op_add (pv 3) (pe_call G_law_draw (hr.mono (by decide)) (by rfl) T.g_law_draw T.k_law_draw b_law_draw .nil pass0 (pa_cons (pv 0) (pa_cons pe_int pa_nil)))) (pa_cons (pe_op op_pow pe_int pe_int) pa_nil)))))))
      (pss_one (ps_asg (pe_ix ix_list (pv 5) (pe_call G_law_draw (hr.mono (by decide)) (by rfl) T.g_law_draw T.k_law_draw b_law_draw .nil pass0 (pa_cons (pv 0) (pa_cons pe_int pa_nil))) (fun _ _ => rfl)) (pg_sub (pv 4) (pe_call G_law_draw (hr.mono (by decide)) (by rfl) T.g_law_draw T.k_law_draw b_law_draw .nil pass0 (pa_cons (pv 0) (pa_cons (pv 3) pa_nil))) set_list)))) pss_nil)
      (pss_cons (ps_if (PW.pt (pw_and (pt_cmpR op_eq (pv 2) pe_int (nomark _)) (pw_and1 (pt_cmpR op_lt (pv 3) pe_int (nomark _))))) (pss_one (ps_expr (pe_bm PySem.F.plainAttrs_list PySem.F.slot_list_append PySem.F.type_list_append mt_append (pv 4) (pa_cons (pv 3) pa_nil)))) pss_nil)
      (pss_one (ps_ret (pv 4))))))))), ?_⟩
    refine ⟨_, rfl, b, c, 4, rfl, by decide, by decide, B, fun way H1 w1 B1 M1 => ?_⟩
    have hr1 : ListN H1 r xs := M1 _ _ nrb hr0
    refine ⟨_, rfl, r, _, rfl, .inl hr1.sz, ?_⟩
    rw [nI_len]
    refine ⟨_, rfl, r, _, rfl, Or.inl hr1.sz, fun q hq => ?_⟩
    obtain ⟨nqb, nqc⟩ := B1.ne hq
    have eq1 := Ex.new (o := .lst (nI xs)) hq
    have fq : H q = none := bx_back B1 M1 hq
    have hq2 : ListI (upd H1 q (.lst (nI xs))) q (toI xs) := by
      show upd _ _ _ q = _
      rw [upd_same, toI_v]
    have B2 := B1.ex eq1
    have M2 : Mut b H (upd H1 q (.lst (nI xs))) := fun x o h1 h => eq1 _ _ (M1 _ _ h1 h)
    have zl : (toI xs).length = xs.length := toI_len
    generalize upd H1 q (.lst (nI xs)) = H2 at hq2 B2 M2 ⊢
    generalize toI xs = zs at hq2 zl
    generalize xs.length = n at zl hl ⊢
    have put : ∀ (G : Hp) (ys : List Int) (i : Nat) (z : Int), Bx G b c → Mut b H G → Bx (upd G q (.lst ((ys.map V.int).set i (V.int z)))) b c ∧ Mut b H (upd G q (.lst ((ys.map V.int).set i (V.int z)))) ∧ ListI (upd G q (.lst ((ys.map V.int).set i (V.int z)))) q (ys.set i z) := fun G ys i z BG MG => by
      refine ⟨BG.keep (fun o h => by rw [upd_ne (Ne.symm nqb)]; exact h) (fun o h => by rw [upd_ne (Ne.symm nqc)]; exact h), fun x o h1 h => by rw [upd_ne (ne_of_none h fq)]; exact MG _ _ h1 h, ?_⟩
      show upd _ _ _ q = _
      rw [upd_same, List.map_set]
    refine ⟨fun σ G => ∃ zs : List Int, σ = [some (.ref b), some (.ref r), some (.int (way : Int)), some (.int (n : Int)), some (.ref q), none] ∧ Bx G b c ∧ Mut b H G ∧ ListI G q zs ∧ zs.length = n, ?_, ?_⟩
    · have same : ∃ zs : List Int, [some (V.ref b), some (.ref r), some (.int (way : Int)), some (.int (n : Int)), some (.ref q), none] = [some (.ref b), some (.ref r), some (.int (way : Int)), some (.int (n : Int)), some (.ref q), none] ∧ Bx H2 b c ∧ Mut b H H2 ∧ ListI H2 q zs ∧ zs.length = n := ⟨zs, rfl, B2, M2, hq2, zl⟩
      refine ⟨_, rfl, rfl, _, rfl, ?_⟩
      refine ite_b (fun c1 => ?_) (fun c1 => same)
      refine ⟨_, rfl, _, _, rfl, rfl, _, rfl, ?_⟩
      refine ite_b (fun c2 => ?_) (fun c2 => same)
      have c2 := of_decide_eq_true c2
      refine ⟨_, rfl, _, rfl, b, c, (n : Int), rfl, by omega, by omega, B2, fun d1 H3 q1 B3 M3 => ?_⟩
      refine ⟨_, rfl, _, rfl, _, rfl, b, c, (n : Int), rfl, by omega, by omega, B3, fun d2 H4 q2 B4 M4 => ?_⟩
      refine ⟨q, _, _, d2, rfl, rfl, M4 _ _ nqb (M3 _ _ nqb hq2), Evl.ixN_nat (by rw [List.length_map]; omega), ?_⟩
      obtain ⟨a1, a2, a3⟩ := put H4 zs d2 (d1 : Int) B4 ((M2.trans M3).trans M4)
      exact ⟨_, rfl, a1, a2, a3, by rw [List.length_set]; exact zl⟩
    rintro σ G ⟨ys, rfl, BG, MG, hG, yl⟩
    refine ⟨fun σ G => ∃ (zs : List Int) (v5 : Option V), σ = [some (.ref b), some (.ref r), some (.int (way : Int)), some (.int (n : Int)), some (.ref q), v5] ∧ Bx G b c ∧ Mut b H G ∧ ListI G q zs ∧ zs.length = n, ?_, ?_⟩
    · have same : ∃ (zs : List Int) (v5 : Option V), [some (V.ref b), some (.ref r), some (.int (way : Int)), some (.int (n : Int)), some (.ref q), none] = [some (.ref b), some (.ref r), some (.int (way : Int)), some (.int (n : Int)), some (.ref q), v5] ∧ Bx G b c ∧ Mut b H G ∧ ListI G q zs ∧ zs.length = n := ⟨ys, _, rfl, BG, MG, hG, yl⟩
      refine ⟨_, rfl, rfl, _, rfl, ?_⟩
      refine ite_b (fun c1 => ?_) (fun c1 => same)
      refine ⟨_, rfl, _, _, rfl, rfl, _, rfl, ?_⟩
      refine ite_b (fun c2 => ?_) (fun c2 => same)
      have c2 := of_decide_eq_true c2
      refine ⟨_, rfl, _, rfl, _, rfl, _, _, rfl, rfl, _, rfl, _, rfl, b, c, 50, rfl, by decide, by decide, BG, fun d0 H3 q1 B3 M3 => ?_⟩
      refine ⟨_, _, rfl, rfl, _, _, rfl, rfl, ⟨by decide, by decide, by decide⟩, (by show 5 ≤ sizeLine; decide), fun ml hml => ?_⟩
      obtain ⟨nmb, nmc⟩ := B3.ne hml
      generalize hm : [V.int (-1), V.int (n : Int), V.int (0 - (n : Int)), V.int ((n : Int) + (d0 : Int)), V.int ((10 : Int) ^ (20 : Int).toNat)] = menu
      have mi : ∀ d, d < 5 → ∃ z, menu[d]? = some (V.int z) := fun d hd => by
        rw [← hm]
        match d, hd with
        | 0, _ => exact ⟨_, rfl⟩
        | 1, _ => exact ⟨_, rfl⟩
        | 2, _ => exact ⟨_, rfl⟩
        | 3, _ => exact ⟨_, rfl⟩
        | 4, _ => exact ⟨_, rfl⟩
      have eM := Ex.new (o := .lst menu) hml
      have hM : upd H3 ml (.lst menu) ml = some (.lst menu) := upd_same
      have B4 := B3.ex eM
      have hG4 := eM _ _ (M3 _ _ nqb hG)
      have M4 : Mut b H (upd H3 ml (.lst menu)) := fun x o h1 h => eM _ _ (M3 _ _ h1 (MG _ _ h1 h))
      generalize upd H3 ml (.lst menu) = H4 at hM B4 hG4 M4 ⊢
      refine ⟨_, rfl, _, rfl, b, c, 5, rfl, by decide, by decide, B4, fun d5 H5 q5 B5 M5 => ?_⟩
      obtain ⟨z, hz⟩ := mi d5 (by omega)
      refine ⟨ml, _, _, _, rfl, rfl, SqL.of (M5 _ _ nmb hM), atI_nat hz, _, rfl, _, rfl, _, rfl, b, c, (n : Int), rfl, by omega, by omega, B5, fun d6 H6 q6 B6 M6 => ?_⟩
      refine ⟨q, _, _, d6, rfl, rfl, M6 _ _ nqb (M5 _ _ nqb hG4), Evl.ixN_nat (by rw [List.length_map]; omega), ?_⟩
      obtain ⟨a1, a2, a3⟩ := put H6 ys d6 z B6 ((M4.trans M5).trans M6)
      exact ⟨_, _, rfl, a1, a2, a3, by rw [List.length_set]; exact yl⟩
    rintro σ G ⟨ys, v5, rfl, BG, MG, hG, yl⟩
    refine ⟨_, rfl, rfl, _, rfl, ?_⟩
    refine ite_b (fun c1 => ?_) (fun c1 => ⟨_, rfl, k q ys G fq BG MG hG (by omega)⟩)
    refine ⟨_, rfl, _, _, rfl, rfl, _, rfl, ?_⟩
    refine ite_b (fun c2 => ?_) (fun c2 => ⟨_, rfl, k q ys G fq BG MG hG (by omega)⟩)
    refine ⟨_, rfl, Or.inl ⟨rfl, _, SqL.of hG⟩, _, rfl, _, _, _, rfl, rfl, hG, small1000 (by rw [List.length_map]; omega), ?_⟩
    refine ⟨_, rfl, k q (ys ++ [(n : Int)]) _ fq (BG.keep (fun o h => by rw [upd_ne (Ne.symm nqb)]; exact h) (fun o h => by rw [upd_ne (Ne.symm nqc)]; exact h)) (fun x o h1 h => by rw [upd_ne (ne_of_none h fq)]; exact MG _ _ h1 h) ?_ (by rw [List.length_append, yl]; exact Nat.succ_le_succ hl)⟩
    show upd _ _ _ q = _
    rw [upd_same, List.map_append]
    rfl

end

section
variable {P : Program} {w : World} {K : PySem.W.Frag} {mg : Str → Option Value} {base : Heap} {A : Ad}
theorem set_nI {R : List Nat} {i v : Nat} : (nI R).set i (V.int (v : Int)) = nI (R.set i v) := (List.map_set ..).symm
theorem ok_law_states (T : Txt K mg A)   : Okd P w K mg base CX0 1 A.law_states P_law_states spSs := by
  obtain ⟨fd, F⟩ := T.d_law_states

  refine ⟨fd, F.ok sc_law_states (fun vs H Q E h => ?_) (fun cdv A' outer s H vs Q E hr h => ?_), F.binds fun _ _ _ _ _ _ us hl => match us, hl with | [_, _], _ => rfl⟩
  · obtain ⟨q, n, ps, rfl, _⟩ := h
    rfl
  · obtain ⟨q, n, ps, rfl, hn, hq, C, k⟩ := h
    refine ⟨_, (pss_cons (ps_set (i := 2) sc_law_states.nd rfl (Or.inl rfl) (pe_lst (pa_cons (pe_listRg (by rfl) (by rfl) T.n_list (prg_1 (by rfl) T.n_range (pv 1))) (pa_cons (pe_listRg (by rfl) (by rfl) T.n_list (prg_1 (by rfl) T.n_range (pv 1))) pa_nil))))
      (pss_cons (ps_for PassesOwn.never rfl (pi_list (pv 0)) (pg_unl (by rfl) (pgs_cons (pg_name (i := 3) sc_law_states.nd rfl (Or.inl rfl)) (pgs_cons (pg_name (i := 4) sc_law_states.nd rfl (Or.inl rfl)) (pgs_cons (pg_name (i := 5) sc_law_states.nd rfl (Or.inl rfl)) pgs_nil)))) (pss_cons (ps_if (pt_cmpR op_eq (pv 3) pe_str (nomark _)) (pss_one (ps_for PassesOwn.never rfl (pi_list (pv 2)) (pg_name (i := 6) sc_law_states.nd rfl (Or.inl rfl)) (pss_cons (ps_asg (pe_ix ix_list (pv 4) pe_int (fun _ _ => rfl)) (pg_sub (pv 6) (pe_ix ix_list (pv 4) pe_int (fun _ _ => rfl)) set_list))
      (pss_one (ps_asg (pe_ix ix_list (pv 4) pe_int (fun _ _ => rfl)) (pg_sub (pv 6) (pe_ix ix_list (pv 4) pe_int (fun _ _ => rfl)) set_list)))))) (pss_one (ps_for PassesOwn.never rfl (pi_range1 (by rfl) T.n_range (pa_cons (pe_op op_sub (pe_callB call_len_seq (by rfl) T.n_len PySem.boot_len (pa_cons (pv 4) pa_nil)) pe_int) pa_nil)) (pg_name (i := 7) sc_law_states.nd rfl (Or.inl rfl)) (pss_cons (ps_set (i := 6) sc_law_states.nd rfl (Or.inl rfl) (pe_ix ix_list (pv 2) (pe_op op_and (pe_op op_add (pv 5) (pv 7)) pe_int) (fun _ _ => rfl)))
      (pss_cons (ps_asg (pe_ix ix_list (pv 4) (pe_op op_add (pv 7) pe_int) (fun _ _ => rfl)) (pg_sub (pv 6) (pe_ix ix_list (pv 4) (pv 7) (fun _ _ => rfl)) set_list))
      (pss_one (ps_asg (pe_ix ix_list (pv 4) (pv 7) (fun _ _ => rfl)) (pg_sub (pv 6) (pe_ix ix_list (pv 4) (pe_op op_add (pv 7) pe_int) (fun _ _ => rfl)) set_list))))))))
      (pss_one (ps_if (pt_cmpR op_eq (pv 3) pe_str (nomark _)) (pss_cons (ps_set (i := 6) sc_law_states.nd rfl (Or.inl rfl) (pe_ix ix_list (pv 2) pe_int (fun _ _ => rfl)))
      (pss_cons (ps_asg (pe_ix ix_list (pv 4) pe_int (fun _ _ => rfl)) (pg_sub (pv 6) (pe_ix ix_list (pv 4) (pe_un un_neg pe_int) (fun _ _ => rfl)) set_list))
      (pss_one (ps_asg (pe_ix ix_list (pv 4) (pe_un un_neg pe_int) (fun _ _ => rfl)) (pg_sub (pv 6) (pe_ix ix_list (pv 4) pe_int (fun _ _ => rfl)) set_list))))) pss_nil))))
      (pss_one (ps_ret (pv 2))))), ?_⟩
    obtain ⟨ts, hts, tl, tat⟩ := hq
    refine ⟨_, rfl, _, rfl, RgOk.of_le (by decide) (by omega) (by decide) (by omega), fun a ha => ?_⟩
    have la0 : ListN (upd H a (.lst (rgV 0 (n : Int)))) a (List.range n) := by
      show upd H a _ a = _
      rw [upd_same, rgN]
    have eA := Ex.new (o := .lst (rgV 0 (n : Int))) ha
    generalize upd H a (.lst (rgV 0 (n : Int))) = H1 at la0 eA ⊢
    refine ⟨_, rfl, _, rfl, RgOk.of_le (by decide) (by omega) (by decide) (by omega), fun b hb => ?_⟩
    have lb0 : ListN (upd H1 b (.lst (rgV 0 (n : Int)))) b (List.range n) := by
      show upd H1 b _ b = _
      rw [upd_same, rgN]
    have eB := Ex.new (o := .lst (rgV 0 (n : Int))) hb
    have nab : a ≠ b := ne_of_none (show H1 a = some _ from la0) hb
    have fb : H b = none := back_none eA hb
    generalize upd H1 b (.lst (rgV 0 (n : Int))) = H2 at lb0 eB ⊢
    refine ⟨(by show 2 ≤ sizeLine; decide), fun r hr => ?_⟩
    have eR := Ex.new (o := .lst [V.ref a, V.ref b]) hr
    have lr0 : upd H2 r (.lst [V.ref a, V.ref b]) r = some (.lst [V.ref a, V.ref b]) := upd_same
    have nar : r ≠ a := Ne.symm (ne_of_none (show H2 a = some _ from eB _ _ la0) hr)
    have nbr : r ≠ b := Ne.symm (ne_of_none (show H2 b = some _ from lb0) hr)
    have fr : H r = none := back_none (eA.trans eB) hr
    have la2 := (la0.ex eB).ex eR
    have lb2 := lb0.ex eR
    have e03 := (eA.trans eB).trans eR
    generalize upd H2 r (.lst [V.ref a, V.ref b]) = H3 at lr0 la2 lb2 e03 ⊢
    have hts1 := e03 _ _ hts
    have nqa : q ≠ a := ne_of_none hts ha
    have nqb : q ≠ b := ne_of_none hts fb
    refine ⟨_, rfl, q, rfl, ⟨_, SqL.of hts1⟩, for_list (K := K) (a := q) (xs := ts.map V.ref) (fun i σ G => ∃ (v3 v4 v5 v6 v7 : Option V) (A0 B0 : List Nat), σ = [some (.ref q), some (.int (n : Int)), some (.ref r), v3, v4, v5, v6, v7] ∧ (∀ x o, x ≠ a → x ≠ b → H3 x = some o → G x = some o) ∧ ListN G a A0 ∧ ListN G b B0 ∧ Stt n (ps.take i) A0 B0) ⟨none, none, none, none, none, _, _, rfl, fun _ _ _ _ h => h, la2, lb2, Stt.zero⟩ (fun i σ G _ ⟨_, _, _, _, _, _, _, _, K1, _⟩ => SqL.of (K1 _ _ nqa nqb hts1)) ?_ ?_⟩
    · rintro i x σ G hx ⟨v3, v4, v5, v6, v7, A0, B0, rfl, K1, hA, hB, S⟩
      obtain ⟨t1, ht1, rfl⟩ := ref_at hx
      have il : i < ps.length := by have := (List.getElem?_eq_some_iff.mp ht1).1; omega
      have hp1 : ps[i]? = some ps[i] := List.getElem?_eq_getElem il
      obtain ⟨l, hT, hL⟩ := tat i _ _ ht1 hp1
      have mem := List.getElem_mem il
      have ok := C.ok _ mem
      have len := C.len mem
      have lt := C.lt mem
      have s0 := C.s0 _ mem
      have tk : ps.take (i + 1) = ps.take i ++ [ps[i]] := by
        rw [List.take_add_one, hp1]
        rfl
      have okq : ∀ p ∈ ps.take i, PcOk p := fun p hp => C.ok p (List.mem_of_mem_take hp)
      have dis : ∀ x ∈ ps[i].2.1, x ∉ (ps.take i).flatMap (·.2.1) := fun x hx hm => by
        have nd := C.nd
        rw [← List.take_append_drop (i + 1) ps, tk, List.flatMap_append, List.nodup_append] at nd
        have nd1 := nd.1
        rw [List.flatMap_append, List.nodup_append] at nd1
        exact nd1.2.2 x hm x (List.mem_flatMap.mpr ⟨_, List.mem_singleton.mpr rfl, hx⟩) rfl
      rw [tk]
      generalize ps[i] = p at hT hL ok len lt s0 dis ⊢
      generalize ps.take i = qs at S okq dis ⊢
      have nta : t1 ≠ a := ne_of_none hT ha
      have ntb : t1 ≠ b := ne_of_none hT fb
      have nla : l ≠ a := ne_of_none (show H l = some _ from hL) ha
      have nlb : l ≠ b := ne_of_none (show H l = some _ from hL) fb
      have hTG := K1 _ _ nta ntb (e03 _ _ hT)
      have hLG : ListN G l p.2.1 := K1 _ _ nla nlb (e03 _ _ hL)
      have pw := ok.w
      have pos := ok.pos
      have ps2 := ok.s
      have ltA0 : ∀ x ∈ p.2.1, x < A0.length := fun x hx => by rw [S.la]; exact lt x hx
      have ltB0 : ∀ x ∈ p.2.1, x < B0.length := fun x hx => by rw [S.lb]; exact lt x hx
      have fixA : ∀ x ∈ p.2.1, gt A0 x = x := fun x hx => (S.out x (lt x hx) (dis x hx)).1
      have fixB : ∀ x ∈ p.2.1, gt B0 x = x := fun x hx => (S.out x (lt x hx) (dis x hx)).2
      refine ⟨t1, _, rfl, SqL.of hTG, rfl, _, _, rfl, _, _, rfl, _, _, rfl, rfl, ?_⟩
      refine ⟨_, rfl, rfl, _, rfl, ?_⟩
      rw [w4_pair pw]
      refine ite_b (fun c1 => ?_) (fun c1 => ?_)
      · have c1 := of_decide_eq_true c1
        have l1 := ok.l1 c1
        obtain ⟨pA, oA⟩ := pair_at (r := 0) ok c1 ltA0
        obtain ⟨pB, oB⟩ := pair_at (r := 1) ok c1 ltB0
        have hrG := K1 _ _ nar nbr lr0
        refine ⟨_, rfl, r, rfl, ⟨_, SqL.of hrG⟩, for_list (K := K) (a := r) (xs := [V.ref a, V.ref b]) (fun j σ G2 => ∃ v6 : Option V, σ = [some (.ref q), some (.int (n : Int)), some (.ref r), some (.str (w4 p.1)), some (.ref l), some (.int (p.2.2 : Int)), v6, v7] ∧ (∀ x o, x ≠ a → x ≠ b → H3 x = some o → G2 x = some o) ∧ ListN G2 a (if 1 ≤ j then swp A0 (gt p.2.1 0) (gt p.2.1 1) else A0) ∧ ListN G2 b (if 2 ≤ j then swp B0 (gt p.2.1 0) (gt p.2.1 1) else B0)) ⟨v6, rfl, K1, hA, hB⟩ (fun j σ G2 _ ⟨_, _, K2, _⟩ => SqL.of (K2 _ _ nar nbr lr0)) ?_ ?_⟩
        · rintro j x σ G2 hx ⟨v6, rfl, K2, hA2, hB2⟩
          have hL2 : ListN G2 l p.2.1 := K2 _ _ nla nlb (e03 _ _ hL)
          match j, hx, hA2, hB2 with
          | 0, hx, hA2, hB2 =>
            have hA2 : ListN G2 a A0 := hA2
            have hB2 : ListN G2 b B0 := hB2
            have hx := (Option.some.inj hx).symm
            subst hx
            refine ⟨_, rfl, l, _, _, _, rfl, rfl, hL2.sz, (show atI (nI p.2.1) ((1 : Nat) : Int) = some (V.int ((gt p.2.1 (1) : Nat) : Int)) from atN (by omega)), _, rfl, _, rfl, l, _, _, _, rfl, rfl, hL2.sz, (show atI (nI p.2.1) ((0 : Nat) : Int) = some (V.int ((gt p.2.1 (0) : Nat) : Int)) from atN (by omega)), a, _, _, gt p.2.1 0, rfl, rfl, hA2, Evl.ixN_nat (by rw [nI_len]; exact ltA0 _ (gt_mem (by omega))), ?_⟩
            rw [set_nI]
            have n3 : ListN (upd G2 a (.lst (nI (A0.set (gt p.2.1 0) (gt p.2.1 1))))) a (A0.set (gt p.2.1 0) (gt p.2.1 1)) := upd_same
            have k3 : ∀ x o, x ≠ a → G2 x = some o → upd G2 a (.lst (nI (A0.set (gt p.2.1 0) (gt p.2.1 1)))) x = some o := fun x o h1 h => by rw [upd_ne h1]; exact h
            generalize upd G2 a (.lst (nI (A0.set (gt p.2.1 0) (gt p.2.1 1)))) = G3 at n3 k3 ⊢
            have hL3 : ListN G3 l p.2.1 := k3 _ _ nla hL2
            refine ⟨_, rfl, l, _, _, _, rfl, rfl, hL3.sz, (show atI (nI p.2.1) ((0 : Nat) : Int) = some (V.int ((gt p.2.1 (0) : Nat) : Int)) from atN (by omega)), _, rfl, _, rfl, l, _, _, _, rfl, rfl, hL3.sz, (show atI (nI p.2.1) ((1 : Nat) : Int) = some (V.int ((gt p.2.1 (1) : Nat) : Int)) from atN (by omega)), a, _, _, gt p.2.1 1, rfl, rfl, n3, Evl.ixN_nat (by rw [nI_len]; exact (by rw [List.length_set]; exact ltA0 _ (gt_mem (by omega)))), ?_⟩
            rw [set_nI]
            have n4 : ListN (upd G3 a (.lst (nI ((A0.set (gt p.2.1 0) (gt p.2.1 1)).set (gt p.2.1 1) (gt p.2.1 0))))) a ((A0.set (gt p.2.1 0) (gt p.2.1 1)).set (gt p.2.1 1) (gt p.2.1 0)) := upd_same
            have k4 : ∀ x o, x ≠ a → G3 x = some o → upd G3 a (.lst (nI ((A0.set (gt p.2.1 0) (gt p.2.1 1)).set (gt p.2.1 1) (gt p.2.1 0)))) x = some o := fun x o h1 h => by rw [upd_ne h1]; exact h
            generalize upd G3 a (.lst (nI ((A0.set (gt p.2.1 0) (gt p.2.1 1)).set (gt p.2.1 1) (gt p.2.1 0)))) = G4 at n4 k4 ⊢
            exact ⟨_, rfl, fun x o h1 h2 h => k4 _ _ h1 (k3 _ _ h1 (K2 x o h1 h2 h)), n4, k4 _ _ (Ne.symm nab) (k3 _ _ (Ne.symm nab) hB2)⟩
          | 1, hx, hA2, hB2 =>
            have hA2 : ListN G2 a (swp A0 (gt p.2.1 0) (gt p.2.1 1)) := hA2
            have hB2 : ListN G2 b B0 := hB2
            have hx := (Option.some.inj hx).symm
            subst hx
            refine ⟨_, rfl, l, _, _, _, rfl, rfl, hL2.sz, (show atI (nI p.2.1) ((1 : Nat) : Int) = some (V.int ((gt p.2.1 (1) : Nat) : Int)) from atN (by omega)), _, rfl, _, rfl, l, _, _, _, rfl, rfl, hL2.sz, (show atI (nI p.2.1) ((0 : Nat) : Int) = some (V.int ((gt p.2.1 (0) : Nat) : Int)) from atN (by omega)), b, _, _, gt p.2.1 0, rfl, rfl, hB2, Evl.ixN_nat (by rw [nI_len]; exact ltB0 _ (gt_mem (by omega))), ?_⟩
            rw [set_nI]
            have n3 : ListN (upd G2 b (.lst (nI (B0.set (gt p.2.1 0) (gt p.2.1 1))))) b (B0.set (gt p.2.1 0) (gt p.2.1 1)) := upd_same
            have k3 : ∀ x o, x ≠ b → G2 x = some o → upd G2 b (.lst (nI (B0.set (gt p.2.1 0) (gt p.2.1 1)))) x = some o := fun x o h1 h => by rw [upd_ne h1]; exact h
            generalize upd G2 b (.lst (nI (B0.set (gt p.2.1 0) (gt p.2.1 1)))) = G3 at n3 k3 ⊢
            have hL3 : ListN G3 l p.2.1 := k3 _ _ nlb hL2
            refine ⟨_, rfl, l, _, _, _, rfl, rfl, hL3.sz, (show atI (nI p.2.1) ((0 : Nat) : Int) = some (V.int ((gt p.2.1 (0) : Nat) : Int)) from atN (by omega)), _, rfl, _, rfl, l, _, _, _, rfl, rfl, hL3.sz, (show atI (nI p.2.1) ((1 : Nat) : Int) = some (V.int ((gt p.2.1 (1) : Nat) : Int)) from atN (by omega)), b, _, _, gt p.2.1 1, rfl, rfl, n3, Evl.ixN_nat (by rw [nI_len]; exact (by rw [List.length_set]; exact ltB0 _ (gt_mem (by omega)))), ?_⟩
            rw [set_nI]
            have n4 : ListN (upd G3 b (.lst (nI ((B0.set (gt p.2.1 0) (gt p.2.1 1)).set (gt p.2.1 1) (gt p.2.1 0))))) b ((B0.set (gt p.2.1 0) (gt p.2.1 1)).set (gt p.2.1 1) (gt p.2.1 0)) := upd_same
            have k4 : ∀ x o, x ≠ b → G3 x = some o → upd G3 b (.lst (nI ((B0.set (gt p.2.1 0) (gt p.2.1 1)).set (gt p.2.1 1) (gt p.2.1 0)))) x = some o := fun x o h1 h => by rw [upd_ne h1]; exact h
            generalize upd G3 b (.lst (nI ((B0.set (gt p.2.1 0) (gt p.2.1 1)).set (gt p.2.1 1) (gt p.2.1 0)))) = G4 at n4 k4 ⊢
            exact ⟨_, rfl, fun x o h1 h2 h => k4 _ _ h2 (k3 _ _ h2 (K2 x o h1 h2 h)), k4 _ _ nab (k3 _ _ nab hA2), n4⟩
          | j + 2, hx, hA2, hB2 => cases hx
        rintro σ G2 ⟨v6, rfl, K2, hA2, hB2⟩
        have hA2 : ListN G2 a (swp A0 (gt p.2.1 0) (gt p.2.1 1)) := hA2
        have hB2 : ListN G2 b (swp B0 (gt p.2.1 0) (gt p.2.1 1)) := hB2
        refine ⟨_, rfl, rfl, _, rfl, ?_⟩
        rw [w4_ring pw]
        refine ifF (decide_eq_false (by omega)) ?_
        exact ⟨_, _, _, _, _, _, _, rfl, K2, hA2, hB2, S.step okq dis swp_len swp_len oA oB pA pB⟩
      have c1 := of_decide_eq_false c1
      refine ⟨_, rfl, l, _, rfl, .inl hLG.sz, _, _, rfl, rfl, _, rfl, by rw [nI_len]; omega, by rw [nI_len]; omega, ?_⟩
      rw [nI_len, show (((p.2.1.length : Nat) : Int) - 1).toNat = p.2.1.length - 1 by omega]
      refine for_range (lo := 0) (n := p.2.1.length - 1) (fun m σ G2 => ∃ (v6 v7 : Option V) (A1 B1 : List Nat), σ = [some (.ref q), some (.int (n : Int)), some (.ref r), some (.str (w4 p.1)), some (.ref l), some (.int (p.2.2 : Int)), v6, v7] ∧ (∀ x o, x ≠ a → x ≠ b → H3 x = some o → G2 x = some o) ∧ ListN G2 a A1 ∧ ListN G2 b B1 ∧ Lnk A0 A1 p.2.1 0 p.2.2 m ∧ Lnk B0 B1 p.2.1 1 p.2.2 m) ⟨v6, v7, A0, B0, rfl, K1, hA, hB, Lnk.zero fixA, Lnk.zero fixB⟩ ?_ ?_
      · rintro m σ G2 hm ⟨v6, v7, A1, B1, rfl, K2, hA2, hB2, LA, LB⟩
        rw [Int.zero_add]
        have hL2 : ListN G2 l p.2.1 := K2 _ _ nla nlb (e03 _ _ hL)
        have hrG := K2 _ _ nar nbr lr0
        have la1 := LA.len
        have lb1 := LB.len
        have bt : Builtin.bitAnd ((p.2.2 : Int) + (m : Int)) 1 = (((p.2.2 + m) % 2 : Nat) : Int) := bit1 (p.2.2 + m) (by omega)
        have par : (p.2.2 + m) % 2 = 0 ∨ (p.2.2 + m) % 2 = 1 := by omega
        rcases par with par | par
        · rw [par] at bt
          refine ⟨_, rfl, _, rfl, _, rfl, _, _, rfl, rfl, _, _, rfl, rfl, r, _, _, _, rfl, rfl, SqL.of hrG, (show atI [V.ref a, V.ref b] (Builtin.bitAnd ((p.2.2 : Int) + (m : Int)) 1) = some (V.ref a) from by rw [bt]; exact atI_nat rfl), ?_⟩
          refine ⟨_, rfl, _, rfl, _, _, rfl, rfl, l, _, _, _, rfl, rfl, hL2.sz, (show atI (nI p.2.1) ((m + 1 : Nat) : Int) = some (V.int ((gt p.2.1 (m + 1) : Nat) : Int)) from atN (by omega)), _, rfl, _, rfl, _, rfl, l, _, _, _, rfl, rfl, hL2.sz, (show atI (nI p.2.1) ((m : Nat) : Int) = some (V.int ((gt p.2.1 (m) : Nat) : Int)) from atN (by omega)), a, _, _, gt p.2.1 m, rfl, rfl, hA2, Evl.ixN_nat (by rw [nI_len]; exact (by rw [la1, S.la]; exact lt _ (gt_mem (by omega)))), ?_⟩
          rw [set_nI]
          have n3 : ListN (upd G2 a (.lst (nI (A1.set (gt p.2.1 m) (gt p.2.1 (m + 1)))))) a (A1.set (gt p.2.1 m) (gt p.2.1 (m + 1))) := upd_same
          have k3 : ∀ x o, x ≠ a → G2 x = some o → upd G2 a (.lst (nI (A1.set (gt p.2.1 m) (gt p.2.1 (m + 1))))) x = some o := fun x o h1 h => by rw [upd_ne h1]; exact h
          generalize upd G2 a (.lst (nI (A1.set (gt p.2.1 m) (gt p.2.1 (m + 1))))) = G3 at n3 k3 ⊢
          have hL3 : ListN G3 l p.2.1 := k3 _ _ nla hL2
          refine ⟨_, rfl, _, rfl, l, _, _, _, rfl, rfl, hL3.sz, (show atI (nI p.2.1) ((m : Nat) : Int) = some (V.int ((gt p.2.1 (m) : Nat) : Int)) from atN (by omega)), _, rfl, _, rfl, _, rfl, _, _, rfl, rfl, l, _, _, _, rfl, rfl, hL3.sz, (show atI (nI p.2.1) ((m + 1 : Nat) : Int) = some (V.int ((gt p.2.1 (m + 1) : Nat) : Int)) from atN (by omega)), a, _, _, gt p.2.1 (m + 1), rfl, rfl, n3, Evl.ixN_nat (by rw [nI_len]; exact (by rw [List.length_set]; rw [la1, S.la]; exact lt _ (gt_mem (by omega)))), ?_⟩
          rw [set_nI]
          have n4 : ListN (upd G3 a (.lst (nI ((A1.set (gt p.2.1 m) (gt p.2.1 (m + 1))).set (gt p.2.1 (m + 1)) (gt p.2.1 m))))) a ((A1.set (gt p.2.1 m) (gt p.2.1 (m + 1))).set (gt p.2.1 (m + 1)) (gt p.2.1 m)) := upd_same
          have k4 : ∀ x o, x ≠ a → G3 x = some o → upd G3 a (.lst (nI ((A1.set (gt p.2.1 m) (gt p.2.1 (m + 1))).set (gt p.2.1 (m + 1)) (gt p.2.1 m)))) x = some o := fun x o h1 h => by rw [upd_ne h1]; exact h
          generalize upd G3 a (.lst (nI ((A1.set (gt p.2.1 m) (gt p.2.1 (m + 1))).set (gt p.2.1 (m + 1)) (gt p.2.1 m)))) = G4 at n4 k4 ⊢
          exact ⟨_, _, _, _, rfl, fun x o h1 h2 h => k4 _ _ h1 (k3 _ _ h1 (K2 x o h1 h2 h)), n4, k4 _ _ (Ne.symm nab) (k3 _ _ (Ne.symm nab) hB2), LA.go ok.nd ltA0 (by omega) par, LB.same (by decide) (by omega)⟩
        · rw [par] at bt
          refine ⟨_, rfl, _, rfl, _, rfl, _, _, rfl, rfl, _, _, rfl, rfl, r, _, _, _, rfl, rfl, SqL.of hrG, (show atI [V.ref a, V.ref b] (Builtin.bitAnd ((p.2.2 : Int) + (m : Int)) 1) = some (V.ref b) from by rw [bt]; exact atI_nat rfl), ?_⟩
          refine ⟨_, rfl, _, rfl, _, _, rfl, rfl, l, _, _, _, rfl, rfl, hL2.sz, (show atI (nI p.2.1) ((m + 1 : Nat) : Int) = some (V.int ((gt p.2.1 (m + 1) : Nat) : Int)) from atN (by omega)), _, rfl, _, rfl, _, rfl, l, _, _, _, rfl, rfl, hL2.sz, (show atI (nI p.2.1) ((m : Nat) : Int) = some (V.int ((gt p.2.1 (m) : Nat) : Int)) from atN (by omega)), b, _, _, gt p.2.1 m, rfl, rfl, hB2, Evl.ixN_nat (by rw [nI_len]; exact (by rw [lb1, S.lb]; exact lt _ (gt_mem (by omega)))), ?_⟩
          rw [set_nI]
          have n3 : ListN (upd G2 b (.lst (nI (B1.set (gt p.2.1 m) (gt p.2.1 (m + 1)))))) b (B1.set (gt p.2.1 m) (gt p.2.1 (m + 1))) := upd_same
          have k3 : ∀ x o, x ≠ b → G2 x = some o → upd G2 b (.lst (nI (B1.set (gt p.2.1 m) (gt p.2.1 (m + 1))))) x = some o := fun x o h1 h => by rw [upd_ne h1]; exact h
          generalize upd G2 b (.lst (nI (B1.set (gt p.2.1 m) (gt p.2.1 (m + 1))))) = G3 at n3 k3 ⊢
          have hL3 : ListN G3 l p.2.1 := k3 _ _ nlb hL2
          refine ⟨_, rfl, _, rfl, l, _, _, _, rfl, rfl, hL3.sz, (show atI (nI p.2.1) ((m : Nat) : Int) = some (V.int ((gt p.2.1 (m) : Nat) : Int)) from atN (by omega)), _, rfl, _, rfl, _, rfl, _, _, rfl, rfl, l, _, _, _, rfl, rfl, hL3.sz, (show atI (nI p.2.1) ((m + 1 : Nat) : Int) = some (V.int ((gt p.2.1 (m + 1) : Nat) : Int)) from atN (by omega)), b, _, _, gt p.2.1 (m + 1), rfl, rfl, n3, Evl.ixN_nat (by rw [nI_len]; exact (by rw [List.length_set]; rw [lb1, S.lb]; exact lt _ (gt_mem (by omega)))), ?_⟩
          rw [set_nI]
          have n4 : ListN (upd G3 b (.lst (nI ((B1.set (gt p.2.1 m) (gt p.2.1 (m + 1))).set (gt p.2.1 (m + 1)) (gt p.2.1 m))))) b ((B1.set (gt p.2.1 m) (gt p.2.1 (m + 1))).set (gt p.2.1 (m + 1)) (gt p.2.1 m)) := upd_same
          have k4 : ∀ x o, x ≠ b → G3 x = some o → upd G3 b (.lst (nI ((B1.set (gt p.2.1 m) (gt p.2.1 (m + 1))).set (gt p.2.1 (m + 1)) (gt p.2.1 m)))) x = some o := fun x o h1 h => by rw [upd_ne h1]; exact h
          generalize upd G3 b (.lst (nI ((B1.set (gt p.2.1 m) (gt p.2.1 (m + 1))).set (gt p.2.1 (m + 1)) (gt p.2.1 m)))) = G4 at n4 k4 ⊢
          exact ⟨_, _, _, _, rfl, fun x o h1 h2 h => k4 _ _ h2 (k3 _ _ h2 (K2 x o h1 h2 h)), k4 _ _ nab (k3 _ _ nab hA2), n4, LA.same (by decide) (by omega), LB.go ok.nd ltB0 (by omega) par⟩
      rintro σ G2 ⟨v6, v7, A1, B1, rfl, K2, hA2, hB2, LA, LB⟩
      have la1 := LA.len
      have lb1 := LB.len
      have hL2 : ListN G2 l p.2.1 := K2 _ _ nla nlb (e03 _ _ hL)
      have hrG := K2 _ _ nar nbr lr0
      refine ⟨_, rfl, rfl, _, rfl, ?_⟩
      rw [w4_ring pw]
      refine ite_b (fun c3 => ?_) (fun c3 => ?_)
      · have c3 := of_decide_eq_true c3
        obtain ⟨n4_, n2⟩ := ok.l3 c3
        have z0 := s0 c3
        refine ⟨_, rfl, r, _, _, _, rfl, rfl, SqL.of hrG, atI_nat (j := 1) rfl, ?_⟩
        refine ⟨_, rfl, l, _, _, _, rfl, rfl, hL2.sz, (show atI (nI p.2.1) ((0 : Nat) : Int) = some (V.int ((gt p.2.1 (0) : Nat) : Int)) from atN (by omega)), _, rfl, _, rfl, _, rfl, l, _, _, _, rfl, rfl, hL2.sz, atLast ok.pos, b, _, _, gt p.2.1 (p.2.1.length - 1), rfl, rfl, hB2, Evl.ixN_nat (by rw [nI_len]; exact (by rw [lb1, S.lb]; exact lt _ (gt_mem (by omega)))), ?_⟩
        rw [set_nI]
        have n3 : ListN (upd G2 b (.lst (nI (B1.set (gt p.2.1 (p.2.1.length - 1)) (gt p.2.1 0))))) b (B1.set (gt p.2.1 (p.2.1.length - 1)) (gt p.2.1 0)) := upd_same
        have k3 : ∀ x o, x ≠ b → G2 x = some o → upd G2 b (.lst (nI (B1.set (gt p.2.1 (p.2.1.length - 1)) (gt p.2.1 0)))) x = some o := fun x o h1 h => by rw [upd_ne h1]; exact h
        generalize upd G2 b (.lst (nI (B1.set (gt p.2.1 (p.2.1.length - 1)) (gt p.2.1 0)))) = G3 at n3 k3 ⊢
        have hL3 : ListN G3 l p.2.1 := k3 _ _ nlb hL2
        refine ⟨_, rfl, _, rfl, l, _, _, _, rfl, rfl, hL3.sz, atLast ok.pos, _, rfl, _, rfl, l, _, _, _, rfl, rfl, hL3.sz, (show atI (nI p.2.1) ((0 : Nat) : Int) = some (V.int ((gt p.2.1 (0) : Nat) : Int)) from atN (by omega)), b, _, _, gt p.2.1 0, rfl, rfl, n3, Evl.ixN_nat (by rw [nI_len]; exact (by rw [List.length_set]; rw [lb1, S.lb]; exact lt _ (gt_mem (by omega)))), ?_⟩
        rw [set_nI]
        have n4 : ListN (upd G3 b (.lst (nI ((B1.set (gt p.2.1 (p.2.1.length - 1)) (gt p.2.1 0)).set (gt p.2.1 0) (gt p.2.1 (p.2.1.length - 1)))))) b ((B1.set (gt p.2.1 (p.2.1.length - 1)) (gt p.2.1 0)).set (gt p.2.1 0) (gt p.2.1 (p.2.1.length - 1))) := upd_same
        have k4 : ∀ x o, x ≠ b → G3 x = some o → upd G3 b (.lst (nI ((B1.set (gt p.2.1 (p.2.1.length - 1)) (gt p.2.1 0)).set (gt p.2.1 0) (gt p.2.1 (p.2.1.length - 1))))) x = some o := fun x o h1 h => by rw [upd_ne h1]; exact h
        generalize upd G3 b (.lst (nI ((B1.set (gt p.2.1 (p.2.1.length - 1)) (gt p.2.1 0)).set (gt p.2.1 0) (gt p.2.1 (p.2.1.length - 1))))) = G4 at n4 k4 ⊢
        exact ⟨_, _, _, _, _, _, _, rfl, fun x o h1 h2 h => k4 _ _ h2 (k3 _ _ h2 (K2 x o h1 h2 h)), k4 _ _ nab (k3 _ _ nab hA2), n4, S.step okq dis LA.len (by show (swp B1 _ _).length = _; rw [swp_len]; exact LB.len) LA.out (ring_out LB pos ltB0) (LA.ring0 ok c3 z0) (LB.ring1 ok ltB0 c3 z0)⟩
      · have c3 := of_decide_eq_false c3
        have both : PcAt A1 0 p ∧ PcAt B1 1 p := by
          have : p.1 = 0 ∨ p.1 = 2 := by omega
          rcases this with z | z
          · exact ⟨LA.free ok z, LB.free ok z⟩
          · exact ⟨LA.chain z, LB.chain z⟩
        exact ⟨_, _, _, _, _, _, _, rfl, K2, hA2, hB2, S.step okq dis LA.len LB.len LA.out LB.out both.1 both.2⟩
    rintro σ G ⟨v3, v4, v5, v6, v7, A0, B0, rfl, K1, hA, hB, S⟩
    rw [List.length_map, tl, List.take_length] at S
    exact ⟨_, rfl, k r a b A0 B0 G fr ha fb nab (fun x o h => K1 x o (ne_of_none h ha) (ne_of_none h fb) (e03 x o h)) (K1 _ _ nar nbr lr0) hA hB ⟨S.la, S.lb, by decide, C.perm, C.ok, S.at_⟩⟩

end

section
variable {P : Program} {w : World} {K : PySem.W.Frag} {mg : Str → Option Value} {base : Heap} {A : Ad}
theorem ok_law_built (T : Txt K mg A)  (g_law_order : Okd P w K mg base CX0 3 A.law_order P_law_order spOr) (g_law_piece : Okd P w K mg base CX0 3 A.law_piece P_law_piece spPc) : Okd P w K mg base CX0 4 A.law_built P_law_built spBt := by
  obtain ⟨fd, F⟩ := T.d_law_built
  obtain ⟨fd_law_order, G_law_order, b_law_order⟩ := g_law_order
  obtain ⟨fd_law_piece, G_law_piece, b_law_piece⟩ := g_law_piece
  refine ⟨fd, F.ok sc_law_built (fun vs H Q E h => ?_) (fun cdv A' outer s H vs Q E hr h => ?_), F.binds fun _ _ _ _ _ _ us hl => match us, hl with | [_, _], _ => rfl⟩
  · obtain ⟨b, c, n, rfl, _⟩ := h
    rfl
  · obtain ⟨b, c, n, rfl, hn, B, k⟩ := h
    refine ⟨_, (pss_cons (ps_set (i := 2) sc_law_built.nd rfl (Or.inl rfl) (pe_call G_law_order (hr.mono (by decide)) (by rfl) T.g_law_order T.k_law_order b_law_order .nil pass0 (pa_cons (pv 0) (pa_cons (pv 1) pa_nil))))
      (pss_cons (ps_set (i := 3) sc_law_built.nd rfl (Or.inl rfl) (pe_lst pa_nil))
      (pss_cons (ps_for PassesOwn.never rfl (pi_range1 (by rfl) T.n_range (pa_cons (pv 1) pa_nil)) (pg_name (i := 4) sc_law_built.nd rfl (Or.inl rfl)) (pss_one (ps_if (pt_cmpR op_gt (pe_callB call_len_seq (by rfl) T.n_len PySem.boot_len (pa_cons (pv 2) pa_nil)) pe_int (nomark _)) (pss_cons (ps_asg (pe_call G_law_piece (hr.mono (by decide)) (by rfl) T.g_law_piece T.k_law_piece b_law_piece .nil pass0 (pa_cons (pv 0) (pa_cons (pe_callB call_len_seq (by rfl) T.n_len PySem.boot_len (pa_cons (pv 2) pa_nil)) pa_nil))) (pg_unl (by rfl) (pgs_cons (pg_name (i := 5) sc_law_built.nd rfl (Or.inl rfl)) (pgs_cons (pg_name (i := 6) sc_law_built.nd rfl (Or.inl rfl)) (pgs_cons (pg_name (i := 7) sc_law_built.nd rfl (Or.inl rfl)) pgs_nil)))))
      (pss_cons (ps_expr (pe_bm PySem.F.plainAttrs_list PySem.F.slot_list_append PySem.F.type_list_append mt_append (pv 3) (pa_cons (pe_lst (pa_cons (pv 5) (pa_cons (pe_slice sl_list (pv 2) po_none (po_some (pv 6))) (pa_cons (pv 7) pa_nil)))) pa_nil)))
      (pss_one (ps_set (i := 2) sc_law_built.nd rfl (Or.inl rfl) (pe_slice sl_list (pv 2) (po_some (pv 6)) po_none))))) pss_nil)))
      (pss_one (ps_ret (pv 3)))))), ?_⟩
    refine ⟨_, rfl, _, rfl, b, c, n, rfl, hn, B, fun pl os H1 hpl B1 M1 lpl pm => ?_⟩
    have nplb : pl ≠ b := (B.ne hpl).1
    refine ⟨(by show 0 ≤ sizeLine; decide), fun D hD => ?_⟩
    obtain ⟨nDb, nDc⟩ := B1.ne hD
    have e1 := Ex.new (o := .lst []) hD
    have hD0 : upd H1 D (.lst []) D = some (.lst []) := upd_same
    have B2 := B1.ex e1
    have lp2 := lpl.ex e1
    have M2 : Mut b H (upd H1 D (.lst [])) := fun x o h1 h => e1 _ _ (M1 _ _ h1 h)
    have npD : pl ≠ D := ne_of_none (show H1 pl = some _ from lpl) hD
    have fD : H D = none := bx_back B1 M1 hD
    generalize upd H1 D (.lst []) = H2 at hD0 B2 lp2 M2 ⊢
    have osl : os.length = n := by
      have := pm.length_eq
      rw [List.length_range] at this
      exact this
    refine ⟨_, rfl, _, rfl, by omega, by omega, ?_⟩
    rw [Int.toNat_natCast]
    refine for_range (lo := 0) (n := n) (fun i σ G => ∃ (pl : Addr) (rest : List Nat) (ps : List Pc) (ts : List Addr) (v4 v5 v6 v7 : Option V), σ = [some (.ref b), some (.int (n : Int)), some (.ref pl), some (.ref D), v4, v5, v6, v7] ∧ Bx G b c ∧ Mut b H G ∧ ListN G pl rest ∧ pl ≠ b ∧ pl ≠ D ∧ G D = some (.lst (ts.map V.ref)) ∧ ts.length = ps.length ∧ ts.length ≤ i ∧ (∀ (j : Nat) (t : Addr) (p : Pc), ts[j]? = some t → ps[j]? = some p → ∃ l, G t = some (.lst [.str (w4 p.1), .ref l, .int (p.2.2 : Int)]) ∧ ListN G l p.2.1 ∧ t ≠ D ∧ l ≠ D ∧ t ≠ b ∧ l ≠ b) ∧ rest.length ≤ n - i ∧ (ps.flatMap (·.2.1) ++ rest).Perm (List.range n) ∧ (∀ p ∈ ps, PcOk p) ∧ (∀ p ∈ ps, p.1 = 3 → p.2.2 = 0)) ⟨pl, os, [], [], none, none, none, none, rfl, B2, M2, lp2, nplb, npD, hD0, rfl, Nat.le_refl _, (fun j t p z => by cases z), by rw [osl]; exact Nat.le_refl _, pm, (fun p h => by cases h), (fun p h => by cases h)⟩ ?_ ?_
    · rintro i σ G hi ⟨pl, rest, ps, ts, v4, v5, v6, v7, rfl, BG, MG, lp, npb, npD, hGD, tl, tli, tat, rl, pm, ok, s0⟩
      rw [Int.zero_add]
      refine ⟨_, rfl, pl, _, rfl, .inl lp.sz, _, _, rfl, rfl, _, rfl, ?_⟩
      refine ite_b (fun c1 => ?_) (fun c1 => ?_)
      rotate_left
      · have c1 := of_decide_eq_false c1
        rw [nI_len] at c1
        exact ⟨pl, rest, ps, ts, _, _, _, _, rfl, BG, MG, lp, npb, npD, hGD, tl, by omega, tat, by omega, pm, ok, s0⟩
      have c1 := of_decide_eq_true c1
      have rn : (nI rest).length = rest.length := nI_len rest
      refine ⟨_, rfl, _, rfl, pl, _, rfl, .inl lp.sz, b, c, (nI rest).length, rfl, by omega, by omega, BG, fun p w nn st G1 hp B3 M3 hp1 S => ?_⟩
      rw [rn] at S c1
      have M3' := MG.trans M3
      have lp1 : ListN G1 pl rest := M3 _ _ npb lp
      have hD1 := M3 _ _ nDb hGD
      refine ⟨p, _, rfl, SqL.of hp1, rfl, _, _, rfl, _, _, rfl, _, _, rfl, rfl, ?_⟩
      refine ⟨_, rfl, Or.inl ⟨rfl, _, SqL.of hD1⟩, _, rfl, _, rfl, _, rfl, _, rfl, pl, _, rfl, lp1.sz, fun q1 hq1 => ?_⟩
      rw [show cutV (nI rest) none (some ((nn : Nat) : Int)) = nI (rest.take nn) from cutTake S.hn]
      obtain ⟨nq1b, nq1c⟩ := B3.ne hq1
      have E1 := Ex.new (o := .lst (nI (rest.take nn))) hq1
      have l1 : ListN (upd G1 q1 (.lst (nI (rest.take nn)))) q1 (rest.take nn) := upd_same
      have nq1D : q1 ≠ D := fun z => by rw [z, hD1] at hq1; cases hq1
      generalize upd G1 q1 (.lst (nI (rest.take nn))) = G2 at E1 l1 ⊢
      refine ⟨_, rfl, (by show 3 ≤ sizeLine; decide), fun t ht => ?_⟩
      obtain ⟨ntb, ntc⟩ := (B3.ex E1).ne ht
      have hD2 := E1 _ _ hD1
      have ntD : t ≠ D := fun z => by rw [z, hD2] at ht; cases ht
      have E2 := Ex.new (o := .lst [V.str (w4 w), V.ref q1, V.int (st : Int)]) ht
      have lt2 : upd G2 t (.lst [V.str (w4 w), V.ref q1, V.int (st : Int)]) t = some (.lst [V.str (w4 w), V.ref q1, V.int (st : Int)]) := upd_same
      generalize upd G2 t (.lst [V.str (w4 w), V.ref q1, V.int (st : Int)]) = G3 at E2 lt2 ⊢
      have hD3 := E2 _ _ hD2
      refine ⟨_, _, _, rfl, rfl, hD3, small1000 (by rw [List.length_map]; omega), ?_⟩
      have nD : ∀ x o, x ≠ D → G3 x = some o → upd G3 D (.lst (ts.map V.ref ++ [V.ref t])) x = some o := fun x o h1 h => by
        rw [upd_ne h1]
        exact h
      have hD4 : upd G3 D (.lst (ts.map V.ref ++ [V.ref t])) D = some (.lst ((ts ++ [t]).map V.ref)) := by
        rw [upd_same, List.map_append]
        rfl
      generalize upd G3 D (.lst (ts.map V.ref ++ [V.ref t])) = G4 at nD hD4 ⊢
      have E13 := E1.trans E2
      have lp4 : ListN G4 pl rest := nD _ _ npD (E13 _ _ lp1)
      refine ⟨_, rfl, _, rfl, _, rfl, pl, _, rfl, lp4.sz, fun q2 hq2 => ?_⟩
      rw [show cutV (nI rest) (some ((nn : Nat) : Int)) none = nI (rest.drop nn) from cutDrop S.hn]
      have B4 : Bx G4 b c := B3.keep (fun o h => nD _ _ (Ne.symm nDb) (E13 _ _ h)) (fun o h => nD _ _ (Ne.symm nDc) (E13 _ _ h))
      have E4 := Ex.new (o := .lst (nI (rest.drop nn))) hq2
      have l2 : ListN (upd G4 q2 (.lst (nI (rest.drop nn)))) q2 (rest.drop nn) := upd_same
      have nq2D : q2 ≠ D := fun z => by rw [z, hD4] at hq2; cases hq2
      have nq2b := (B4.ne hq2).1
      generalize upd G4 q2 (.lst (nI (rest.drop nn))) = G5 at E4 l2 ⊢
      have keep : ∀ x o, x ≠ b → x ≠ D → G x = some o → G5 x = some o := fun x o h1 h2 h => E4 _ _ (nD _ _ h2 (E13 _ _ (M3 _ _ h1 h)))
      have shn := S.hn
      have tkl : (rest.take nn).length = nn := by rw [List.length_take]; omega
      have n1 : 1 ≤ nn := by
        have h0 := S.l0
        have h1 := S.l1
        have h2 := S.l2
        have h3 := S.l3
        have hw := S.hw
        by_cases z0 : w = 0
        · have := h0 z0; omega
        · by_cases z1 : w = 1
          · have := h1 z1; omega
          · by_cases z2 : w = 2
            · have := h2 z2; omega
            · have := h3 (by omega); omega
      have nd := pm.nodup_iff.mpr List.nodup_range
      rw [List.nodup_append] at nd
      have okp : PcOk (w, rest.take nn, st) := ⟨S.hw, S.hs, nd.2.1.sublist (List.take_sublist _ _), fun h => tkl.trans (S.l0 h), fun h => tkl.trans (S.l1 h), fun h => by show 2 ≤ (rest.take nn).length; rw [tkl]; exact S.l2 h, fun h => by show 4 ≤ (rest.take nn).length ∧ (rest.take nn).length % 2 = 0; rw [tkl]; exact ⟨(S.l3 h).1, (S.l3 h).2.1⟩⟩
      refine ⟨q2, rest.drop nn, ps ++ [(w, rest.take nn, st)], ts ++ [t], _, _, _, _, rfl, B4.ex E4, fun x o h1 h => keep _ _ h1 (ne_of_none h fD) (MG _ _ h1 h), l2, nq2b, nq2D, E4 _ _ hD4, by rw [List.length_append, List.length_append, tl]; rfl, by rw [List.length_append]; exact Nat.succ_le_succ tli, app_at tl (fun j t' p' x y => ?_) ?_, by rw [List.length_drop]; omega, ?_, ?_, ?_⟩
      · obtain ⟨l', b1, b2, b3, b4, b5, b6⟩ := tat j t' p' x y
        exact ⟨l', keep _ _ b5 b3 b1, keep _ _ b6 b4 b2, b3, b4, b5, b6⟩
      · exact ⟨q1, E4 _ _ (nD _ _ ntD lt2), E4 _ _ (nD _ _ nq1D (E2 _ _ l1)), ntD, nq1D, ntb, nq1b⟩
      · rw [List.flatMap_append, List.flatMap_cons, List.flatMap_nil, List.append_nil, List.append_assoc]
        show (ps.flatMap _ ++ (rest.take nn ++ rest.drop nn)).Perm _
        rw [List.take_append_drop]
        exact pm
      · intro p' hp'
        rcases List.mem_append.mp hp' with h | h
        · exact ok _ h
        · rw [List.mem_singleton.mp h]
          exact okp
      · intro p' hp' h3
        rcases List.mem_append.mp hp' with h | h
        · exact s0 _ h h3
        · rw [List.mem_singleton.mp h] at h3 ⊢
          exact (S.l3 h3).2.2
    rintro σ G ⟨pl, rest, ps, ts, v4, v5, v6, v7, rfl, BG, MG, lp, npb, npD, hGD, tl, tli, tat, rl, pm, ok, s0⟩
    have r0 : rest = [] := List.length_eq_zero_iff.mp (by omega)
    rw [r0, List.append_nil] at pm
    refine ⟨_, rfl, k D ps G fD BG MG ⟨ts, hGD, tl, fun j t p x y => ?_⟩ ⟨pm, ok, s0⟩⟩
    obtain ⟨l', b1, b2, _⟩ := tat j t p x y
    exact ⟨l', b1, b2⟩

end

section
variable {P : Program} {w : World} {K : PySem.W.Frag} {mg : Str → Option Value} {base : Heap} {A : Ad}
theorem ok_law_size (T : Txt K mg A)  (g_law_draw : Okd P w K mg base CX0 2 A.law_draw P_law_draw spDw) : Okd P w K mg base CX0 3 A.law_size P_law_size spSz := by
  obtain ⟨fd, F⟩ := T.d_law_size
  obtain ⟨fd_law_draw, G_law_draw, b_law_draw⟩ := g_law_draw
  refine ⟨fd, F.ok sc_law_size (fun vs H Q E h => ?_) (fun cdv A' outer s H vs Q E hr h => ?_), F.binds fun _ _ _ _ _ _ us hl => match us, hl with | [_], _ => rfl⟩
  · obtain ⟨b, c, rfl, _⟩ := h
    rfl
  · obtain ⟨b, c, rfl, B, k⟩ := h
    refine ⟨_, (pss_cons (ps_if (pt_cmpR op_eq (pe_call G_law_draw (hr.mono (by decide)) (by rfl) T.g_law_draw T.k_law_draw b_law_draw .nil pass0 (pa_cons (pv 0) (pa_cons pe_int pa_nil))) pe_int (nomark _)) (pss_one (ps_ret (pe_call G_law_draw (hr.mono (by decide)) (by rfl) T.g_law_draw T.k_law_draw b_law_draw .nil pass0 (pa_cons (pv 0) (pa_cons pe_int pa_nil))))) pss_nil)
      (pss_one (ps_ret (pe_call G_law_draw (hr.mono (by decide)) (by rfl) T.g_law_draw T.k_law_draw b_law_draw .nil pass0 (pa_cons (pv 0) (pa_cons pe_int pa_nil)))))), ?_⟩
    refine ⟨_, rfl, b, c, 8, rfl, by decide, by decide, B, fun d H1 d1 B1 M1 => ⟨rfl, _, rfl, ?_⟩⟩
    refine ite_b (fun _ => ?_) (fun _ => ?_)
    · refine ⟨_, rfl, b, c, 65, rfl, by decide, by decide, B1, fun n H2 n1 B2 M2 => k n H2 (by omega) B2 (M1.trans M2)⟩
    · refine ⟨_, rfl, b, c, 13, rfl, by decide, by decide, B1, fun n H2 n1 B2 M2 => k n H2 (by omega) B2 (M1.trans M2)⟩

end

section
variable {P : Program} {w : World} {K : PySem.W.Frag} {mg : Str → Option Value} {base : Heap} {A : Ad}
theorem ok_law_box (T : Txt K mg A)   : Okd P w K mg base CX0 1 A.law_box P_law_box (spBox K) := by
  obtain ⟨fd, F⟩ := T.d_law_box

  refine ⟨fd, F.ok sc_law_box (fun vs H Q E h => ?_) (fun cdv A' outer s H vs Q E hr h => ?_), F.binds fun _ _ _ _ _ _ us hl => match us, hl with | [_], _ => rfl⟩
  · obtain ⟨a, ns, rfl, _⟩ := h
    rfl
  · obtain ⟨a, ns, rfl, hs, hl, k⟩ := h
    refine ⟨_, (pss_cons (ps_set (i := 1) sc_law_box.nd rfl (Or.inl rfl) pe_int)
      (pss_cons (ps_for PassesOwn.never rfl (pi_list (pe_slice sl_list (pv 0) po_none (po_some pe_int))) (pg_name (i := 2) sc_law_box.nd rfl (Or.inl rfl)) (pss_one (ps_set (i := 1) sc_law_box.nd rfl (Or.inl rfl) (pe_op op_mod (pe_callTy call_int1 (by rfl) T.n_int (by decide +kernel) (pa_cons (pe_op op_add (pe_op op_mul (pv 1) pe_int) (pv 2)) pa_nil)) pe_int))))
      (pss_one (ps_ret (pe_lst (pa_cons (pe_callTy call_list_of (by rfl) T.n_list (by decide +kernel) (pa_cons (pe_slice sl_list (pv 0) po_none (po_some pe_int)) pa_nil)) (pa_cons pe_int (pa_cons pe_int (pa_cons pe_int (pa_cons (pv 1) pa_nil)))))))))), ?_⟩
    have cutA : cutV (ns.map V.int) none (some (63 : Int)) = ns.map V.int := by
      unfold cutV
      rw [show HT.sIx (ns.map V.int).length 0 none = 0 from rfl, show HT.sIx (ns.map V.int).length (ns.map V.int).length (some (63 : Int)) = min 63 (ns.map V.int).length from HT.sIx_nat _ _ 63, List.drop_zero, Nat.sub_zero]
      exact List.take_of_length_le (by rw [List.length_map]; omega)
    refine ⟨_, rfl, _, rfl, a, _, rfl, hs, fun l1 hl1 => ?_⟩
    rw [cutA]
    have e1 := Ex.new (o := .lst (ns.map V.int)) hl1
    have h1 : upd H l1 (.lst (ns.map V.int)) l1 = some (.lst (ns.map V.int)) := upd_same
    generalize upd H l1 (.lst (ns.map V.int)) = H1 at e1 h1 ⊢
    refine ⟨l1, rfl, ⟨_, SqL.of h1⟩, for_list (K := K) (a := l1) (xs := ns.map V.int) (fun i σ G => ∃ (v2 : Option V) (sd : Int), σ = [some (.ref a), some (.int sd), v2] ∧ G = H1) ⟨none, 5, rfl, rfl⟩ (fun i σ G _ ⟨_, _, _, e⟩ => by rw [e]; exact SqL.of h1) ?_ ?_⟩
    · rintro i x σ G hx ⟨v2, sd, rfl, rfl⟩
      obtain ⟨z, hz, rfl⟩ := markV_int hx
      walk_at "r"
      exact ⟨_, _, rfl, rfl⟩
    rintro σ G ⟨v2, sd, rfl, rfl⟩
    refine ⟨_, rfl, _, rfl, a, _, rfl, sqL_ex e1 hs, fun l2 hl2 => ?_⟩
    rw [cutA]
    have e2 := Ex.new (o := .lst (ns.map V.int)) hl2
    have h2 : upd G l2 (.lst (ns.map V.int)) l2 = some (.lst (ns.map V.int)) := upd_same
    generalize upd G l2 (.lst (ns.map V.int)) = H2 at e2 h2 ⊢
    refine ⟨l2, _, rfl, Or.inl (SqL.of h2), fun c hc => ?_⟩
    have e3 := Ex.new (o := .lst (ns.map V.int)) hc
    have h3 : upd H2 c (.lst (ns.map V.int)) c = some (.lst (ns.map V.int)) := upd_same
    generalize upd H2 c (.lst (ns.map V.int)) = H3 at e3 h3 ⊢
    refine ⟨_, rfl, (by show 5 ≤ sizeLine; decide), fun b hb => ?_⟩
    have e4 := Ex.new (o := .lst [V.ref c, V.int 0, V.int 0, V.int 0, V.int sd]) hb
    have e13 := (e1.trans e2).trans e3
    exact k b c _ (back_none e13 hb) (back_none (e1.trans e2) hc) (e13.trans e4) ⟨ns, 0, 0, 0, sd, upd_same, e4 _ _ h3, by decide, by decide⟩

end

section
variable {P : Program} {w : World} {K : PySem.W.Frag} {mg : Str → Option Value} {base : Heap} {A : Ad}
theorem ok_law_call (T : Txt K mg A)  (g_parts : Okd P w K mg base (L2N.CX P w) 6 A.parts P_parts (spPts A)) (g_kind_of : Okd P w K mg base (L2N.CX P w) 7 A.kind_of P_kind_of (spKd A)) (g_m_init : Okd P w K mg base (L2N.CX P w) 6 A.m_init P_m_init (spUi A)) : Okd P w K mg base (L2N.CX P w) 8 A.law_call P_law_call (spCl A) := by
  obtain ⟨fd, F⟩ := T.d_law_call
  obtain ⟨fd_parts, G_parts, b_parts⟩ := g_parts
  obtain ⟨fd_kind_of, G_kind_of, b_kind_of⟩ := g_kind_of
  obtain ⟨fd_m_init, G_m_init, b_m_init⟩ := g_m_init
  refine ⟨fd, F.okN sc_law_call (fun vs H Q E h => ?_) (fun cdv A' outer s H vs Q E hr h => ?_), F.binds fun _ _ _ _ _ _ us hl => match us, hl with | [_, _, _], _ => rfl⟩
  · obtain ⟨a, b, xs, zs, dr, rfl, _⟩ := h
    rfl
  · obtain ⟨a, b, xs, zs, dr, rfl, h3, ha, hb, hl, hl2, kq, kr⟩ := h
    refine ⟨_, (pss_one (ps_if (pt_cmpR op_eq (pv 0) pe_int (nomark _)) (pss_one (ps_expr (pe_callS G_parts (hr.mono (by decide)) rfl T.g_parts T.k_parts b_parts (fun σ => L2N.passAt (L2N.takes_of rfl rfl rfl rfl) σ) (pa_cons (pv 1) (pa_cons (pv 2) pa_nil))))) (pss_one (ps_if (pt_cmpR op_eq (pv 0) pe_int (nomark _)) (pss_one (ps_expr (pe_callS G_kind_of (hr.mono (by decide)) rfl T.g_kind_of T.k_kind_of b_kind_of (fun σ => L2N.passAt (L2N.takes_of rfl rfl rfl rfl) σ) (pa_cons (pv 1) (pa_cons (pv 2) pa_nil))))) (pss_one (ps_expr (DaS.pe_makeP T.mkR G_m_init (hr.mono (by decide)) (by rfl) T.g_Update b_m_init (fun σ => L2N.passAt (L2N.takes_of rfl rfl rfl rfl) σ) (pa_cons (pv 1) (pa_cons (pv 2) pa_nil))))))))), ?_⟩
    refine ⟨_, rfl, rfl, _, rfl, ?_⟩
    refine ite_b (fun c => ?_) (fun c => ?_)
    · exact ⟨_, rfl, _, rfl, a, b, xs, zs, rfl, ha, hb, hl, hl2, fun f0 p H' _ e _ => kq f0 H' e, fun f hf => kr f hf⟩
    refine ⟨_, rfl, rfl, _, rfl, ?_⟩
    refine ite_b (fun c2 => ?_) (fun c2 => ?_)
    · exact ⟨_, rfl, _, rfl, a, b, xs, zs, rfl, ha, hb, hl, hl2, fun f0 p es H' _ e _ _ _ => kq f0 H' e, fun f hf => kr f hf⟩
    refine ⟨_, rfl, _, rfl, fun u dx hu hdx ne => ?_⟩
    have e1 : Ex H (upd (upd H dx (.own u)) u (.ins A.Update dx [])) := fun x o h => by
      rw [upd_ne (ne_of_none h hu), upd_ne (ne_of_none h hdx)]
      exact h
    have hu1 : upd (upd H dx (.own u)) u (.ins A.Update dx []) u = some (.ins A.Update dx []) := upd_same
    generalize upd (upd H dx (.own u)) u (.ins A.Update dx []) = H1 at e1 hu1 ⊢
    exact ⟨u, a, b, dx, xs, zs, rfl, hu1, ha.ex e1, hb.ex e1, hl, hl2, fun f0 p q H' _ _ _ K1 _ _ _ => ⟨rfl, kq f0 H' fun x o h => K1 x o (ne_of_none h hu) (e1 x o h)⟩, fun f hf => (kr f hf).mono e1⟩

end

section
variable {P : Program} {w : World} {K : PySem.W.Frag} {mg : Str → Option Value} {base : Heap} {A : Ad}
theorem ok_check_image (T : Txt K mg A)  (g_InvalidImage : Okd P w K mg base CX0 1 A.i_InvalidImage P_InvalidImage (spInit A.InvalidImage "record")) : Okd P w K mg base (L2N.CX P w) 3 A.check_image P_check_image (spCI A) := by
  obtain ⟨fd, F⟩ := T.d_check_image
  obtain ⟨fd_InvalidImage, G_InvalidImage, b_InvalidImage⟩ := g_InvalidImage
  refine ⟨fd, F.okN sc_check_image (fun vs H Q E h => ?_) (fun cdv A' outer s H vs Q E hr h => ?_), F.binds fun _ _ _ _ _ _ us hl => match us, hl with | [_], _ => rfl⟩
  · obtain ⟨a, xs, rfl, _⟩ := h
    rfl
  · obtain ⟨a, xs, rfl, hx, hl, kq, kr⟩ := h
    refine ⟨_, (pss_cons (ps_set (i := 1) sc_check_image.nd rfl (Or.inl rfl) (pe_callB call_len_seq (by rfl) T.n_len PySem.boot_len (pa_cons (pv 0) pa_nil)))
      (pss_one (ps_for (passes_of rfl) rfl (pi_enum (by rfl) T.n_enumerate (pa_cons (pv 0) pa_nil)) (pg_tup (by rfl) (pgs_cons (pg_name (i := 2) sc_check_image.nd rfl (Or.inl rfl)) (pgs_cons (pg_name (i := 3) sc_check_image.nd rfl (Or.inl rfl)) pgs_nil))) (pss_one (ps_if (PW.pt (pw_or (pt_cmpR op_lt (pv 3) pe_int (nomark _)) (pw_or1 (pt_cmpR op_ge (pv 3) (pv 1) (nomark _))))) (pss_one (L2N.ps_raise rfl (L2N.takes_of rfl rfl rfl rfl) (L2N.pmk_oexN T.e_InvalidImage.oex T.f_InvalidImage.i T.f_InvalidImage.t G_InvalidImage (hr.mono (by decide)) b_InvalidImage pass0 rfl T.e_InvalidImage.g (pa_cons (pv 2) pa_nil)))) pss_nil))))), ?_⟩
    refine ⟨_, rfl, _, _, rfl, Or.inl (SqL.of hx), ?_⟩
    refine ⟨_, rfl, _, _, rfl, SqL.of hx, for_it walk_enum (fun i σ H' => ∃ v1 v2 : Option V, σ = [some (.ref a), some (.int ((xs.map V.int).length : Int)), v1, v2] ∧ Ex H H' ∧ ∀ j, j < i → badN xs j = false)
      ⟨none, none, rfl, Ex.refl H, fun j hj => absurd hj (Nat.not_lt_zero _)⟩ (fun i σ H' _ ⟨_, _, _, e, _⟩ => SqL.of (e _ _ hx)) ?_ ?_⟩
    · rintro i x σ H' H2 hi ⟨v1, v2, rfl, e, nb⟩ ⟨T0, y1, y2, rfl, hT, rfl, e1, e2⟩
      rw [List.length_map] at hi
      obtain ⟨z, hz, rfl⟩ := markV_int e2
      cases e1
      have hbad : badN xs i = (decide (z < 0) || decide ((xs.length : Int) ≤ z)) := by
        unfold badN
        rw [strip_getD_of hz]
      have raise : badN xs i = true → ∀ d H3, Ex (upd H' T0 (.tup [.int (i : Nat), .int z])) H3 → H3 d = some (.xd [("record", .int (i : Int))]) → E (.ref A.InvalidImage) (some d) H3 := fun hb d H3 ex hd =>
        kr i (firstOf_some hi hb nb) d H3 ((ex_new e hT).trans ex) hd
      refine ⟨T0, _, rfl, SqT.of upd_same, rfl, _, _, rfl, _, _, rfl, rfl, ?_⟩
      walk_at "r"
      refine ite_b (fun c => ?_) (fun c => ?_)
      · exact ⟨_, rfl, (by show 1 ≤ 1000; decide), mkO_go (raise (by rw [hbad, c]; rfl))⟩
      walk_at "r"
      rw [List.length_map]
      refine ite_b (fun c2 => ?_) (fun c2 => ?_)
      · exact ⟨_, rfl, (by show 1 ≤ 1000; decide), mkO_go (raise (by rw [hbad, c2, Bool.or_true]))⟩
      refine ⟨_, _, rfl, ex_new e hT, fun j hj => ?_⟩
      by_cases hji : j = i
      · rw [hji, hbad, c, c2]
        rfl
      · exact nb j (by omega)
    · rintro σ H' ⟨v1, v2, rfl, e, nb⟩
      rw [List.length_map] at nb
      exact kq (firstOf_none nb) H' e

end

section
variable {P : Program} {w : World} {K : PySem.W.Frag} {mg : Str → Option Value} {base : Heap} {A : Ad}
theorem ok_check_state (T : Txt K mg A)  (g_check_image : Okd P w K mg base (L2N.CX P w) 3 A.check_image P_check_image (spCI A)) (g_NotState : Okd P w K mg base CX0 1 A.i_NotState P_NotState (spInit A.NotState "record")) : Okd P w K mg base (L2N.CX P w) 4 A.check_state P_check_state (spCS A) := by
  obtain ⟨fd, F⟩ := T.d_check_state
  obtain ⟨fd_check_image, G_check_image, b_check_image⟩ := g_check_image
  obtain ⟨fd_NotState, G_NotState, b_NotState⟩ := g_NotState
  refine ⟨fd, F.okN sc_check_state (fun vs H Q E h => ?_) (fun cdv A' outer s H vs Q E hr h => ?_), F.binds fun _ _ _ _ _ _ us hl => match us, hl with | [_], _ => rfl⟩
  · obtain ⟨a, xs, rfl, _⟩ := h
    rfl
  · obtain ⟨a, xs, rfl, hx, hl, kq, kr⟩ := h
    refine ⟨_, (pss_cons (ps_expr (pe_callS G_check_image (hr.mono (by decide)) rfl T.g_check_image T.k_check_image b_check_image (fun σ => L2N.passAt (L2N.takes_of rfl rfl rfl rfl) σ) (pa_cons (pv 0) pa_nil)))
      (pss_one (ps_for (passes_of rfl) rfl (pi_enum (by rfl) T.n_enumerate (pa_cons (pv 0) pa_nil)) (pg_tup (by rfl) (pgs_cons (pg_name (i := 1) sc_check_state.nd rfl (Or.inl rfl)) (pgs_cons (pg_name (i := 2) sc_check_state.nd rfl (Or.inl rfl)) pgs_nil))) (pss_one (ps_if (pt_cmpR op_ne (pe_ix ix_list (pv 0) (pv 2) (fun _ _ => rfl)) (pv 1) (nomark _)) (pss_one (L2N.ps_raise rfl (L2N.takes_of rfl rfl rfl rfl) (L2N.pmk_oexN T.e_NotState.oex T.f_NotState.i T.f_NotState.t G_NotState (hr.mono (by decide)) b_NotState pass0 rfl T.e_NotState.g (pa_cons (pv 1) pa_nil)))) pss_nil))))), ?_⟩
    refine ⟨_, rfl, a, xs, rfl, hx, hl, fun h0 H1 e1 => ?_, fun k hk => ?_⟩
    rotate_left
    · have : faultS xs = some (1, k) := by unfold faultS; rw [hk]
      exact fun d H' e' hd => (kr _ this).1 rfl d H' e' hd
    have hx1 := hx.ex e1
    have nx := hx1.nat h0
    have ln : (nI (natI xs)).length = xs.length := by rw [nI_len, natI_len]
    have lm : (xs.map V.int).length = xs.length := List.length_map ..
    refine ⟨_, rfl, _, _, rfl, SqL.of hx1, for_it walk_enum (fun i σ H' => ∃ v1 v2 : Option V, σ = [some (.ref a), v1, v2] ∧ Ex H1 H' ∧ ∀ j, j < i → gt (natI xs) (gt (natI xs) j) = j)
      ⟨none, none, rfl, Ex.refl H1, fun j hj => absurd hj (Nat.not_lt_zero _)⟩ (fun i σ H' _ ⟨_, _, _, e, _⟩ => SqL.of (e _ _ hx1)) ?_ ?_⟩
    · rintro i x σ H' H2 hi ⟨v1, v2, rfl, e, nb⟩ ⟨T0, y1, y2, rfl, hT, rfl, e1', e2⟩
      rw [lm] at hi
      cases e1'
      have hnat := natI_at h0 hi
      have hz : y2 = V.int ((gt (natI xs) i : Nat) : Int) := by
        obtain ⟨z, hz, rfl⟩ := markV_int e2
        rw [← strip_getD_of hz, hnat.1]
        rfl
      subst hz
      have hg : gt (natI xs) i < xs.length := hnat.2
      have nx2 : ListN (upd H' T0 (.tup [.int (i : Nat), .int ((gt (natI xs) i : Nat) : Int)])) a (natI xs) := (nx.ex e).ex (Ex.new hT)
      refine ⟨T0, _, rfl, SqT.of upd_same, rfl, _, _, rfl, _, _, rfl, rfl, ?_⟩
      refine ⟨_, rfl, _, rfl, a, _, _, _, rfl, rfl, nx2.sz, atN (by rw [natI_len]; exact hg), _, rfl, rfl, _, rfl, ?_⟩
      have dd : (!decide (V.int (((natI xs).getD (gt (natI xs) i) 0 : Nat) : Int) = V.int (i : Int))) = decide (gt (natI xs) (gt (natI xs) i) ≠ i) := by
        by_cases c : gt (natI xs) (gt (natI xs) i) = i
        · have c2 : (natI xs).getD (gt (natI xs) i) 0 = i := c
          rw [c2, decide_eq_true rfl, decide_eq_false (fun h => h c)]
          rfl
        · rw [decide_eq_true c, decide_eq_false]
          · rfl
          · intro h
            injection h with h
            exact c (Int.ofNat.inj h)
      rw [dd]
      refine ite_b (fun c => ?_) (fun c => ?_)
      · have c := of_decide_eq_true c
        have un : unset (natI xs) = some i := firstOf_some (by rw [natI_len]; exact hi) (decide_eq_true c) fun j hj => decide_eq_false fun h => h (nb j hj)
        have fs : faultS xs = some (2, i) := by
          unfold faultS
          rw [h0]
          show (unset (natI xs)).map _ = _
          rw [un]
          rfl
        exact ⟨_, rfl, (by show 1 ≤ 1000; decide), mkO_go fun d H3 ex hd => (kr _ fs).2.1 rfl d H3 ((e1.trans (ex_new e hT)).trans ex) hd⟩
      · have c := Decidable.not_not.mp (of_decide_eq_false c)
        refine ⟨_, _, rfl, ex_new e hT, fun j hj => ?_⟩
        by_cases z : j = i
        · rw [z]
          exact c
        · exact nb j (by omega)
    · rintro σ H' ⟨v1, v2, rfl, e, nb⟩
      rw [lm] at nb
      refine kq ?_ H' (e1.trans e)
      unfold faultS
      rw [h0]
      show (unset (natI xs)).map _ = none
      have un : unset (natI xs) = none := firstOf_none fun j hj => by
        rw [natI_len] at hj
        exact decide_eq_false fun h => h (nb j hj)
      rw [un]
      rfl

end

section
variable {P : Program} {w : World} {K : PySem.W.Frag} {mg : Str → Option Value} {base : Heap} {A : Ad}
theorem ok_check_pair (T : Txt K mg A)  (g_check_state : Okd P w K mg base (L2N.CX P w) 4 A.check_state P_check_state (spCS A)) : Okd P w K mg base (L2N.CX P w) 5 A.check_pair P_check_pair (spCP A) := by
  obtain ⟨fd, F⟩ := T.d_check_pair
  obtain ⟨fd_check_state, G_check_state, b_check_state⟩ := g_check_state
  refine ⟨fd, F.okN sc_check_pair (fun vs H Q E h => ?_) (fun cdv A' outer s H vs Q E hr h => ?_), F.binds fun _ _ _ _ _ _ us hl => match us, hl with | [_, _], _ => rfl⟩
  · obtain ⟨a, b, xs, zs, rfl, _⟩ := h
    rfl
  · obtain ⟨a, b, xs, zs, rfl, hx, hz, hl, hl2, kq, kr⟩ := h
    refine ⟨_, (pss_cons (ps_expr (pe_callS G_check_state (hr.mono (by decide)) rfl T.g_check_state T.k_check_state b_check_state (fun σ => L2N.passAt (L2N.takes_of rfl rfl rfl rfl) σ) (pa_cons (pv 0) pa_nil)))
      (pss_cons (ps_expr (pe_callS G_check_state (hr.mono (by decide)) rfl T.g_check_state T.k_check_state b_check_state (fun σ => L2N.passAt (L2N.takes_of rfl rfl rfl rfl) σ) (pa_cons (pv 1) pa_nil)))
      (pss_one (ps_if (pt_cmpR op_ne (pe_callB call_len_seq (by rfl) T.n_len PySem.boot_len (pa_cons (pv 0) pa_nil)) (pe_callB call_len_seq (by rfl) T.n_len PySem.boot_len (pa_cons (pv 1) pa_nil)) (nomark _)) (pss_one (L2N.ps_raise rfl (L2N.takes_of rfl rfl rfl rfl) (L2N.pmk_own0N PySem.F.excBase_ValueError T.q_UnequalSizes T.e_UnequalSizes.g T.e_UnequalSizes.k (raises_own T.e_UnequalSizes.sub T.e_UnequalSizes.ty) rfl))) pss_nil)))), ?_⟩
    refine ⟨_, rfl, a, xs, rfl, hx, hl, fun f1 H1 e1 => ?_, fun f hf => kr f (by unfold faultF; rw [hf])⟩
    refine ⟨_, rfl, b, zs, rfl, hz.ex e1, hl2, fun f2 H2 e2 => ?_, fun f hf => (kr f (by unfold faultF; rw [f1]; simp only [hf])).mono e1⟩
    have e12 := e1.trans e2
    refine ⟨_, rfl, _, _, rfl, Or.inl (SqL.of (hx.ex e12)), _, rfl, _, _, rfl, Or.inl (SqL.of (hz.ex e12)), ?_⟩
    have l1 : (xs.map V.int).length = xs.length := List.length_map ..
    have l2 : (zs.map V.int).length = zs.length := List.length_map ..
    rw [l1, l2]
    have ff : faultF xs zs = if xs.length ≠ zs.length then some (3, 0) else none := by
      unfold faultF
      rw [f1]
      simp only [f2]
    refine ⟨rfl, _, rfl, ?_⟩
    by_cases c : xs.length = zs.length
    · rw [c, decide_eq_true rfl]
      refine iteF ?_
      exact kq (by rw [ff, if_neg (fun h => h c)]) _ e12
    · rw [decide_eq_false (fun h => by injection h with h; exact c (Int.ofNat.inj h))]
      refine iteT ?_
      exact (kr (3, 0) (by rw [ff, if_pos c])).2.2 rfl _ e12

end

section
variable {P : Program} {w : World} {K : PySem.W.Frag} {mg : Str → Option Value} {base : Heap} {A : Ad}
theorem ok_m_init (T : Txt K mg A)  (g_check_pair : Okd P w K mg base (L2N.CX P w) 5 A.check_pair P_check_pair (spCP A)) : Okd P w K mg base (L2N.CX P w) 6 A.m_init P_m_init (spUi A) := by
  obtain ⟨fd, F⟩ := T.d_m_init
  obtain ⟨fd_check_pair, G_check_pair, b_check_pair⟩ := g_check_pair
  refine ⟨fd, F.okN sc_m_init (fun vs H Q E h => ?_) (fun cdv A' outer s H vs Q E hr h => ?_), F.binds fun _ _ _ _ _ _ us hl => match us, hl with | [_, _, _], _ => rfl⟩
  · obtain ⟨u, a, b, dx, xs, zs, rfl, _⟩ := h
    rfl
  · obtain ⟨u, a, b, dx, xs, zs, rfl, hu, ha, hb, hl, hl2, kq, kr⟩ := h
    refine ⟨_, (pss_cons (ps_expr (pe_callS G_check_pair (hr.mono (by decide)) rfl T.g_check_pair T.k_check_pair b_check_pair (fun σ => L2N.passAt (L2N.takes_of rfl rfl rfl rfl) σ) (pa_cons (pv 1) (pa_cons (pv 2) pa_nil))))
      (pss_cons (ps_fld (pv 0) (pe_callTy call_list_of (by rfl) T.n_list (by decide +kernel) (pa_cons (pv 1) pa_nil)) rfl)
      (pss_one (ps_fld (pv 0) (pe_callTy call_list_of (by rfl) T.n_list (by decide +kernel) (pa_cons (pv 2) pa_nil)) rfl)))), ?_⟩
    refine ⟨_, rfl, _, rfl, a, b, xs, zs, rfl, ha, hb, hl, hl2, fun f0 H1 e1 => ?_, fun f hf => kr f hf⟩
    have kq := kq f0
    obtain ⟨fs1, fs2, hlen⟩ := faultF_no f0
    obtain ⟨s1, st1⟩ := faultS_no fs1
    obtain ⟨s2, st2⟩ := faultS_no fs2
    have la := (ha.ex e1).nat s1
    have lb := (hb.ex e1).nat s2
    have hu1 := e1 _ _ hu
    refine ⟨_, rfl, a, _, rfl, Or.inl la.sz, fun p hp => ?_⟩
    have nup : u ≠ p := ne_of_none hu1 hp
    have eP := Ex.new (o := .lst (nI (natI xs))) hp
    have lp : ListN (upd H1 p (.lst (nI (natI xs)))) p (natI xs) := upd_same
    have hu2 := eP _ _ hu1
    have lb2 := lb.ex eP
    generalize upd H1 p (.lst (nI (natI xs))) = H2 at eP lp hu2 lb2 ⊢
    refine ⟨_, rfl, u, _, dx, _, rfl, hu2, T.cR, T.nc_before, (by decide), ?_⟩
    have k3 : ∀ x o, x ≠ u → H2 x = some o → upd H2 u (.ins A.Update dx [("before", .ref p)]) x = some o := fun x o h1 h => by rw [upd_ne h1]; exact h
    have hu3 : upd H2 u (.ins A.Update dx [("before", .ref p)]) u = some (.ins A.Update dx [("before", .ref p)]) := upd_same
    have nbu : b ≠ u := fun z => by have h : H2 b = some _ := lb2; rw [z, hu2] at h; cases h
    rw [show putF (Str.ofString "before") (V.ref p) [] = [(("before" : Str), V.ref p)] from rfl]
    generalize upd H2 u (.ins A.Update dx [("before", .ref p)]) = H3 at k3 hu3 ⊢
    have lb3 : ListN H3 b (natI zs) := k3 _ _ nbu lb2
    have lp3 : ListN H3 p (natI xs) := k3 _ _ (Ne.symm nup) lp
    refine ⟨_, rfl, b, _, rfl, Or.inl lb3.sz, fun q hq => ?_⟩
    have nuq : u ≠ q := ne_of_none hu3 hq
    have npq : p ≠ q := ne_of_none (show H3 p = some _ from lp3) hq
    have eQ := Ex.new (o := .lst (nI (natI zs))) hq
    have lq : ListN (upd H3 q (.lst (nI (natI zs)))) q (natI zs) := upd_same
    have hu4 := eQ _ _ hu3
    have lp4 := lp3.ex eQ
    have fq : H q = none := by
      cases z : H q with
      | none => rfl
      | some o => rw [k3 _ _ (Ne.symm nuq) (eP _ _ (e1 _ _ z))] at hq; cases hq
    generalize upd H3 q (.lst (nI (natI zs))) = H4 at eQ lq hu4 lp4 ⊢
    refine ⟨_, rfl, u, _, dx, _, rfl, hu4, T.cR, T.nc_after, (by show 1 < 1000; decide), ?_⟩
    have k5 : ∀ x o, x ≠ u → H4 x = some o → upd H4 u (.ins A.Update dx [("before", .ref p), ("after", .ref q)]) x = some o := fun x o h1 h => by rw [upd_ne h1]; exact h
    exact kq p q (upd H4 u (.ins A.Update dx [("before", .ref p), ("after", .ref q)])) (back_none e1 hp) fq npq (fun x o h1 h => k5 _ _ h1 (eQ _ _ (k3 _ _ h1 (eP _ _ (e1 _ _ h))))) upd_same (k5 _ _ (Ne.symm nup) lp4) (k5 _ _ (Ne.symm nuq) lq)

end

section
variable {P : Program} {w : World} {K : PySem.W.Frag} {mg : Str → Option Value} {base : Heap} {A : Ad}
theorem ok_walk (T : Txt K mg A)   : Okd P w K mg base CX0 1 A.walk P_walk spWk := by
  obtain ⟨fd, F⟩ := T.d_walk

  refine ⟨fd, F.ok sc_walk (fun vs H Q E h => ?_) (fun cdv A' outer s H vs Q E hr h => ?_), F.binds fun _ _ _ _ _ _ us hl => match us, hl with | [_, _, _], _ => rfl⟩
  · obtain ⟨a, b, ys, zs, w, s, rfl, _⟩ := h
    rfl
  · obtain ⟨a, b, ys, zs, w, s, rfl, ha, hb, hl, h65, T0, k⟩ := h
    refine ⟨_, (pss_cons (ps_set (i := 3) sc_walk.nd rfl (Or.inl rfl) (pe_lst (pa_cons (pv 2) pa_nil)))
      (pss_cons (ps_set (i := 4) sc_walk.nd rfl (Or.inl rfl) (pe_ix ix_list (pv 0) (pv 2) (fun _ _ => rfl)))
      (pss_cons (ps_while PassesOwn.never (PW.pt (pw_and (pt_cmpR op_ne (pv 4) (pe_ix ix_list (pv 3) (pe_un un_neg pe_int) (fun _ _ => rfl)) (nomark _)) (pw_and1 (pt_cmpR op_ne (pv 4) (pv 2) (nomark _))))) (pss_cons (ps_expr (pe_bm PySem.F.plainAttrs_list PySem.F.slot_list_append PySem.F.type_list_append mt_append (pv 3) (pa_cons (pv 4) pa_nil)))
      (pss_cons (ps_par (i := 0) (j := 1) rfl sc_walk.nd rfl rfl (by decide) rfl rfl (pa_cons (pv 1) (pa_cons (pv 0) pa_nil)) (by rfl))
      (pss_one (ps_set (i := 4) sc_walk.nd rfl (Or.inl rfl) (pe_ix ix_list (pv 0) (pv 4) (fun _ _ => rfl)))))))
      (pss_one (ps_ret (pv 3)))))), ?_⟩
    have p0 := T0.pos
    refine ⟨_, rfl, (by show 1 ≤ sizeLine; decide), fun p hp => ?_⟩
    have lp : ListN (upd H p (.lst [V.int (s : Int)])) p [s] := upd_same
    have e1 := Ex.new (o := .lst [V.int (s : Int)]) hp
    generalize upd H p (.lst [V.int (s : Int)]) = H1 at lp e1 ⊢
    have hs : s < ys.length := by
      have := T0.lt _ (gt_mem p0)
      rw [T0.st] at this
      exact this
    refine ⟨_, rfl, _, rfl, a, _, _, _, rfl, rfl, (ha.ex e1).sz, atN hs, ?_⟩
    have la := ha.ex e1
    have lb := hb.ex e1
    have npa : p ≠ a := fun z => by have h : H a = some _ := ha; rw [← z, hp] at h; cases h
    have npb : p ≠ b := fun z => by have h : H b = some _ := hb; rw [← z, hp] at h; cases h
    have tk1 : w.take 1 = [s] := by
      have e := take_succ' (l := w) (q := 0) p0
      rw [T0.st] at e
      exact e
    refine ⟨fun m σ G => ∃ (j : Nat) (u v : Addr), m = w.length - j ∧ j < w.length ∧ σ = [some (.ref u), some (.ref v), some (.int (s : Int)), some (.ref p), some (.int ((gt (sel ys zs j) (gt w j) : Nat) : Int))] ∧ ListN G u (sel ys zs j) ∧ ListN G v (sel ys zs (j + 1)) ∧ u ≠ p ∧ v ≠ p ∧ (∀ x o, x ≠ p → H1 x = some o → G x = some o) ∧ ListN G p (w.take (j + 1)), ⟨w.length, 0, a, b, rfl, p0, by rw [T0.st]; rfl, la, lb, Ne.symm npa, Ne.symm npb, fun _ _ _ h => h, by rw [tk1]; exact lp⟩, ?_⟩
    rintro m σ G ⟨j, u, v, rfl, hj, rfl, lu, lv, nu, nv, KG, lpG⟩
    have lw : (w.take (j + 1)).length = j + 1 := by rw [List.length_take]; omega
    have hwl : w.length ≤ 65 := Nat.le_trans (nodup_len T0.nd T0.lt) h65
    have last : atI (nI (w.take (j + 1))) (-1) = some (V.int ((gt w j : Nat) : Int)) := by
      have g := atLast (l := w.take (j + 1)) (by omega)
      rw [lw, gt_take (by omega)] at g
      exact g
    have sl : ∀ i, (sel ys zs i).length = ys.length := sel_len hl.symm
    refine ⟨_, rfl, _, rfl, _, rfl, p, _, _, _, rfl, rfl, lpG.sz, last, rfl, _, rfl, ?_⟩
    rw [dne]
    refine ite_b (fun c => ?_) (fun c => ?_)
    rotate_left
    · have c := Decidable.not_not.mp (of_decide_eq_false c)
      have e : j = w.length - 1 := by
        apply Decidable.byContradiction
        intro n
        have g := T0.go j (by omega)
        rw [c] at g
        have := gt_inj T0.nd hj (by omega) g
        omega
      have tw : w.take (j + 1) = w := List.take_of_length_le (by omega)
      rw [tw] at lpG
      exact ⟨_, rfl, k p G hp (fun x o h => KG x o (ne_of_none h hp) (e1 x o h)) lpG⟩
    have c := of_decide_eq_true c
    refine ⟨_, rfl, _, rfl, rfl, _, rfl, ?_⟩
    rw [dne]
    refine ite_b (fun c2 => ?_) (fun c2 => ?_)
    rotate_left
    · have c2 := Decidable.not_not.mp (of_decide_eq_false c2)
      have e : j = w.length - 1 := by
        apply Decidable.byContradiction
        intro n
        have g := T0.go j (by omega)
        rw [c2, ← T0.st] at g
        have := gt_inj T0.nd p0 (by omega) g
        omega
      have tw : w.take (j + 1) = w := List.take_of_length_le (by omega)
      rw [tw] at lpG
      exact ⟨_, rfl, k p G hp (fun x o h => KG x o (ne_of_none h hp) (e1 x o h)) lpG⟩
    have c2 := of_decide_eq_true c2
    have j1 : j + 1 < w.length := by
      apply Decidable.byContradiction
      intro n
      have e : j = w.length - 1 := by omega
      have f := T0.fin
      rw [← e] at f
      rcases f with f | f
      · exact c f
      · exact c2 f
    have step := T0.go j j1
    refine ⟨fun σ' G' => ∃ (u v : Addr), σ' = [some (.ref u), some (.ref v), some (.int (s : Int)), some (.ref p), some (.int ((gt (sel ys zs (j + 1)) (gt w (j + 1)) : Nat) : Int))] ∧ ListN G' u (sel ys zs (j + 1)) ∧ ListN G' v (sel ys zs (j + 2)) ∧ u ≠ p ∧ v ≠ p ∧ (∀ x o, x ≠ p → H1 x = some o → G' x = some o) ∧ ListN G' p (w.take (j + 2)), fun σ' G' ⟨u', v', h1, h2⟩ => ⟨w.length - (j + 1), by omega, j + 1, u', v', rfl, j1, h1, h2⟩, ?_⟩
    refine ⟨_, rfl, Or.inl ⟨rfl, _, lpG.sz⟩, _, rfl, _, _, _, rfl, rfl, lpG, small1000 (by rw [nI_len, lw]; omega), ?_⟩
    rw [step]
    have lp2 : ListN (upd G p (.lst (nI (w.take (j + 1)) ++ [V.int ((gt w (j + 1) : Nat) : Int)]))) p (w.take (j + 2)) := by
      show upd G p _ p = _
      rw [upd_same, take_succ' j1, nI_app]
    have k2 : ∀ x o, x ≠ p → G x = some o → upd G p (.lst (nI (w.take (j + 1)) ++ [V.int ((gt w (j + 1) : Nat) : Int)])) x = some o := fun x o h1 h => by rw [upd_ne h1]; exact h
    generalize upd G p (.lst (nI (w.take (j + 1)) ++ [V.int ((gt w (j + 1) : Nat) : Int)])) = G2 at lp2 k2 ⊢
    have lv2 : ListN G2 v (sel ys zs (j + 1)) := k2 _ _ nv lv
    have lu2 : ListN G2 u (sel ys zs j) := k2 _ _ nu lu
    refine ⟨_, rfl, _, rfl, _, _, rfl, ?_⟩
    refine ⟨_, rfl, _, rfl, v, _, _, _, rfl, rfl, lv2.sz, atN (by rw [sl]; exact T0.lt _ (gt_mem j1)), ?_⟩
    refine ⟨v, u, rfl, lv2, ?_, nv, nu, fun x o h1 h => k2 x o h1 (KG x o h1 h), lp2⟩
    rw [sel_two (show (j + 2) % 2 = j % 2 by omega)]
    exact lu2

end

section
variable {P : Program} {w : World} {K : PySem.W.Frag} {mg : Str → Option Value} {base : Heap} {A : Ad}
theorem ok_part_of (T : Txt K mg A)  (g_walk : Okd P w K mg base CX0 1 A.walk P_walk spWk) : Okd P w K mg base CX0 2 A.part_of P_part_of spPt := by
  obtain ⟨fd, F⟩ := T.d_part_of
  obtain ⟨fd_walk, G_walk, b_walk⟩ := g_walk
  refine ⟨fd, F.ok sc_part_of (fun vs H Q E h => ?_) (fun cdv A' outer s H vs Q E hr h => ?_), F.binds fun _ _ _ _ _ _ us hl => match us, hl with | [_, _, _], _ => rfl⟩
  · obtain ⟨a, b, ys, zs, x, rfl, _⟩ := h
    rfl
  · obtain ⟨a, b, ys, zs, x, rfl, ha, hb, sy, sz, hl, h65, hx, k⟩ := h
    refine ⟨_, (pss_cons (ps_set (i := 3) sc_part_of.nd rfl (Or.inl rfl) (pe_call G_walk (hr.mono (by decide)) (by rfl) T.g_walk T.k_walk b_walk .nil pass0 (pa_cons (pv 0) (pa_cons (pv 1) (pa_cons (pv 2) pa_nil)))))
      (pss_cons (ps_if (pt_cmpR op_in_seq (pe_ix ix_list (pv 1) (pv 2) (fun _ _ => rfl)) (pe_slice sl_list (pv 3) (po_some pe_int) po_none) (by with_unfolding_all rfl)) (pss_one (ps_ret (pe_tup (pa_cons pe_str (pa_cons (pv 3) pa_nil))))) pss_nil)
      (pss_cons (ps_set (i := 4) sc_part_of.nd rfl (Or.inl rfl) (pe_call G_walk (hr.mono (by decide)) (by rfl) T.g_walk T.k_walk b_walk .nil pass0 (pa_cons (pv 1) (pa_cons (pv 0) (pa_cons (pv 2) pa_nil)))))
      (pss_cons (ps_set (i := 3) sc_part_of.nd rfl (Or.inl rfl) (pe_op op_cat (DaS.pe_low (pv 4) pe_int (pe_un un_neg pe_int)) (pv 3)))
      (pss_cut (ps_if (pt_cmpR op_gt (pe_ix ix_list (pv 3) pe_int (fun _ _ => rfl)) (pe_ix ix_list (pv 3) (pe_un un_neg pe_int) (fun _ _ => rfl)) (nomark _)) (pss_one (ps_set (i := 3) sc_part_of.nd rfl (Or.inl rfl) (StK.pe_back (pv 3) (pe_un un_neg pe_int)))) pss_nil)
      (pss_one (ps_ret (pe_tup (pa_cons pe_str (pa_cons (pv 3) pa_nil)))))))))), ?_⟩
    have st := trl_ex hl.symm sy sz hx
    have st2 := trl_ex (A := zs) (B := ys) hl sz sy (by rw [hl]; exact hx)
    have T1 := walkF_ok st
    have T2 := walkF_ok st2
    refine ⟨_, rfl, _, rfl, _, rfl, a, b, ys, zs, walkF ys zs x, x, rfl, ha, hb, hl, h65, T1, fun pa H1 hpa e1 l1 => ?_⟩
    have p1 := T1.pos
    have p2 := T2.pos
    have w1l : (walkF ys zs x).length ≤ 65 := Nat.le_trans (nodup_len T1.nd T1.lt) h65
    have w2l : (walkF zs ys x).length ≤ 65 := Nat.le_trans (nodup_len T2.nd T2.lt) (by rw [hl]; exact h65)
    unfold partF at k
    generalize walkF ys zs x = w1 at T1 l1 p1 w1l k
    generalize walkF zs ys x = w2 at T2 p2 w2l k
    refine ⟨_, rfl, _, rfl, b, _, _, _, rfl, rfl, (hb.ex e1).sz, atN (by rw [hl]; exact hx), _, rfl, _, rfl, pa, _, rfl, l1.sz, fun q hq => ?_⟩
    rw [show cutV (nI w1) (some (1 : Int)) none = nI (w1.drop 1) from cutDrop (k := 1) p1, List.drop_one]
    have lq : ListN (upd H1 q (.lst (nI w1.tail))) q w1.tail := upd_same
    have e2 := e1.trans (Ex.new (o := .lst (nI w1.tail)) hq)
    have l12 := l1.ex (Ex.new (o := .lst (nI w1.tail)) hq)
    generalize upd H1 q (.lst (nI w1.tail)) = H2 at lq e2 l12 ⊢
    refine ⟨q, _, rfl, Or.inl lq.sz, rfl, flat_nI _, _, rfl, ?_⟩
    show if (inV (V.int ((gt zs x : Nat) : Int)) (nI w1.tail)) = true then _ else _
    rw [nat_in]
    refine ite_b (fun c => ?_) (fun c => ?_)
    · have c := of_decide_eq_true c
      rw [if_pos c] at k
      refine ⟨_, rfl, (by show 2 ≤ sizeLine; decide), fun t ht => ?_⟩
      have e3 := Ex.new (o := .tup [V.str "ring", V.ref pa]) ht
      exact k t pa _ (back_none e2 ht) hpa (e2.trans e3) upd_same (l12.ex e3)
    have c := of_decide_eq_false c
    rw [if_neg c] at k
    refine ⟨_, rfl, _, rfl, _, rfl, b, a, zs, ys, w2, x, rfl, hb.ex e2, ha.ex e2, hl.symm, by omega, T2, fun pb H3 hpb e3 l3 => ?_⟩
    refine ⟨_, rfl, rfl, _, rfl, rfl, pb, _, rfl, l3.sz, fun q2 hq2 => ?_⟩
    rw [tail_nI, rev_nI]
    have e4 := Ex.new (o := .lst (nI w2.tail.reverse)) hq2
    have lq2 : ListN (upd H3 q2 (.lst (nI w2.tail.reverse))) q2 w2.tail.reverse := upd_same
    have l14 := (l12.ex e3).ex e4
    have e04 := (e2.trans e3).trans e4
    generalize upd H3 q2 (.lst (nI w2.tail.reverse)) = H4 at e4 lq2 l14 e04 ⊢
    refine ⟨_, rfl, q2, pa, _, _, rfl, rfl, lq2, l14, (by rw [nI_len, nI_len, List.length_reverse, List.length_tail]; exact Nat.le_trans (by omega) (show 130 ≤ sizeLine by decide)), fun p3 hp3 => ?_⟩
    rw [cat_nI]
    have e5 := Ex.new (o := .lst (nI (w2.tail.reverse ++ w1))) hp3
    have l5 : ListN (upd H4 p3 (.lst (nI (w2.tail.reverse ++ w1)))) p3 (w2.tail.reverse ++ w1) := upd_same
    have e05 := e04.trans e5
    have fp3 := back_none e04 hp3
    generalize upd H4 p3 (.lst (nI (w2.tail.reverse ++ w1))) = H5 at l5 e05 ⊢
    have rl : 0 < (w2.tail.reverse ++ w1).length := by rw [List.length_append]; omega
    have rl2 : (w2.tail.reverse ++ w1).length ≤ 130 := by rw [List.length_append, List.length_reverse, List.length_tail]; omega
    generalize w2.tail.reverse ++ w1 = row at l5 rl rl2 k ⊢
    refine ⟨fun σ G => ∃ p l, σ = [some (.ref a), some (.ref b), some (.int (x : Int)), some (.ref p), some (.ref pb)] ∧ H p = none ∧ Ex H G ∧ ListN G p l ∧ l = (if gt row 0 > gt row (row.length - 1) then row.reverse else row), ?_, ?_⟩
    · refine ⟨_, rfl, p3, _, _, _, rfl, rfl, l5.sz, (show atI (nI row) ((0 : Nat) : Int) = some (V.int ((gt row 0 : Nat) : Int)) from atN rl), _, rfl, _, rfl, p3, _, _, _, rfl, rfl, l5.sz, atLast rl, _, _, rfl, rfl, _, rfl, ?_⟩
      refine ite_b (fun c => ?_) (fun c => ?_)
      · have c := of_decide_eq_true c
        refine ⟨_, rfl, _, rfl, rfl, p3, _, rfl, l5.sz, fun p4 hp4 => ?_⟩
        rw [rev_nI]
        exact ⟨p4, row.reverse, rfl, back_none e05 hp4, ex_new e05 hp4, upd_same, (if_pos (by omega)).symm⟩
      · have c := of_decide_eq_false c
        exact ⟨p3, row, rfl, fp3, e05, l5, (if_neg (by omega)).symm⟩
    rintro σ G ⟨p, l, rfl, fp, eG, lG, el⟩
    refine ⟨_, rfl, (by show 2 ≤ sizeLine; decide), fun t ht => ?_⟩
    have e6 := Ex.new (o := .tup [V.str "chain", V.ref p]) ht
    rw [← el] at k
    exact k t p _ (back_none eG ht) fp (eG.trans e6) upd_same (lG.ex e6)

end

section
variable {P : Program} {w : World} {K : PySem.W.Frag} {mg : Str → Option Value} {base : Heap} {A : Ad}
theorem part_len {A B : List Nat} {x : Nat} (h : A.length = B.length) (a : Sta A) (b : Sta B) (hx : x < A.length) : (partF A B x).2.length ≤ 2 * A.length := by
  have T1 := walkF_ok (trl_ex h a b hx)
  have T2 := walkF_ok (trl_ex h.symm b a (by rw [← h]; exact hx))
  have w1 := nodup_len T1.nd T1.lt
  have w2 := nodup_len T2.nd T2.lt
  unfold partF
  split
  · show (walkF A B x).length ≤ _
    omega
  · show (if _ then _ else _ : List Nat).length ≤ _
    split
    · rw [List.length_reverse, List.length_append, List.length_reverse, List.length_tail]
      omega
    · rw [List.length_append, List.length_reverse, List.length_tail]
      omega
theorem parts_len {A B : List Nat} (h : A.length = B.length) (a : Sta A) (b : Sta B) : ∀ i, i ≤ A.length → ((partsF A B i).flatMap (·.2)).length ≤ i * (2 * A.length)
  | 0, _ => Nat.zero_le _
  | i + 1, hi => by
    have ih := parts_len h a b i (by omega)
    have pl := part_len h a b (show i < A.length by omega)
    show (List.flatMap _ (if _ then _ else _)).length ≤ _
    rw [Nat.succ_mul]
    split
    · rw [List.flatMap_append, List.length_append, List.flatMap_cons, List.flatMap_nil, List.append_nil]
      omega
    · omega
theorem ok_parts (T : Txt K mg A)  (g_check_pair : Okd P w K mg base (L2N.CX P w) 5 A.check_pair P_check_pair (spCP A)) (g_part_of : Okd P w K mg base CX0 2 A.part_of P_part_of spPt) : Okd P w K mg base (L2N.CX P w) 6 A.parts P_parts (spPts A) := by
  obtain ⟨fd, F⟩ := T.d_parts
  obtain ⟨fd_check_pair, G_check_pair, b_check_pair⟩ := g_check_pair
  obtain ⟨fd_part_of, G_part_of, b_part_of⟩ := g_part_of
  refine ⟨fd, F.okN sc_parts (fun vs H Q E h => ?_) (fun cdv A' outer s H vs Q E hr h => ?_), F.binds fun _ _ _ _ _ _ us hl => match us, hl with | [_, _], _ => rfl⟩
  · obtain ⟨a, b, xs, zs, rfl, _⟩ := h
    rfl
  · obtain ⟨a, b, xs, zs, rfl, ha, hb, hl, hl2, kq, kr⟩ := h
    refine ⟨_, (pss_cons (ps_expr (pe_callS G_check_pair (hr.mono (by decide)) rfl T.g_check_pair T.k_check_pair b_check_pair (fun σ => L2N.passAt (L2N.takes_of rfl rfl rfl rfl) σ) (pa_cons (pv 0) (pa_cons (pv 1) pa_nil))))
      (pss_cons (ps_set (i := 2) sc_parts.nd rfl (Or.inl rfl) (pe_lst pa_nil))
      (pss_cons (ps_set (i := 3) sc_parts.nd rfl (Or.inl rfl) (pe_lst pa_nil))
      (pss_cons (ps_for (passes_of rfl) rfl (pi_enum (by rfl) T.n_enumerate (pa_cons (pv 0) pa_nil)) (pg_tup (by rfl) (pgs_cons (pg_name (i := 4) sc_parts.nd rfl (Or.inl rfl)) (pgs_cons (pg_name (i := 5) sc_parts.nd rfl (Or.inl rfl)) pgs_nil))) (pss_one (ps_if (PW.pt (pw_and (pt_cmpR op_ne (pv 5) (pe_ix ix_list (pv 1) (pv 4) (fun _ _ => rfl)) (nomark _)) (pw_and1 (pt_cmpR op_notIn_seq (pv 4) (pv 3) (by with_unfolding_all rfl))))) (pss_cons (ps_set (i := 6) sc_parts.nd rfl (Or.inl rfl) (pe_call G_part_of (hr.mono (by decide)) (by rfl) T.g_part_of T.k_part_of b_part_of .nil pass0 (pa_cons (pv 0) (pa_cons (pv 1) (pa_cons (pv 4) pa_nil)))))
      (pss_cons (ps_expr (pe_bm PySem.F.plainAttrs_list PySem.F.slot_list_append PySem.F.type_list_append mt_append (pv 2) (pa_cons (pv 6) pa_nil)))
      (pss_one (ps_expr (pe_bm PySem.F.plainAttrs_list PySem.F.slot_list_extend PySem.F.type_list_extend mt_extend (pv 3) (pa_cons (pe_ix ix_tup (pv 6) pe_int (fun _ _ => rfl)) pa_nil)))))) pss_nil)))
      (pss_one (ps_ret (pv 2))))))), ?_⟩
    refine ⟨_, rfl, _, rfl, a, b, xs, zs, rfl, ha, hb, hl, hl2, fun f0 H1 e1 => ?_, fun f hf => kr f hf⟩
    have kq := kq f0
    obtain ⟨fs1, fs2, hlen⟩ := faultF_no f0
    obtain ⟨s1, st1⟩ := faultS_no fs1
    obtain ⟨s2, st2⟩ := faultS_no fs2
    have la := (ha.ex e1).nat s1
    have lb := (hb.ex e1).nat s2
    have yl : (natI xs).length = xs.length := natI_len
    have zl : (natI zs).length = xs.length := by rw [natI_len, hlen]
    generalize natI xs = ys at st1 la yl kq
    generalize natI zs = ws at st2 lb zl kq
    rw [← yl] at hl kq
    refine ⟨(by show 0 ≤ sizeLine; decide), fun pf hpf => ?_⟩
    have e2 := Ex.new (o := .lst []) hpf
    have lf0 : upd H1 pf (.lst []) pf = some (.lst []) := upd_same
    generalize upd H1 pf (.lst []) = H2 at e2 lf0 ⊢
    refine ⟨(by show 0 ≤ sizeLine; decide), fun ps hps => ?_⟩
    have e3 := Ex.new (o := .lst []) hps
    have ls0 : ListN (upd H2 ps (.lst [])) ps [] := upd_same
    have lf1 := e3 _ _ lf0
    have nfs : pf ≠ ps := ne_of_none lf0 hps
    generalize upd H2 ps (.lst []) = H3 at e3 ls0 lf1 ⊢
    have e03 := (e1.trans e2).trans e3
    have laN := (la.ex e2).ex e3
    have lbN := (lb.ex e2).ex e3
    have naf : a ≠ pf := ne_of_none (show H1 a = some _ from la) hpf
    have nbf : b ≠ pf := ne_of_none (show H1 b = some _ from lb) hpf
    have nas : a ≠ ps := ne_of_none (show H2 a = some _ from la.ex e2) hps
    have nbs : b ≠ ps := ne_of_none (show H2 b = some _ from lb.ex e2) hps
    refine ⟨_, rfl, _, _, rfl, laN.sz, for_it walk_enum (fun i σ G => ∃ (v4 v5 v6 : Option V), σ = [some (.ref a), some (.ref b), some (.ref pf), some (.ref ps), v4, v5, v6] ∧ (∀ x o, x ≠ pf → x ≠ ps → H3 x = some o → G x = some o) ∧ ListN G ps ((partsF ys ws i).flatMap (·.2)) ∧ ∃ ts : List Addr, G pf = some (.lst (ts.map V.ref)) ∧ ts.length = (partsF ys ws i).length ∧ ts.length ≤ i ∧ ∀ (j : Nat) (t : Addr) (c : Bool × List Nat), ts[j]? = some t → (partsF ys ws i)[j]? = some c → ∃ l, G t = some (.tup [.str (wE (rgB c.1)), .ref l]) ∧ ListN G l c.2 ∧ l ≠ pf ∧ l ≠ ps)
      ⟨none, none, none, rfl, fun _ _ _ _ h => h, ls0, [], lf1, rfl, Nat.le_refl _, fun j t c z => by cases z⟩ (fun i σ G _ ⟨_, _, _, _, K3, _⟩ => (show ListN G a ys from K3 _ _ naf nas laN).sz) ?_ ?_⟩
    · rintro i x σ G G2 hi ⟨v4, v5, v6, rfl, KG, lsG, ts, htG, tl, tli, tat⟩ ⟨T0, y1, y2, rfl, hT, rfl, e1', e2'⟩
      rw [nI_len] at hi
      cases e1'
      obtain ⟨_, rfl⟩ := nat_at e2'
      have eT := Ex.new (o := .tup [V.int (i : Nat), V.int ((ys.getD i 0 : Nat) : Int)]) hT
      have laG0 : ListN G a ys := KG _ _ naf nas laN
      have lbG0 : ListN G b ws := KG _ _ nbf nbs lbN
      have tat0 := tat
      refine ⟨T0, _, rfl, SqT.of upd_same, rfl, _, _, rfl, _, _, rfl, rfl, ?_⟩
      have laG := laG0.ex eT
      have lbG := lbG0.ex eT
      have lsG' := lsG.ex eT
      have htG' := eT _ _ htG
      have KG' : ∀ x o, x ≠ pf → x ≠ ps → H3 x = some o → upd G T0 (.tup [V.int (i : Nat), V.int ((ys.getD i 0 : Nat) : Int)]) x = some o := fun x o h1 h2 h => eT _ _ (KG x o h1 h2 h)
      have tat' : ∀ (j : Nat) (t : Addr) (c : Bool × List Nat), ts[j]? = some t → (partsF ys ws i)[j]? = some c → ∃ l, upd G T0 (.tup [V.int (i : Nat), V.int ((ys.getD i 0 : Nat) : Int)]) t = some (.tup [.str (wE (rgB c.1)), .ref l]) ∧ ListN (upd G T0 (.tup [V.int (i : Nat), V.int ((ys.getD i 0 : Nat) : Int)])) l c.2 ∧ l ≠ pf ∧ l ≠ ps := fun j t c h1 h2 => by
        obtain ⟨l, q1, q2, q3⟩ := tat j t c h1 h2
        exact ⟨l, eT _ _ q1, q2.ex eT, q3⟩
      generalize upd G T0 (.tup [V.int (i : Nat), V.int ((ys.getD i 0 : Nat) : Int)]) = G1 at laG lbG lsG' htG' KG' tat' ⊢
      have nope : ¬ (gt ys i ≠ gt ws i ∧ i ∉ (partsF ys ws i).flatMap (·.2)) → partsF ys ws (i + 1) = partsF ys ws i := fun h => if_neg h
      have yes : (gt ys i ≠ gt ws i ∧ i ∉ (partsF ys ws i).flatMap (·.2)) → partsF ys ws (i + 1) = partsF ys ws i ++ [partF ys ws i] := fun h => if_pos h
      refine ⟨_, rfl, _, rfl, _, rfl, b, _, _, _, rfl, rfl, lbG.sz, atN (by omega), rfl, _, rfl, ?_⟩
      rw [dne]
      refine ite_b (fun c => ?_) (fun c => ?_)
      rotate_left
      · have c := Decidable.not_not.mp (of_decide_eq_false c)
        rw [nope (fun h => h.1 c)]
        exact ⟨_, _, _, rfl, KG', lsG', ts, htG', tl, Nat.le_succ_of_le tli, tat'⟩
      have c := of_decide_eq_true c
      refine ⟨_, rfl, _, rfl, ps, _, rfl, Or.inl lsG'.sz, rfl, flat_nI _, _, rfl, ?_⟩
      show if (!inV (V.int (i : Int)) (nI ((partsF ys ws i).flatMap (·.2)))) = true then _ else _
      rw [nat_in]
      refine ite_b (fun c2 => ?_) (fun c2 => ?_)
      rotate_left
      · rw [Bool.not_eq_false'] at c2
        have c2 := of_decide_eq_true c2
        rw [nope (fun h => h.2 c2)]
        exact ⟨_, _, _, rfl, KG', lsG', ts, htG', tl, Nat.le_succ_of_le tli, tat'⟩
      rw [Bool.not_eq_true'] at c2
      have c2 := of_decide_eq_false c2
      have pstep := yes ⟨c, c2⟩
      have pl := part_len (by omega) st1 st2 hi (A := ys) (B := ws)
      have fl := parts_len (by omega) st1 st2 (A := ys) (B := ws) i (Nat.le_of_lt hi)
      have fl := Nat.le_trans fl (Nat.mul_le_mul (show i ≤ 65 by omega) (show 2 * ys.length ≤ 130 by omega))
      rw [pstep]
      generalize partsF ys ws i = prs at lsG' tl tat' fl ⊢
      refine ⟨_, rfl, _, rfl, _, rfl, a, b, ys, ws, i, rfl, laG, lbG, st1, st2, by omega, hl, hi, fun t l G4 ht hl0 e4 htv hlv => ?_⟩
      generalize partF ys ws i = pr at htv hlv pl ⊢
      have htG4 := e4 _ _ htG'
      have lsG4 := lsG'.ex e4
      refine ⟨_, rfl, Or.inl ⟨rfl, _, SqL.of htG4⟩, _, rfl, _, _, _, rfl, rfl, htG4, small1000 (by rw [List.length_map]; omega), ?_⟩
      have ntf : t ≠ pf := fun z => by rw [z, htG'] at ht; cases ht
      have nts : t ≠ ps := fun z => by have h : G1 ps = some _ := lsG'; rw [z, h] at ht; cases ht
      have nlf : l ≠ pf := fun z => by rw [z, htG'] at hl0; cases hl0
      have nls : l ≠ ps := fun z => by have h : G1 ps = some _ := lsG'; rw [z, h] at hl0; cases hl0
      have k5 : ∀ x o, x ≠ pf → G4 x = some o → upd G4 pf (.lst (ts.map V.ref ++ [V.ref t])) x = some o := fun x o h1 h => by rw [upd_ne h1]; exact h
      have h5 : upd G4 pf (.lst (ts.map V.ref ++ [V.ref t])) pf = some (.lst (ts.map V.ref ++ [V.ref t])) := upd_same
      generalize upd G4 pf (.lst (ts.map V.ref ++ [V.ref t])) = G5 at k5 h5 ⊢
      have ls5 : ListN G5 ps (prs.flatMap (·.2)) := k5 _ _ (Ne.symm nfs) lsG4
      have hl5 : ListN G5 l pr.2 := k5 _ _ nlf hlv
      refine ⟨_, rfl, Or.inl ⟨rfl, _, ls5.sz⟩, _, rfl, t, _, _, _, rfl, rfl, SqT.of (k5 _ _ ntf htv), atI_nat (j := 1) rfl, ps, l, _, _, rfl, rfl, ls5, hl5, (by rw [nI_len, nI_len]; exact Nat.le_trans (Nat.add_le_add fl pl) (Nat.le_trans (by omega) (show 10000 ≤ sizeLine by decide))), ?_⟩
      rw [cat_nI]
      have k6 : ∀ x o, x ≠ ps → G5 x = some o → upd G5 ps (.lst (nI (prs.flatMap (·.2) ++ pr.2))) x = some o := fun x o h1 h => by rw [upd_ne h1]; exact h
      have l6 : upd G5 ps (.lst (nI (prs.flatMap (·.2) ++ pr.2))) ps = some (.lst (nI (prs.flatMap (·.2) ++ pr.2))) := upd_same
      generalize upd G5 ps (.lst (nI (prs.flatMap (·.2) ++ pr.2))) = G6 at k6 l6 ⊢
      have k46 : ∀ x o, x ≠ pf → x ≠ ps → G1 x = some o → G6 x = some o := fun x o h1 h2 h => k6 _ _ h2 (k5 _ _ h1 (e4 _ _ h))
      refine ⟨_, _, _, rfl, fun x o h1 h2 h => k46 x o h1 h2 (KG' x o h1 h2 h), ?_, ts ++ [t], ?_, ?_, ?_, fun j t' c' h1 h2 => ?_⟩
      · show G6 ps = _
        rw [l6, List.flatMap_append]
        congr 3
        show _ = prs.flatMap _ ++ [pr].flatMap _
        rw [List.flatMap_cons, List.flatMap_nil, List.append_nil]
      · rw [List.map_append]
        exact k6 _ _ nfs h5
      · rw [List.length_append, List.length_append, tl]
        rfl
      · rw [List.length_append]
        exact Nat.succ_le_succ tli
      · by_cases cj : j < ts.length
        · rw [List.getElem?_append_left cj] at h1
          rw [List.getElem?_append_left (by omega)] at h2
          obtain ⟨l', q1, q2, q3, q4⟩ := tat' j t' c' h1 h2
          exact ⟨l', k46 _ _ (fun z => by rw [z, htG'] at q1; cases q1) (fun z => by have h : G1 ps = some _ := lsG'; rw [z, h] at q1; cases q1) q1, k46 _ _ q3 q4 q2, q3, q4⟩
        · rw [List.getElem?_append_right (by omega)] at h1
          rw [List.getElem?_append_right (by omega), ← tl] at h2
          match hz : j - ts.length with
          | 0 =>
            rw [hz] at h1 h2
            have h1 := Option.some.inj h1
            have h2 := Option.some.inj h2
            subst h1
            subst h2
            exact ⟨l, k6 _ _ nts (k5 _ _ ntf htv), k6 _ _ nls hl5, nlf, nls⟩
          | z + 1 =>
            rw [hz] at h1
            cases h1
    rintro σ G ⟨v4, v5, v6, rfl, KG, lsG, ts, htG, tl, tli, tat⟩
    rw [nI_len] at tl tat
    have fpf : H pf = none := back_none e1 hpf
    have fps : H ps = none := back_none (e1.trans e2) hps
    refine ⟨_, rfl, kq pf G fpf (fun x o h => KG x o (ne_of_none h fpf) (ne_of_none h fps) (e03 x o h)) ⟨ts, htG, tl, fun j t c h1 h2 => ?_⟩⟩
    obtain ⟨l, q1, q2, _⟩ := tat j t c h1 h2
    exact ⟨l, q1, q2⟩

end

section
variable {P : Program} {w : World} {K : PySem.W.Frag} {mg : Str → Option Value} {base : Heap} {A : Ad}
theorem ok_gain (T : Txt K mg A)   : Okd P w K mg base CX0 1 A.gain P_gain spGn := by
  obtain ⟨fd, F⟩ := T.d_gain

  refine ⟨fd, F.ok sc_gain (fun vs H Q E h => ?_) (fun cdv A' outer s H vs Q E hr h => ?_), F.binds fun _ _ _ _ _ _ us hl => match us, hl with | [_, _, _], _ => rfl⟩
  · obtain ⟨a, b, r, ys, zs, l, rfl, _⟩ := h
    rfl
  · obtain ⟨a, b, r, ys, zs, l, rfl, ha, hb, hr', hl, h65, hll, hlt, k⟩ := h
    refine ⟨_, (pss_cons (ps_set (i := 3) sc_gain.nd rfl (Or.inl rfl) (pe_callB call_len_seq (by rfl) T.n_len PySem.boot_len (pa_cons (pe_lc (own := [("record", 5)]) (tt := _) (by rfl) sc_gain.nd (pi_list (pv 2)) (blkOk_by (own := [("record", 5)]) (N := N_gain) (sc := defScope s_gain) (by decide +kernel)) (fun _ _ _ _ _ => (pg_name (i := 5) sc_gain.nd rfl (Or.inl rfl))) (fun _ _ _ _ _ => (pts_one (pt_cmpR op_ne (pe_ix (ix_listK (K := K) rfl) (pv 1) (pv 5) (fun _ _ => rfl)) (pv 5) (nomark _)))) (fun _ _ _ _ _ => (pv 5))) pa_nil)))
      (pss_cons (ps_set (i := 4) sc_gain.nd rfl (Or.inl rfl) (pe_callB call_len_seq (by rfl) T.n_len PySem.boot_len (pa_cons (pe_lc (own := [("record", 5)]) (tt := _) (by rfl) sc_gain.nd (pi_list (pv 2)) (blkOk_by (own := [("record", 5)]) (N := N_gain) (sc := defScope s_gain) (by decide +kernel)) (fun _ _ _ _ _ => (pg_name (i := 5) sc_gain.nd rfl (Or.inl rfl))) (fun _ _ _ _ _ => (pts_one (pt_cmpR op_ne (pe_ix (ix_listK (K := K) rfl) (pv 0) (pv 5) (fun _ _ => rfl)) (pv 5) (nomark _)))) (fun _ _ _ _ _ => (pv 5))) pa_nil)))
      (pss_one (ps_ret (pe_op op_fdivW (pe_op op_sub (pv 3) (pv 4)) pe_int))))), ?_⟩
    have cnt_step : ∀ (C : List Nat) (j : Nat), j < l.length → (l.take (j + 1)).filter (fun x => decide (gt C x ≠ x)) = (l.take j).filter (fun x => decide (gt C x ≠ x)) ++ (if decide (gt C (gt l j) ≠ gt l j) = true then [gt l j] else []) := fun C j hj => by
      rw [take_succ' hj, List.filter_append, List.filter_cons]
      rfl
    refine ⟨_, rfl, r, rfl, ⟨_, hr'.sz⟩, fun D hD => ?_⟩
    have comp : ∀ (C : List Nat) (c : Addr) (H0 : Hp) (D : Addr), C.length = ys.length → ListN H0 c C → ListN H0 r l → H0 D = none → ∀ (G : Hp) (j : Nat), j < l.length → Ex H0 G → ListN G D ((l.take j).filter fun x => decide (gt C x ≠ x)) →
        (decide (gt C (gt l j) ≠ gt l j) = true → ∃ acc, G D = some (.lst acc) ∧ acc.length < sizeLine ∧ Ex H0 (upd G D (.lst (acc ++ [V.int ((gt l j : Nat) : Int)]))) ∧ ListN (upd G D (.lst (acc ++ [V.int ((gt l j : Nat) : Int)]))) D ((l.take (j + 1)).filter fun x => decide (gt C x ≠ x))) ∧
        (decide (gt C (gt l j) ≠ gt l j) = false → Ex H0 G ∧ ListN G D ((l.take (j + 1)).filter fun x => decide (gt C x ≠ x))) := fun C c H0 D hC lc lr hD G j hj e hd' => by
      refine ⟨fun t => ⟨_, hd', ?_, fun b o ho => ?_, ?_⟩, fun t => ?_⟩
      · have h1 := List.length_filter_le (fun x => decide (gt C x ≠ x)) (l.take j)
        rw [List.length_take] at h1
        rw [nI_len]
        exact small1000 (by omega)
      · rw [upd_ne (ne_of_none ho hD)]
        exact e b o ho
      · show upd G D _ D = _
        rw [upd_same, cnt_step C j hj, t, if_pos rfl, nI_app]
      · rw [cnt_step C j hj, t, if_neg (by decide), List.append_nil]
        exact ⟨e, hd'⟩
    refine lc_list (K := K) (a := r) (xs := nI l) (fun j G => Ex H G ∧ ListN G D ((l.take j).filter fun x => decide (gt zs x ≠ x))) ⟨Ex.new hD, upd_same⟩ (fun j G _ q => (hr'.ex q.1).sz) ?_ ?_
    · rintro j x G hx ⟨e, hd'⟩
      obtain ⟨hj, rfl⟩ := nat_at hx
      have cc := comp zs b H D hl hb hr' hD G j hj e hd'
      refine ⟨rfl, _, rfl, _, rfl, b, _, _, _, rfl, rfl, (hb.ex e).sz, atN (by rw [hl]; exact hlt _ (gt_mem hj)), _, rfl, rfl, _, rfl, ?_⟩
      rw [dne]
      exact ite_b (fun c => ⟨_, rfl, cc.1 c⟩) (fun c => cc.2 c)
    rintro G1 ⟨e1, l1⟩
    rw [nI_len, List.take_length] at l1
    refine ⟨D, _, rfl, .inl l1.sz, ?_⟩
    rw [nI_len]
    refine ⟨_, rfl, r, rfl, ⟨_, (hr'.ex e1).sz⟩, fun D2 hD2 => ?_⟩
    refine lc_list (K := K) (a := r) (xs := nI l) (fun j G => Ex G1 G ∧ ListN G D2 ((l.take j).filter fun x => decide (gt ys x ≠ x))) ⟨Ex.new hD2, upd_same⟩ (fun j G _ q => ((hr'.ex e1).ex q.1).sz) ?_ ?_
    · rintro j x G hx ⟨e, hd'⟩
      obtain ⟨hj, rfl⟩ := nat_at hx
      have cc := comp ys a G1 D2 rfl (ha.ex e1) (hr'.ex e1) hD2 G j hj e hd'
      refine ⟨rfl, _, rfl, _, rfl, a, _, _, _, rfl, rfl, ((ha.ex e1).ex e).sz, atN (hlt _ (gt_mem hj)), _, rfl, rfl, _, rfl, ?_⟩
      rw [dne]
      exact ite_b (fun c => ⟨_, rfl, cc.1 c⟩) (fun c => cc.2 c)
    rintro G2 ⟨e2, l2⟩
    rw [nI_len, List.take_length] at l2
    refine ⟨D2, _, rfl, .inl l2.sz, ?_⟩
    rw [nI_len]
    refine ⟨_, rfl, _, rfl, _, _, rfl, rfl, _, _, rfl, rfl, wide_div (b := 60) (by omega) (by omega) (by decide) (by decide), ?_⟩
    exact k G2 (e1.trans e2)

end

section
variable {P : Program} {w : World} {K : PySem.W.Frag} {mg : Str → Option Value} {base : Heap} {A : Ad}
theorem lessE_perm {l : List Nat} : (lessE l).Perm l := by
  unfold lessE
  split
  · exact List.reverse_perm l
  · exact .refl l
theorem part_lt {A B : List Nat} {x : Nat} (h : A.length = B.length) (a : Sta A) (b : Sta B) (hx : x < A.length) : ∀ y ∈ (partF A B x).2, y < A.length := by
  have T1 := walkF_ok (trl_ex h a b hx)
  have T2 := walkF_ok (trl_ex h.symm b a (by rw [← h]; exact hx))
  have both : ∀ y ∈ (walkF B A x).tail.reverse ++ walkF A B x, y < A.length := fun y hy => by
    rcases List.mem_append.mp hy with hy | hy
    · rw [h]
      exact T2.lt y (List.mem_of_mem_tail (List.mem_reverse.mp hy))
    · exact T1.lt y hy
  unfold partF
  split
  · exact T1.lt
  · show ∀ y ∈ lessE ((walkF B A x).tail.reverse ++ walkF A B x), _
    exact fun y hy => both y (lessE_perm.mem_iff.mp hy)
theorem parts_lt {A B : List Nat} (h : A.length = B.length) (a : Sta A) (b : Sta B) : ∀ i, i ≤ A.length → ∀ c ∈ partsF A B i, c.2.length ≤ 2 * A.length ∧ ∀ y ∈ c.2, y < A.length
  | 0, _, c, hc => by cases hc
  | i + 1, hi, c, hc => by
    have ih := parts_lt h a b i (by omega)
    have hc : c ∈ (if gt A i ≠ gt B i ∧ i ∉ (partsF A B i).flatMap (·.2) then partsF A B i ++ [partF A B i] else partsF A B i) := hc
    split at hc
    · rcases List.mem_append.mp hc with hc | hc
      · exact ih c hc
      · rw [List.mem_singleton.mp hc]
        exact ⟨part_len h a b (by omega), part_lt h a b (by omega)⟩
    · exact ih c hc
theorem parts_few {A B : List Nat} : ∀ i, (partsF A B i).length ≤ i
  | 0 => Nat.le_refl _
  | i + 1 => by
    have ih := parts_few (A := A) (B := B) i
    show (if _ then _ else _ : List (Bool × List Nat)).length ≤ _
    split
    · rw [List.length_append]
      exact Nat.succ_le_succ ih
    · omega
theorem ok_kind_of (T : Txt K mg A)  (g_parts : Okd P w K mg base (L2N.CX P w) 6 A.parts P_parts (spPts A)) (g_gain : Okd P w K mg base CX0 1 A.gain P_gain spGn) : Okd P w K mg base (L2N.CX P w) 7 A.kind_of P_kind_of (spKd A) := by
  obtain ⟨fd, F⟩ := T.d_kind_of
  obtain ⟨fd_parts, G_parts, b_parts⟩ := g_parts
  obtain ⟨fd_gain, G_gain, b_gain⟩ := g_gain
  refine ⟨fd, F.okN sc_kind_of (fun vs H Q E h => ?_) (fun cdv A' outer s H vs Q E hr h => ?_), F.binds fun _ _ _ _ _ _ us hl => match us, hl with | [_, _], _ => rfl⟩
  · obtain ⟨a, b, xs, zs, rfl, _⟩ := h
    rfl
  · obtain ⟨a, b, xs, zs, rfl, ha, hb, hl, hl2, kq, kr⟩ := h
    refine ⟨_, (pss_cons (ps_set (i := 2) sc_kind_of.nd rfl (Or.inl rfl) (pe_callS G_parts (hr.mono (by decide)) rfl T.g_parts T.k_parts b_parts (fun σ => L2N.passAt (L2N.takes_of rfl rfl rfl rfl) σ) (pa_cons (pv 0) (pa_cons (pv 1) pa_nil))))
      (pss_cons (ps_setLc (i := 3) (own := [("shape", 5), ("row", 4)]) (g := gTup K 2 (gCons (gName 5) (gCons (gName 4) gNil))) (tt := tYes) (by rfl) sc_kind_of.nd rfl rfl (sw_true rfl rfl rfl (by decide +kernel)) (pi_list (pv 2)) (blkOk_by (own := [("shape", 5), ("row", 4)]) (N := N_kind_of) (sc := defScope s_kind_of) (by decide +kernel)) (fun _ _ _ _ _ => (pg_tup (by rfl) (pgs_cons (pg_name (i := 5) sc_kind_of.nd rfl (Or.inl rfl)) (pgs_cons (pg_name (i := 4) sc_kind_of.nd rfl (Or.inl rfl)) pgs_nil)))) (fun _ _ _ _ _ => pts_nil) (fun _ _ _ _ _ => (pe_tup (pa_cons (pv 5) (pa_cons (pe_callB (call_lenK (K := K) rfl) (by rfl) T.n_len PySem.boot_len (pa_cons (pv 4) pa_nil)) (pa_cons (pe_call G_gain (hr.mono (by decide)) (by rfl) T.g_gain T.k_gain b_gain .nil pass0 (pa_cons (pv 0) (pa_cons (pv 1) (pa_cons (pv 4) pa_nil)))) pa_nil))))))
      (pss_one (ps_ret (pe_callTy call_tuple_of (by rfl) T.n_tuple (by decide +kernel) (pa_cons (pe_callB (DaS.cr_sortD hr.units) (by rfl) T.n_sorted (by decide +kernel) (pa_cons (pv 3) pa_nil)) pa_nil)))))), ?_⟩
    refine ⟨_, rfl, _, rfl, a, b, xs, zs, rfl, ha, hb, hl, hl2, fun f0 pf H1 hpf e1 PA => ?_, fun f hf => kr f hf⟩
    have kq := kq f0
    obtain ⟨fs1, fs2, hlen⟩ := faultF_no f0
    obtain ⟨s1, st1⟩ := faultS_no fs1
    obtain ⟨s2, st2⟩ := faultS_no fs2
    have la := (ha.ex e1).nat s1
    have lb := (hb.ex e1).nat s2
    have yl : (natI xs).length = xs.length := natI_len
    have zl : (natI zs).length = xs.length := by rw [natI_len, hlen]
    have lts := parts_lt (A := natI xs) (B := natI zs) (by omega) st1 st2 xs.length (by omega)
    have few := parts_few (A := natI xs) (B := natI zs) xs.length
    unfold entsF at kq
    generalize natI xs = ys at st1 la yl kq lts PA few
    generalize natI zs = ws at st2 lb zl kq lts PA few
    generalize partsF ys ws xs.length = cs at kq lts PA few
    obtain ⟨ts, htp, tl, tat⟩ := PA
    refine ⟨_, rfl, pf, rfl, ⟨_, SqL.of htp⟩, fun D hD => ?_⟩
    refine lc_list (K := K) (a := pf) (xs := ts.map V.ref) (fun j G => Ex H1 G ∧ EntsAt G D ((cs.take j).map (entO ys ws))) ⟨Ex.new hD, [], upd_same, rfl, fun i t e z => by cases z⟩ (fun j G _ q => SqL.of (q.1 _ _ htp)) ?_ ?_
    · rintro j x G hx ⟨e, us, hus, ul, uat⟩
      obtain ⟨t1, ht1, rfl⟩ : ∃ t1, ts[j]? = some t1 ∧ x = V.ref t1 := by
        rw [List.getElem?_map] at hx
        cases z : ts[j]? with
        | none => rw [z] at hx; cases hx
        | some y => rw [z] at hx; exact ⟨y, rfl, (Option.some.inj hx).symm⟩
      have jl : j < cs.length := by have := (List.getElem?_eq_some_iff.mp ht1).1; omega
      have hc1 : cs[j]? = some cs[j] := List.getElem?_eq_getElem jl
      obtain ⟨l, q1, q2⟩ := tat j _ _ ht1 hc1
      obtain ⟨cl, clt⟩ := lts _ (List.mem_of_getElem? hc1)
      refine ⟨t1, _, rfl, SqT.of (e _ _ q1), rfl, _, _, rfl, _, _, rfl, rfl, rfl, ?_⟩
      have q2' := q2.ex e
      have laG := la.ex e
      have lbG := lb.ex e
      have ej : (cs.take (j + 1)).map (entO ys ws) = (cs.take j).map (entO ys ws) ++ [entO ys ws cs[j]] := by
        rw [List.take_add_one, hc1, List.map_append]
        rfl
      rw [ej]
      unfold entO at *
      generalize cs[j] = c1 at q2' cl clt ⊢
      refine ⟨_, rfl, _, rfl, l, _, rfl, .inl q2'.sz, ?_⟩
      refine ⟨_, rfl, _, rfl, _, rfl, a, b, l, ys, ws, c1.2, rfl, laG, lbG, q2', by omega, by omega, by omega, fun x hx => by have := clt x hx; omega, fun G2 e2 => ?_⟩
      refine ⟨(by show 3 ≤ sizeLine; decide), fun t ht => ?_⟩
      rw [nI_len]
      have eT := Ex.new (o := .tup [V.str (wE (rgB c1.1)), V.int (c1.2.length : Int), V.int (gainF ys ws c1.2)]) ht
      have hT : upd G2 t (.tup [V.str (wE (rgB c1.1)), V.int (c1.2.length : Int), V.int (gainF ys ws c1.2)]) t = some (.tup [V.str (wE (rgB c1.1)), V.int (c1.2.length : Int), V.int (gainF ys ws c1.2)]) := upd_same
      have husT := eT _ _ (e2 _ _ hus)
      have e02 := (e.trans e2).trans eT
      have uatT : ∀ (i : Nat) (t : Addr) (e : Ent), us[i]? = some t → ((cs.take j).map (fun c => ((if c.1 = true then 1 else 0, (c.2.length : Int), gainF ys ws c.2) : Ent)))[i]? = some e → EntAt (upd G2 _ _) t e := fun i t e h1 h2 => eT _ _ (e2 _ _ (uat i t e h1 h2))
      generalize upd G2 t (.tup [V.str (wE (rgB c1.1)), V.int (c1.2.length : Int), V.int (gainF ys ws c1.2)]) = G3 at hT husT e02 uatT ⊢
      have ul2 : us.length ≤ 65 := by rw [ul, List.length_map, List.length_take]; omega
      refine ⟨_, husT, small1000 (by rw [List.length_map]; omega), fun x o ho => ?_, us ++ [t], ?_, ?_, fun i t' e' h1 h2 => ?_⟩
      · rw [upd_ne (ne_of_none ho hD)]
        exact e02 _ _ ho
      · rw [upd_same, List.map_append]
        rfl
      · rw [List.length_append, List.length_append, ul]
        rfl
      · have nD : ∀ x o, G3 x = some (.tup o) → upd G3 D (.lst (us.map V.ref ++ [V.ref t])) x = some (.tup o) := fun x o h => by
          rw [upd_ne (fun z => by rw [z, husT] at h; cases h)]
          exact h
        by_cases ci : i < us.length
        · rw [List.getElem?_append_left ci] at h1
          rw [List.getElem?_append_left (by omega)] at h2
          exact nD _ _ (uatT i t' e' h1 h2)
        · rw [List.getElem?_append_right (by omega)] at h1
          rw [List.getElem?_append_right (by omega), ← ul] at h2
          match hz : i - us.length with
          | 0 =>
            rw [hz] at h1 h2
            have h1 := Option.some.inj h1
            have h2 := Option.some.inj h2
            subst h1
            subst h2
            exact nD _ _ hT
          | z + 1 =>
            rw [hz] at h1
            cases h1
    rintro G1 ⟨e2, us, hus, ul, uat⟩
    have ltr : (ts.map V.ref).length = cs.length := by rw [List.length_map, tl]
    rw [ltr, List.take_length] at ul uat
    have w2 : ∀ e ∈ cs.map (entO ys ws), e.1 < 2 := fun e he => by
      obtain ⟨c, _, rfl⟩ := List.mem_map.mp he
      unfold entO
      show (if c.1 = true then 1 else 0) < 2
      split <;> omega
    obtain ⟨ts', es', so1, so2, so3, so4, so5⟩ := sort_ents ul uat w2
    have fl := List.length_map (f := entO ys ws) (as := cs)
    generalize cs.map (entO ys ws) = es at ul uat w2 so1 so2 so3 so4 so5 kq fl
    have zf : ((us.zip es).map fun z => (V.ref z.1, encE z.2)).map Prod.fst = us.map V.ref := by
      rw [List.map_map]
      have := List.map_fst_zip (l₁ := us) (l₂ := es) (by omega)
      conv => rhs; rw [← this, List.map_map]
      rfl
    refine ⟨_, rfl, D, (us.zip es).map fun z => (V.ref z.1, encE z.2), rfl, (by rw [zf]; exact SqL.of hus), fun z hz => ?_, ?_, ?_, fun p hp => ?_⟩
    · obtain ⟨y, hy, rfl⟩ := List.mem_map.mp hz
      obtain ⟨i, hi, ez⟩ := List.getElem_of_mem hy
      have e2z : (us.zip es)[i]? = some y := by rw [List.getElem?_eq_getElem hi, ez]
      rw [List.getElem?_zip_eq_some] at e2z
      exact ⟨dp_ent (uat i _ _ e2z.1 e2z.2), depth_ent _⟩
    · rw [List.map_map]
      intro d hd d' hd'
      obtain ⟨y, _, rfl⟩ := List.mem_map.mp hd
      obtain ⟨y', _, rfl⟩ := List.mem_map.mp hd'
      exact alike_ent _ _
    · rw [List.map_map]
      refine .inl fun d hd => ?_
      obtain ⟨y, _, rfl⟩ := List.mem_map.mp hd
      exact ⟨_, _, rfl⟩
    · rw [so1]
      have hS : upd G1 p (.lst (ts'.map V.ref)) p = some (.lst (ts'.map V.ref)) := upd_same
      have e3 := Ex.new (o := .lst (ts'.map V.ref)) hp
      generalize upd G1 p (.lst (ts'.map V.ref)) = G2 at hS e3 ⊢
      refine ⟨p, _, rfl, Or.inl ⟨SqL.of hS, fun q hq => ?_⟩⟩
      have e4 := Ex.new (o := .tup (ts'.map V.ref)) hq
      have e0 := ((e1.trans e2).trans e3).trans e4
      exact kq q es' _ (back_none ((e1.trans e2).trans e3) hq) e0 so2 so3 ⟨ts', upd_same, so4, fun i t e h1 h2 => e4 _ _ (e3 _ _ (so5 i t e h1 h2))⟩

end

section
variable {P : Program} {w : World} {K : PySem.W.Frag} {mg : Str → Option Value} {base : Heap} {A : Ad}
theorem ok_m_kind (T : Txt K mg A)  (g_kind_of : Okd P w K mg base (L2N.CX P w) 7 A.kind_of P_kind_of (spKd A)) : Okd P w K mg base CX0 8 A.m_kind P_m_kind (spUk A) := by
  obtain ⟨fd, F⟩ := T.d_m_kind
  obtain ⟨fd_kind_of, G_kind_of, b_kind_of⟩ := g_kind_of
  refine ⟨fd, F.ok sc_m_kind (fun vs H Q E h => ?_) (fun cdv A' outer s H vs Q E hr h => ?_), F.binds fun _ _ _ _ _ _ us hl => match us, hl with | [_], _ => rfl⟩
  · obtain ⟨u, ys, zs, rfl, _⟩ := h
    rfl
  · obtain ⟨u, ys, zs, rfl, U, sy, sz, hl, h65, k⟩ := h
    refine ⟨_, (pss_one (ps_ret (pe_callS G_kind_of (hr.mono (by decide)) rfl T.g_kind_of T.k_kind_of b_kind_of (fun σ => L2N.passAt L2N.takes0N σ) (pa_cons (pe_fld (pv 0) rfl) (pa_cons (pe_fld (pv 0) rfl) pa_nil))))), ?_⟩
    obtain ⟨dx, p, q, hu, lp, lq, npu, nqu⟩ := U
    have f1 := (sta_fault sy).2
    have f2 := (sta_fault sz).2
    have ff : faultF (toI ys) (toI zs) = none := by
      unfold faultF
      rw [f1]
      simp only [f2]
      rw [if_neg (fun h => h (by rw [toI_len, toI_len, hl]))]
    refine ⟨_, rfl, u, _, dx, _, _, rfl, hu, T.cR, T.nc_before, rfl, ?_⟩
    refine ⟨_, rfl, u, _, dx, _, _, rfl, hu, T.cR, T.nc_after, rfl, ?_⟩
    refine ⟨p, q, toI ys, toI zs, rfl, lp.int, lq.int, by rw [toI_len]; exact h65, by rw [toI_len, hl]; exact h65, fun _ r es H' hr' e hp1 hp2 K1 => ?_, fun f hf => by rw [ff] at hf; cases hf⟩
    rw [toI_nat, toI_nat, toI_len] at hp1
    exact k r es H' hr' e hp1 hp2 K1

end

section
variable {P : Program} {w : World} {K : PySem.W.Frag} {mg : Str → Option Value} {base : Heap} {A : Ad}
theorem ok_law_due_kind (T : Txt K mg A)  (g_law_ascending : Okd P w K mg base CX0 1 A.law_ascending P_law_ascending spAsc) : Okd P w K mg base CX0 2 A.law_due_kind P_law_due_kind spDk := by
  obtain ⟨fd, F⟩ := T.d_law_due_kind
  obtain ⟨fd_law_ascending, G_law_ascending, b_law_ascending⟩ := g_law_ascending
  refine ⟨fd, F.ok sc_law_due_kind (fun vs H Q E h => ?_) (fun cdv A' outer s H vs Q E hr h => ?_), F.binds fun _ _ _ _ _ _ us hl => match us, hl with | [_, _], _ => rfl⟩
  · obtain ⟨q, n, f, ps, rfl, _⟩ := h
    rfl
  · obtain ⟨q, n, f, ps, rfl, hf, hn, hq, C, k⟩ := h
    refine ⟨_, (pss_cons (ps_set (i := 2) sc_law_due_kind.nd rfl (Or.inl rfl) (pe_lst pa_nil))
      (pss_cons (ps_for PassesOwn.never rfl (pi_list (pv 0)) (pg_unl (by rfl) (pgs_cons (pg_name (i := 3) sc_law_due_kind.nd rfl (Or.inl rfl)) (pgs_cons (pg_name (i := 4) sc_law_due_kind.nd rfl (Or.inl rfl)) (pgs_cons (pg_name (i := 5) sc_law_due_kind.nd rfl (Or.inl rfl)) pgs_nil)))) (pss_one (ps_if (PW.pt (pw_or (pt_cmpR op_eq (pv 3) pe_str (nomark _)) (pw_or1 (PW.pt (pw_and (pt_cmpR op_eq (pv 3) pe_str (nomark _)) (pw_and1 (pt_cmpR op_eq (pe_op op_and (pe_callB call_len_seq (by rfl) T.n_len PySem.boot_len (pa_cons (pv 4) pa_nil)) pe_int) pe_int (nomark _)))))))) (pss_one (ps_expr (pe_bm PySem.F.plainAttrs_list PySem.F.slot_list_append PySem.F.type_list_append mt_append (pv 2) (pa_cons (pe_tup (pa_cons (pv 3) (pa_cons (pe_callB call_len_seq (by rfl) T.n_len PySem.boot_len (pa_cons (pv 4) pa_nil)) (pa_cons pe_int pa_nil)))) pa_nil)))) (pss_one (ps_if (pt_cmpR op_eq (pv 3) pe_str (nomark _)) (pss_one (ps_expr (pe_bm PySem.F.plainAttrs_list PySem.F.slot_list_append PySem.F.type_list_append mt_append (pv 2) (pa_cons (pe_tup (pa_cons (pv 3) (pa_cons (pe_callB call_len_seq (by rfl) T.n_len PySem.boot_len (pa_cons (pv 4) pa_nil)) (pa_cons (pe_op op_mul (pe_ix ix_list (pe_lst (pa_cons (pe_un un_neg pe_int) (pa_cons pe_int pa_nil))) (pv 5) (fun _ _ => rfl)) (pv 1)) pa_nil)))) pa_nil)))) pss_nil)))))
      (pss_one (ps_ret (pe_call G_law_ascending (hr.mono (by decide)) (by rfl) T.g_law_ascending T.k_law_ascending b_law_ascending .nil pass0 (pa_cons (pv 2) pa_nil)))))), ?_⟩
    obtain ⟨ts, hts, tl, tat⟩ := hq
    have few := C.few
    refine ⟨(by show 0 ≤ sizeLine; decide), fun D hD => ?_⟩
    have e0 := Ex.new (o := .lst []) hD
    have hD0 : upd H D (.lst []) D = some (.lst []) := upd_same
    have nqD : q ≠ D := ne_of_none hts hD
    generalize upd H D (.lst []) = H1 at e0 hD0 ⊢
    have hts1 := e0 _ _ hts
    have elen : ∀ i, (entsD f (ps.take i)).length ≤ 64 := fun i => by
      unfold entsD
      rw [List.length_map]
      refine Nat.le_trans (List.length_filter_le _ _) ?_
      rw [List.length_take]
      omega
    refine ⟨_, rfl, q, rfl, ⟨_, SqL.of hts1⟩, for_list (K := K) (a := q) (xs := ts.map V.ref) (fun i σ G => ∃ (v3 v4 v5 : Option V) (us : List Addr), σ = [some (.ref q), some (.int (if f = 0 then 1 else -1)), some (.ref D), v3, v4, v5] ∧ (∀ x o, x ≠ D → H1 x = some o → G x = some o) ∧ G D = some (.lst (us.map V.ref)) ∧ us.length = (entsD f (ps.take i)).length ∧ ∀ (j : Nat) (t : Addr) (e : Ent), us[j]? = some t → (entsD f (ps.take i))[j]? = some e → EntAt G t e) ⟨none, none, none, [], rfl, fun _ _ _ h => h, hD0, rfl, (fun j t e z => by cases z)⟩ (fun i σ G _ ⟨_, _, _, _, _, K1, _⟩ => SqL.of (K1 _ _ nqD hts1)) ?_ ?_⟩
    · rintro i x σ G hx ⟨v3, v4, v5, us, rfl, K1, hus, ul, uat⟩
      obtain ⟨t1, ht1, rfl⟩ := ref_at hx
      have il : i < ps.length := by have := (List.getElem?_eq_some_iff.mp ht1).1; omega
      have hp1 : ps[i]? = some ps[i] := List.getElem?_eq_getElem il
      obtain ⟨l, hT, hL⟩ := tat i _ _ ht1 hp1
      have mem := List.getElem_mem il
      have ok := C.ok _ mem
      have len := C.len mem
      have step : entsD f (ps.take (i + 1)) = entsD f (ps.take i) ++ (if isCR ps[i] = true then [entD f ps[i]] else []) := by
        unfold entsD
        rw [List.take_add_one, hp1, List.filter_append, List.map_append]
        congr 1
        show List.map _ (List.filter _ [ps[i]]) = _
        rw [List.filter_cons]
        split <;> rfl
      rw [step]
      have el := elen i
      generalize entsD f (ps.take i) = fs at ul uat el ⊢
      generalize ps[i] = p at hT hL ok len ⊢
      have hTG := K1 _ _ (ne_of_none hT hD) (e0 _ _ hT)
      have hLG : ListN G l p.2.1 := K1 _ _ (ne_of_none (show H l = some _ from hL) hD) (e0 _ _ hL)
      have pw := ok.w
      have ps2 := ok.s
      refine ⟨t1, _, rfl, SqL.of hTG, rfl, _, _, rfl, _, _, rfl, _, _, rfl, rfl, ?_⟩
      have app : ∀ (z : Int) G1 t, 1 < p.1 → dueG f p = z → Ex G G1 → G1 t = none → ∃ us' : List Addr,
          (∀ x o, x ≠ D → H1 x = some o → (upd (upd G1 t (.tup [V.str (w4 p.1), V.int (p.2.1.length : Nat), V.int z])) D (.lst (us.map V.ref ++ [V.ref t]))) x = some o) ∧ (upd (upd G1 t (.tup [V.str (w4 p.1), V.int (p.2.1.length : Nat), V.int z])) D (.lst (us.map V.ref ++ [V.ref t]))) D = some (.lst (us'.map V.ref)) ∧ us'.length = (fs ++ (if isCR p = true then [entD f p] else [])).length ∧
          ∀ (j : Nat) (t' : Addr) (e : Ent), us'[j]? = some t' → (fs ++ (if isCR p = true then [entD f p] else []))[j]? = some e → EntAt (upd (upd G1 t (.tup [V.str (w4 p.1), V.int (p.2.1.length : Nat), V.int z])) D (.lst (us.map V.ref ++ [V.ref t]))) t' e := by
        intro z G1 t h1 hz e1 ht
        have cr : isCR p = true := decide_eq_true h1
        rw [if_pos cr]
        have eT := Ex.new (o := .tup [V.str (w4 p.1), V.int (p.2.1.length : Nat), V.int z]) ht
        have hTt : upd G1 t (.tup [V.str (w4 p.1), V.int (p.2.1.length : Nat), V.int z]) t = some (.tup [V.str (w4 p.1), V.int (p.2.1.length : Nat), V.int z]) := upd_same
        generalize upd G1 t (.tup [V.str (w4 p.1), V.int (p.2.1.length : Nat), V.int z]) = G2 at eT hTt ⊢
        have hD2 := eT _ _ (e1 _ _ hus)
        have nD : ∀ x o, G2 x = some (.tup o) → upd G2 D (.lst (us.map V.ref ++ [V.ref t])) x = some (.tup o) := fun x o h => by
          rw [upd_ne (fun z => by rw [z, hD2] at h; cases h)]
          exact h
        refine ⟨us ++ [t], fun x o h1 h => by rw [upd_ne h1]; exact eT _ _ (e1 _ _ (K1 x o h1 h)), by rw [upd_same, List.map_append]; rfl, by rw [List.length_append, List.length_append, ul]; rfl, app_at ul (fun j t' e a b => nD _ _ (eT _ _ (e1 _ _ (uat j t' e a b)))) ?_⟩
        refine nD _ _ ?_
        rw [hTt]
        unfold entD
        rw [hz]
        have : p.1 = 2 ∨ p.1 = 3 := by omega
        rcases this with h | h
        · rw [h]
          rfl
        · rw [h]
          rfl
      have due2 : p.1 = 2 → dueG f p = if p.2.1.length % 2 = 1 then 0 else if p.2.2 = f then -1 else 1 := fun h => by
        unfold dueG
        rw [if_neg (by omega)]
      refine ⟨_, rfl, rfl, _, rfl, ?_⟩
      rw [w4_ring pw]
      refine ite_b (fun c => ?_) (fun c => ?_)
      · have c := of_decide_eq_true c
        refine iteT ?_
        refine ⟨_, rfl, Or.inl ⟨rfl, _, SqL.of hus⟩, _, rfl, _, rfl, l, _, rfl, .inl hLG.sz, (by show 3 ≤ sizeLine; decide), fun t ht => ?_⟩
        rw [nI_len]
        refine ⟨_, _, _, rfl, rfl, Ex.new ht _ _ hus, small1000 (by rw [List.length_map]; omega), ?_⟩
        obtain ⟨us', a1, a2, a3, a4⟩ := app 0 G t (by omega) (by unfold dueG; rw [if_pos c]) (Ex.refl G) ht
        exact ⟨_, _, _, us', rfl, a1, a2, a3, a4⟩
      have c := of_decide_eq_false c
      refine ⟨_, rfl, rfl, _, rfl, ?_⟩
      rw [w4_chain pw]
      refine ite_b (fun c2 => ?_) (fun c2 => ?_)
      rotate_left
      · refine ⟨_, rfl, rfl, _, rfl, ?_⟩
        rw [w4_chain pw]
        refine ifF c2 ?_
        have c2 := of_decide_eq_false c2
        have cr : isCR p = false := decide_eq_false (by omega)
        refine ⟨_, _, _, us, rfl, K1, hus, ?_, ?_⟩
        · rw [cr, if_neg (by decide), List.append_nil]
          exact ul
        · rw [cr, if_neg (by decide), List.append_nil]
          exact uat
      have c2' := of_decide_eq_true c2
      have due2 := due2 c2'
      refine ⟨_, rfl, l, _, rfl, .inl hLG.sz, _, _, rfl, rfl, rfl, _, rfl, ?_⟩
      rw [nI_len]
      show if decide (V.int (Builtin.bitAnd ((p.2.1.length : Nat) : Int) 1) = V.int 1) = true then _ else _
      rw [bit1 _ (by omega), show decide (V.int ((p.2.1.length % 2 : Nat) : Int) = V.int 1) = decide (p.2.1.length % 2 = 1) from deq _ 1]
      refine ite_b (fun c3 => ?_) (fun c3 => ?_)
      · rw [if_pos (of_decide_eq_true c3)] at due2
        refine ⟨_, rfl, Or.inl ⟨rfl, _, SqL.of hus⟩, _, rfl, _, rfl, l, _, rfl, .inl hLG.sz, (by show 3 ≤ sizeLine; decide), fun t ht => ?_⟩
        rw [nI_len]
        refine ⟨_, _, _, rfl, rfl, Ex.new ht _ _ hus, small1000 (by rw [List.length_map]; omega), ?_⟩
        obtain ⟨us', a1, a2, a3, a4⟩ := app 0 G t (by omega) due2 (Ex.refl G) ht
        exact ⟨_, _, _, us', rfl, a1, a2, a3, a4⟩
      rw [if_neg (of_decide_eq_false c3)] at due2
      refine ⟨_, rfl, rfl, _, rfl, ?_⟩
      rw [w4_chain pw]
      refine ifT c2 ?_
      have pick : ∃ z0 : Int, [V.int (-1), V.int 1][p.2.2]? = some (V.int z0) ∧ -5 < z0 ∧ z0 < 5 ∧ dueG f p = z0 * (if f = 0 then 1 else -1) := by
        rw [due2]
        have h1 : p.2.2 = 0 ∨ p.2.2 = 1 := by omega
        have h2 : f = 0 ∨ f = 1 := by omega
        rcases h1 with h1 | h1 <;> rcases h2 with h2 | h2 <;> rw [h1, h2]
        · exact ⟨-1, rfl, by decide, by decide, rfl⟩
        · exact ⟨-1, rfl, by decide, by decide, rfl⟩
        · exact ⟨1, rfl, by decide, by decide, rfl⟩
        · exact ⟨1, rfl, by decide, by decide, rfl⟩
      obtain ⟨z0, hz0, z1, z2, zd⟩ := pick
      refine ⟨_, rfl, Or.inl ⟨rfl, _, SqL.of hus⟩, _, rfl, _, rfl, l, _, rfl, .inl hLG.sz, _, rfl, (by show 2 ≤ sizeLine; decide), fun p0 hp0 => ?_⟩
      have eP := Ex.new (o := .lst [V.int (-1), V.int 1]) hp0
      have hP : upd G p0 (.lst [V.int (-1), V.int 1]) p0 = some (.lst [V.int (-1), V.int 1]) := upd_same
      refine ⟨_, rfl, p0, _, _, _, rfl, rfl, SqL.of hP, atI_nat hz0, _, rfl, _, _, rfl, rfl, Or.inl ⟨by omega, by omega⟩, (by show 3 ≤ sizeLine; decide), fun t ht => ?_⟩
      rw [nI_len]
      refine ⟨_, _, _, rfl, rfl, Ex.new ht _ _ (eP _ _ hus), small1000 (by rw [List.length_map]; omega), ?_⟩
      obtain ⟨us', a1, a2, a3, a4⟩ := app _ _ t (by omega) zd eP ht
      exact ⟨_, _, _, us', rfl, a1, a2, a3, a4⟩
    rintro σ G ⟨v3, v4, v5, us, rfl, K1, hus, ul, uat⟩
    have el := elen ps.length
    rw [List.length_map, tl, List.take_length] at ul uat
    rw [List.take_length] at el
    have e2 : Ex H G := fun x o h => K1 x o (ne_of_none h hD) (e0 _ _ h)
    refine ⟨_, rfl, D, entsD f ps, rfl, ⟨us, hus, ul, uat⟩, el, fun e he => ?_, fun d fs' H' hd e EA pm pw => k d fs' H' (back_none e2 hd) (e2.trans e) EA pm pw⟩
    obtain ⟨p, _, rfl⟩ := List.mem_map.mp he
    show (if p.1 = 3 then 1 else 0) < 2
    split <;> omega

end

section
variable {P : Program} {w : World} {K : PySem.W.Frag} {mg : Str → Option Value} {base : Heap} {A : Ad}
theorem ok_law_ascending (T : Txt K mg A)   : Okd P w K mg base CX0 1 A.law_ascending P_law_ascending spAsc := by
  obtain ⟨fd, F⟩ := T.d_law_ascending

  refine ⟨fd, F.ok sc_law_ascending (fun vs H Q E h => ?_) (fun cdv A' outer s H vs Q E hr h => ?_), F.binds fun _ _ _ _ _ _ us hl => match us, hl with | [_], _ => rfl⟩
  · obtain ⟨q, es, rfl, _⟩ := h
    rfl
  · obtain ⟨q, es, rfl, hq, hl, h2, k⟩ := h
    refine ⟨_, (pss_cons (ps_set (i := 1) sc_law_ascending.nd rfl (Or.inl rfl) (pe_lst pa_nil))
      (pss_cons (ps_for PassesOwn.never rfl (pi_list (pv 0)) (pg_name (i := 2) sc_law_ascending.nd rfl (Or.inl rfl)) (pss_cons (ps_set (i := 3) sc_law_ascending.nd rfl (Or.inl rfl) pe_int)
      (pss_cons (ps_while PassesOwn.never (PW.pt (pw_and (pt_cmpR op_lt (pv 3) (pe_callB call_len_seq (by rfl) T.n_len PySem.boot_len (pa_cons (pv 1) pa_nil)) (nomark _)) (pw_and1 (pt_cmpR (DaS.op_leD hr.units) (pe_ix ix_list (pv 1) (pv 3) (fun _ _ => rfl)) (pv 2) (nomark _))))) (pss_one (ps_set (i := 3) sc_law_ascending.nd rfl (Or.inl rfl) (pe_op op_add (pv 3) pe_int))))
      (pss_one (ps_expr (pe_bm PySem.F.plainAttrs_list PySem.F.slot_list_insert PySem.F.type_list_insert mt_insert (pv 1) (pa_cons (pv 3) (pa_cons (pv 2) pa_nil))))))))
      (pss_one (ps_ret (pv 1))))), ?_⟩
    obtain ⟨ts, hts, tl, tat⟩ := hq
    refine ⟨(by show 0 ≤ sizeLine; decide), fun D hD => ?_⟩
    have e0 := Ex.new (o := .lst []) hD
    have hD0 : upd H D (.lst []) D = some (.lst []) := upd_same
    have nqD : q ≠ D := ne_of_none hts hD
    generalize upd H D (.lst []) = H1 at e0 hD0 ⊢
    have hts1 := e0 _ _ hts
    refine ⟨_, rfl, q, rfl, ⟨_, SqL.of hts1⟩, for_list (K := K) (a := q) (xs := ts.map V.ref) (fun i σ G => ∃ (v2 v3 : Option V) (us : List Addr) (fs : List Ent), σ = [some (.ref q), some (.ref D), v2, v3] ∧ (∀ x o, x ≠ D → H1 x = some o → G x = some o) ∧ G D = some (.lst (us.map V.ref)) ∧ us.length = fs.length ∧ (∀ (j : Nat) (t : Addr) (e : Ent), us[j]? = some t → fs[j]? = some e → EntAt H t e) ∧ fs.Perm (es.take i) ∧ fs.Pairwise (fun e f => leE e f = true)) ⟨none, none, [], [], rfl, fun _ _ _ h => h, hD0, rfl, (fun j t e z => by cases z), List.Perm.refl _, List.Pairwise.nil⟩ (fun i σ G _ ⟨_, _, _, _, _, K1, _⟩ => SqL.of (K1 _ _ nqD hts1)) ?_ ?_⟩
    · rintro i x σ G hx ⟨v2, v3, us, fs, rfl, K1, hus, ul, uat, pm, pw⟩
      obtain ⟨t1, ht1, rfl⟩ := ref_at hx
      have il : i < es.length := by have := (List.getElem?_eq_some_iff.mp ht1).1; omega
      have he1 : es[i]? = some es[i] := List.getElem?_eq_getElem il
      have E1 := tat i _ _ ht1 he1
      have w1 := h2 _ (List.getElem_mem il)
      have pm1 : es.take (i + 1) = es.take i ++ [es[i]] := by rw [List.take_add_one, he1]; rfl
      rw [pm1]
      generalize es[i] = e1 at E1 w1 ⊢
      have GE : ∀ t e, EntAt H t e → EntAt G t e := fun t e h => K1 _ _ (ne_of_none h hD) (e0 _ _ h)
      have fl : fs.length ≤ 64 := by
        have := pm.length_eq
        rw [List.length_take] at this
        omega
      have ln : (us.map V.ref).length = us.length := List.length_map ..
      have w2 : ∀ f ∈ fs, f.1 < 2 := fun f hf => h2 f (List.mem_of_mem_take (pm.mem_iff.mp hf))
      have fin : ∀ j : Nat, j ≤ us.length → (∀ (k : Nat) f, k < j → fs[k]? = some f → leE f e1 = true) → (∀ (k : Nat) f, j ≤ k → fs[k]? = some f → leE e1 f = true) → ∀ v, (∃ (v2 v3 : Option V) (us' : List Addr) (fs' : List Ent), [some (.ref q), some (.ref D), some (V.ref t1), v] = [some (.ref q), some (.ref D), v2, v3] ∧ (∀ x o, x ≠ D → H1 x = some o → (upd G D (.lst (List.take ((j : Int)).toNat (us.map V.ref) ++ [V.ref t1] ++ List.drop ((j : Int)).toNat (us.map V.ref)))) x = some o) ∧ (upd G D (.lst (List.take ((j : Int)).toNat (us.map V.ref) ++ [V.ref t1] ++ List.drop ((j : Int)).toNat (us.map V.ref)))) D = some (.lst (us'.map V.ref)) ∧ us'.length = fs'.length ∧ (∀ (j : Nat) (t : Addr) (e : Ent), us'[j]? = some t → fs'[j]? = some e → EntAt H t e) ∧ fs'.Perm (es.take i ++ [e1]) ∧ fs'.Pairwise (fun e f => leE e f = true)) := by
        intro j hj lo hi v
        refine ⟨_, _, us.take j ++ [t1] ++ us.drop j, fs.take j ++ [e1] ++ fs.drop j, rfl, fun x o h1 h => by rw [upd_ne h1]; exact K1 x o h1 h, ?_, ?_, ins_at ul hj uat E1, ?_, ?_⟩
        · rw [upd_same, Int.toNat_natCast, List.map_append, List.map_append, List.map_take, List.map_drop]
          rfl
        · rw [List.length_append, List.length_append, List.length_append, List.length_append, List.length_take, List.length_take, List.length_drop, List.length_drop, ul]
          rfl
        · rw [List.append_assoc]
          refine (List.perm_middle (l₁ := fs.take j) (a := e1) (l₂ := fs.drop j)).trans ?_
          rw [List.take_append_drop]
          exact (List.perm_append_singleton e1 fs).symm.trans (pm.append_right [e1])
        · have pw' := pw
          rw [← List.take_append_drop j fs, List.pairwise_append] at pw'
          have lo' : ∀ a ∈ fs.take j, leE a e1 = true := fun a ha => by
            obtain ⟨k, hk, ek⟩ := List.getElem_of_mem ha
            rw [List.length_take] at hk
            rw [List.getElem_take] at ek
            exact lo k a (by omega) (by rw [List.getElem?_eq_getElem (by omega), ek])
          have hi' : ∀ b ∈ fs.drop j, leE e1 b = true := fun b hb => by
            obtain ⟨k, hk, ek⟩ := List.getElem_of_mem hb
            rw [List.length_drop] at hk
            rw [List.getElem_drop] at ek
            exact hi (j + k) b (by omega) (by rw [List.getElem?_eq_getElem (by omega), ek])
          rw [List.pairwise_append, List.pairwise_append]
          refine ⟨⟨pw'.1, List.pairwise_singleton _ _, fun a ha b hb => by rw [List.mem_singleton.mp hb]; exact lo' a ha⟩, pw'.2.1, fun a ha b hb => ?_⟩
          rcases List.mem_append.mp ha with ha | ha
          · exact pw'.2.2 a ha b hb
          · rw [List.mem_singleton.mp ha]
            exact hi' b hb
      refine ⟨fun m σ' G' => ∃ j : Nat, m = us.length - j ∧ j ≤ us.length ∧ σ' = [some (.ref q), some (.ref D), some (V.ref t1), some (.int (j : Int))] ∧ G' = G ∧ ∀ (k : Nat) f, k < j → fs[k]? = some f → leE f e1 = true, ⟨us.length, 0, (Nat.sub_zero _).symm, Nat.zero_le _, rfl, rfl, fun k f hk => absurd hk (Nat.not_lt_zero _)⟩, ?_⟩
      rintro m σ' G' ⟨j, rfl, hj, rfl, eG, lo⟩
      rw [eG]
      clear eG
      refine ⟨_, rfl, _, rfl, D, _, rfl, .inl (SqL.of hus), _, _, rfl, rfl, _, rfl, ?_⟩
      rw [ln]
      refine ite_b (fun c => ?_) (fun c => ?_)
      rotate_left
      · have c := of_decide_eq_false c
        refine ⟨_, rfl, Or.inl ⟨rfl, _, SqL.of hus⟩, _, rfl, _, rfl, D, _, (j : Int), _, rfl, rfl, hus, small1000 (by rw [ln]; omega), by omega, by omega, ?_⟩
        exact fin j hj lo (fun k f hk hf => by have := (List.getElem?_eq_some_iff.mp hf).1; omega) _
      have c := of_decide_eq_true c
      have jl : j < fs.length := by omega
      have hj1 : us[j]? = some us[j] := List.getElem?_eq_getElem (by omega)
      have hf1 : fs[j]? = some fs[j] := List.getElem?_eq_getElem jl
      have Ef := GE _ _ (uat j _ _ hj1 hf1)
      have wf := w2 _ (List.getElem_mem jl)
      refine ⟨_, rfl, _, rfl, D, _, _, _, rfl, rfl, SqL.of hus, atR hj1, _, rfl, encE fs[j], encE e1, ⟨dp_ent Ef, dp_ent (GE _ _ E1), alike_ent _ _, (fun h => by cases h), Nat.le_trans (depth_ent _) (by decide)⟩, _, rfl, ?_⟩
      rw [data_lt w1 wf, ← le_lt]
      refine ite_b (fun c2 => ?_) (fun c2 => ?_)
      rotate_left
      · refine ⟨_, rfl, Or.inl ⟨rfl, _, SqL.of hus⟩, _, rfl, _, rfl, D, _, (j : Int), _, rfl, rfl, hus, small1000 (by rw [ln]; omega), by omega, by omega, ?_⟩
        have tot : leE e1 fs[j] = true := (le_total' e1 fs[j]).resolve_right (by rw [c2]; decide)
        refine fin j hj lo (fun k f hk hf => ?_) _
        obtain ⟨kl, ek⟩ := List.getElem?_eq_some_iff.mp hf
        by_cases z : k = j
        · subst z
          rw [← ek]
          exact tot
        · rw [← ek]
          exact le_trans' tot (List.pairwise_iff_getElem.mp pw j k jl kl (by omega))
      refine ⟨fun σ' G' => σ' = [some (.ref q), some (.ref D), some (V.ref t1), some (.int ((j + 1 : Nat) : Int))] ∧ G' = G, fun σ' G' ⟨h1, h2⟩ => ⟨us.length - (j + 1), by omega, j + 1, rfl, by omega, h1, h2, fun k f hk hf => ?_⟩, ?_⟩
      · by_cases z : k = j
        · subst z
          rw [hf1] at hf
          rw [← Option.some.inj hf]
          exact c2
        · exact lo k f (by omega) hf
      · exact ⟨_, rfl, _, _, rfl, rfl, rfl, rfl⟩
    rintro σ G ⟨v2, v3, us, fs, rfl, K1, hus, ul, uat, pm, pw⟩
    rw [List.length_map, tl, List.take_length] at pm
    exact ⟨_, rfl, k D fs G hD (fun x o h => K1 x o (ne_of_none h hD) (e0 _ _ h)) ⟨us, hus, ul, fun i t e h1 h2 => by have h := uat i t e h1 h2; exact K1 _ _ (ne_of_none h hD) (e0 _ _ h)⟩ pm pw⟩

end

section
variable {P : Program} {w : World} {K : PySem.W.Frag} {mg : Str → Option Value} {base : Heap} {A : Ad}
theorem ok_law_due_parts (T : Txt K mg A)  (g_law_least : Okd P w K mg base CX0 1 A.law_least P_law_least spLst) (g_law_canonical : Okd P w K mg base CX0 2 A.law_canonical P_law_canonical spCan) : Okd P w K mg base CX0 3 A.law_due_parts P_law_due_parts spDp := by
  obtain ⟨fd, F⟩ := T.d_law_due_parts
  obtain ⟨fd_law_least, G_law_least, b_law_least⟩ := g_law_least
  obtain ⟨fd_law_canonical, G_law_canonical, b_law_canonical⟩ := g_law_canonical
  refine ⟨fd, F.ok sc_law_due_parts (fun vs H Q E h => ?_) (fun cdv A' outer s H vs Q E hr h => ?_), F.binds fun _ _ _ _ _ _ us hl => match us, hl with | [_, _, _], _ => rfl⟩
  · obtain ⟨q, r, n, ps, A0, rfl, _⟩ := h
    rfl
  · obtain ⟨q, r, n, ps, A0, rfl, hn, hq, hr0, la, C, k⟩ := h
    refine ⟨_, (pss_cons (ps_set (i := 3) sc_law_due_parts.nd rfl (Or.inl rfl) (pe_lst pa_nil))
      (pss_cons (ps_for PassesOwn.never rfl (pi_range1 (by rfl) T.n_range (pa_cons (pv 1) pa_nil)) (pg_name (i := 4) sc_law_due_parts.nd rfl (Or.inl rfl)) (pss_one (ps_for PassesOwn.never rfl (pi_list (pv 0)) (pg_unl (by rfl) (pgs_cons (pg_name (i := 5) sc_law_due_parts.nd rfl (Or.inl rfl)) (pgs_cons (pg_name (i := 6) sc_law_due_parts.nd rfl (Or.inl rfl)) (pgs_cons (pg_name (i := 7) sc_law_due_parts.nd rfl (Or.inl rfl)) pgs_nil)))) (pss_one (ps_if (PW.pt (pw_and (pt_cmpR op_in_seq (pv 5) (pe_lst (pa_cons pe_str (pa_cons pe_str pa_nil))) (by with_unfolding_all rfl)) (pw_and1 (pt_cmpR op_eq (pe_call G_law_least (hr.mono (by decide)) (by rfl) T.g_law_least T.k_law_least b_law_least .nil pass0 (pa_cons (pv 6) pa_nil)) (pv 4) (nomark _))))) (pss_one (ps_expr (pe_bm PySem.F.plainAttrs_list PySem.F.slot_list_append PySem.F.type_list_append mt_append (pv 3) (pa_cons (pe_tup (pa_cons (pv 5) (pa_cons (pe_call G_law_canonical (hr.mono (by decide)) (by rfl) T.g_law_canonical T.k_law_canonical b_law_canonical .nil pass0 (pa_cons (pv 5) (pa_cons (pv 6) (pa_cons (pv 2) pa_nil)))) pa_nil))) pa_nil)))) pss_nil)))))
      (pss_one (ps_ret (pv 3))))), ?_⟩
    obtain ⟨ts, hts, tl, tat⟩ := hq
    have few := C.few
    refine ⟨(by show 0 ≤ sizeLine; decide), fun D hD => ?_⟩
    have e0 := Ex.new (o := .lst []) hD
    have hD0 : upd H D (.lst []) D = some (.lst []) := upd_same
    have nqD : q ≠ D := ne_of_none hts hD
    have nrD : r ≠ D := ne_of_none (show H r = some _ from hr0) hD
    generalize upd H D (.lst []) = H1 at e0 hD0 ⊢
    have hts1 := e0 _ _ hts
    have hr1 := hr0.ex e0
    have jlen : ∀ i, (psJ ps i).length ≤ i := fun i => by
      unfold psJ
      exact Nat.le_trans (List.length_filterMap_le _ _) (by rw [List.length_range]; exact Nat.le_refl _)
    refine ⟨_, rfl, _, rfl, by omega, by omega, ?_⟩
    rw [Int.toNat_natCast]
    refine for_range (lo := 0) (n := n) (fun i σ G => ∃ (v4 v5 v6 v7 : Option V) (us : List Addr), σ = [some (.ref q), some (.int (n : Int)), some (.ref r), some (.ref D), v4, v5, v6, v7] ∧ (∀ x o, x ≠ D → H1 x = some o → G x = some o) ∧ G D = some (.lst (us.map V.ref)) ∧ us.length = ((psJ ps i).map (outP A0)).length ∧ ∀ (j : Nat) (t : Addr) (c : Bool × List Nat), us[j]? = some t → ((psJ ps i).map (outP A0))[j]? = some c → PrtAt G t c ∧ ∀ l, G t = some (.tup [.str (wE (rgB c.1)), .ref l]) → l ≠ D) ⟨none, none, none, none, [], rfl, fun _ _ _ h => h, hD0, rfl, (fun j t e z => by cases z)⟩ ?_ ?_
    · rintro i σ G hi ⟨v4, v5, v6, v7, us0, rfl, K0, hus0, ul0, uat0⟩
      rw [Int.zero_add]
      have jl := jlen i
      refine ⟨_, rfl, q, rfl, ⟨_, SqL.of (K0 _ _ nqD hts1)⟩, for_list (K := K) (a := q) (xs := ts.map V.ref) (fun j σ G => ∃ (v5 v6 v7 : Option V) (us : List Addr), σ = [some (.ref q), some (.int (n : Int)), some (.ref r), some (.ref D), some (.int (i : Int)), v5, v6, v7] ∧ (∀ x o, x ≠ D → H1 x = some o → G x = some o) ∧ G D = some (.lst (us.map V.ref)) ∧ us.length = (((psJ ps i) ++ (ps.take j).filter (fun p => isCR p && decide (mn p.2.1 = i))).map (outP A0)).length ∧ ∀ (m : Nat) (t : Addr) (c : Bool × List Nat), us[m]? = some t → (((psJ ps i) ++ (ps.take j).filter (fun p => isCR p && decide (mn p.2.1 = i))).map (outP A0))[m]? = some c → PrtAt G t c ∧ ∀ l, G t = some (.tup [.str (wE (rgB c.1)), .ref l]) → l ≠ D) ⟨v5, v6, v7, us0, rfl, K0, hus0, by rw [List.take_zero, List.filter_nil, List.append_nil]; exact ul0, by rw [List.take_zero, List.filter_nil, List.append_nil]; exact uat0⟩ (fun j σ G _ ⟨_, _, _, _, _, K1, _⟩ => SqL.of (K1 _ _ nqD hts1)) ?_ ?_⟩
      · rintro j x σ G hx ⟨v5, v6, v7, us, rfl, K1, hus, ul, uat⟩
        obtain ⟨t1, ht1, rfl⟩ := ref_at hx
        have il : j < ps.length := by have := (List.getElem?_eq_some_iff.mp ht1).1; omega
        have hp1 : ps[j]? = some ps[j] := List.getElem?_eq_getElem il
        obtain ⟨l, hT, hL⟩ := tat j _ _ ht1 hp1
        have mem := List.getElem_mem il
        have ok := C.ok _ mem
        have len := C.len mem
        have plt := C.lt mem
        have step : psJ ps i ++ (ps.take (j + 1)).filter (fun p => isCR p && decide (mn p.2.1 = i)) = psJ ps i ++ (ps.take j).filter (fun p => isCR p && decide (mn p.2.1 = i)) ++ (if (isCR ps[j] && decide (mn ps[j].2.1 = i)) = true then [ps[j]] else []) := by
          rw [List.take_add_one, hp1, List.filter_append, List.append_assoc]
          congr 2
          show List.filter _ [ps[j]] = _
          rw [List.filter_cons]
          split <;> rfl
        rw [step]
        have el : (psJ ps i ++ (ps.take j).filter (fun p => isCR p && decide (mn p.2.1 = i))).length ≤ 200 := by
          have h1 := List.length_filter_le (fun p : Pc => isCR p && decide (mn p.2.1 = i)) (ps.take j)
          rw [List.length_take] at h1
          rw [List.length_append]
          omega
        generalize psJ ps i ++ (ps.take j).filter (fun p => isCR p && decide (mn p.2.1 = i)) = fs at ul uat el ⊢
        generalize ps[j] = p at hT hL ok len plt ⊢
        have hTG := K1 _ _ (ne_of_none hT hD) (e0 _ _ hT)
        have hLG : ListN G l p.2.1 := K1 _ _ (ne_of_none (show H l = some _ from hL) hD) (e0 _ _ hL)
        have pw := ok.w
        have skip : (isCR p && decide (mn p.2.1 = i)) = false → ∀ G1, Ex G G1 → (∀ x o, x ≠ D → H1 x = some o → G1 x = some o) ∧ G1 D = some (.lst (us.map V.ref)) ∧ us.length = ((fs ++ (if (isCR p && decide (mn p.2.1 = i)) = true then [p] else [])).map (outP A0)).length ∧ ∀ (m : Nat) (t : Addr) (c : Bool × List Nat), us[m]? = some t → ((fs ++ (if (isCR p && decide (mn p.2.1 = i)) = true then [p] else [])).map (outP A0))[m]? = some c → PrtAt G1 t c ∧ ∀ l, G1 t = some (.tup [.str (wE (rgB c.1)), .ref l]) → l ≠ D := fun h G1 e1 => by
          rw [h, if_neg (by decide), List.append_nil]
          refine ⟨fun x o h1 h => e1 _ _ (K1 x o h1 h), e1 _ _ hus, ul, fun m t c a b => ?_⟩
          obtain ⟨⟨l', b1, b2⟩, b3⟩ := uat m t c a b
          refine ⟨⟨l', e1 _ _ b1, b2.ex e1⟩, fun l'' hl'' => ?_⟩
          have := b3 l' b1
          rw [e1 _ _ b1] at hl''
          cases hl''
          exact this
        refine ⟨t1, _, rfl, SqL.of hTG, rfl, _, _, rfl, _, _, rfl, _, _, rfl, rfl, ?_⟩
        refine ⟨_, rfl, (by show 2 ≤ sizeLine; decide), fun p0 hp0 => ?_⟩
        have eP := Ex.new (o := .lst [V.str (Str.ofString "chain"), V.str (Str.ofString "ring")]) hp0
        have hP : upd G p0 (.lst [V.str (Str.ofString "chain"), V.str (Str.ofString "ring")]) p0 = some (.lst [V.str (Str.ofString "chain"), V.str (Str.ofString "ring")]) := upd_same
        generalize upd G p0 (.lst [V.str (Str.ofString "chain"), V.str (Str.ofString "ring")]) = G0 at eP hP ⊢
        refine ⟨p0, _, rfl, .inl (SqL.of hP), rfl, rfl, _, rfl, ?_⟩
        show if inV (V.str (w4 p.1)) [V.str (Str.ofString "chain"), V.str (Str.ofString "ring")] = true then _ else _
        rw [inCR _ pw]
        refine ite_b (fun c => ?_) (fun c => ?_)
        rotate_left
        · obtain ⟨a1, a2, a3, a4⟩ := skip (by unfold isCR; rw [c]; rfl) G0 eP
          exact ⟨_, _, _, us, rfl, a1, a2, a3, a4⟩
        have c' := of_decide_eq_true c
        have hLG0 := hLG.ex eP
        refine ⟨_, rfl, l, p.2.1, rfl, hLG0, ok.pos, by omega, fun G1 e1 => ?_⟩
        refine ⟨_, rfl, rfl, _, rfl, ?_⟩
        rw [deq]
        refine ite_b (fun c2 => ?_) (fun c2 => ?_)
        rotate_left
        · obtain ⟨a1, a2, a3, a4⟩ := skip (by rw [c2, Bool.and_false]) G1 (eP.trans e1)
          exact ⟨_, _, _, us, rfl, a1, a2, a3, a4⟩
        have cr : (isCR p && decide (mn p.2.1 = i)) = true := by unfold isCR; rw [c, c2]; rfl
        rw [cr, if_pos rfl, List.map_append]
        clear skip
        have e01 := eP.trans e1
        have hus1 := e01 _ _ hus
        have hrG1 : ListN G1 r A0 := e01 _ _ (K1 _ _ nrD hr1)
        refine ⟨_, rfl, Or.inl ⟨rfl, _, SqL.of hus1⟩, _, rfl, _, rfl, _, rfl, _, rfl, l, r, p, A0, rfl, hLG0.ex e1, hrG1, by omega, ?_, by omega, fun x hx => by rw [la]; exact plt x hx, fun u G2 hu e2 lu => ?_⟩
        · have h2 := ok.l2
          have h3 := ok.l3
          by_cases z : p.1 = 2
          · exact h2 z
          · have := h3 (by omega)
            omega
        refine ⟨(by show 2 ≤ sizeLine; decide), fun t ht => ?_⟩
        have eT := Ex.new (o := .tup [V.str (w4 p.1), V.ref u]) ht
        have hTt : upd G2 t (.tup [V.str (w4 p.1), V.ref u]) t = some (.tup [V.str (w4 p.1), V.ref u]) := upd_same
        have nuD : u ≠ D := fun z => by rw [z, hus1] at hu; cases hu
        have luT := lu.ex eT
        have hus3 := eT _ _ (e2 _ _ hus1)
        have e03 := (e01.trans e2).trans eT
        generalize upd G2 t (.tup [V.str (w4 p.1), V.ref u]) = G3 at hTt luT hus3 e03 ⊢
        refine ⟨_, _, _, rfl, rfl, hus3, small1000 (by rw [List.length_map, ul, List.length_map]; omega), ?_⟩
        have nD : ∀ x o, x ≠ D → G3 x = some o → upd G3 D (.lst (us.map V.ref ++ [V.ref t])) x = some o := fun x o h1 h => by
          rw [upd_ne h1]
          exact h
        have tD : ∀ x o, G3 x = some (.tup o) → x ≠ D := fun x o h z => by rw [z, hus3] at h; cases h
        refine ⟨_, _, _, us ++ [t], rfl, fun x o h1 h => nD _ _ h1 (e03 _ _ (K1 x o h1 h)), by rw [upd_same, List.map_append]; rfl, by rw [List.length_append, List.length_append, ul]; rfl, app_at ul (fun m t' c a b => ?_) ?_⟩
        · obtain ⟨⟨l', b1, b2⟩, b3⟩ := uat m t' c a b
          have nl := b3 l' b1
          have b1' := nD _ _ (tD _ _ (e03 _ _ b1)) (e03 _ _ b1)
          refine ⟨⟨l', b1', nD _ _ nl (e03 _ _ b2)⟩, fun l'' hl'' => ?_⟩
          rw [b1'] at hl''
          cases hl''
          exact nl
        · have hTt' := nD _ _ (tD _ _ hTt) hTt
          have same : w4 p.1 = wE (rgB (outP A0 p).1) := by
            have : p.1 = 2 ∨ p.1 = 3 := by omega
            unfold outP
            rcases this with h | h <;> rw [h] <;> rfl
          rw [same] at hTt'
          refine ⟨⟨u, hTt', nD _ _ nuD luT⟩, fun l'' hl'' => ?_⟩
          rw [hTt'] at hl''
          cases hl''
          exact nuD
      · rintro σ G ⟨v5, v6, v7, us, rfl, K1, hus, ul, uat⟩
        rw [show (ts.map V.ref).length = ps.length from by rw [List.length_map, tl], List.take_length, one_least C.nd C.ok] at ul uat
        have e : psJ ps i ++ (atJ ps i).toList = psJ ps (i + 1) := by
          rw [psJ_step]
          cases atJ ps i <;> rfl
        rw [e] at ul uat
        exact ⟨_, _, _, _, us, rfl, K1, hus, ul, uat⟩
    rintro σ G ⟨v4, v5, v6, v7, us, rfl, K1, hus, ul, uat⟩
    exact ⟨_, rfl, k D G hD (fun x o h => K1 x o (ne_of_none h hD) (e0 _ _ h)) ⟨us, hus, ul, fun j t c a b => (uat j t c a b).1⟩⟩

end

section
variable {P : Program} {w : World} {K : PySem.W.Frag} {mg : Str → Option Value} {base : Heap} {A : Ad}
theorem ok_law_canonical (T : Txt K mg A)  (g_law_least : Okd P w K mg base CX0 1 A.law_least P_law_least spLst) : Okd P w K mg base CX0 2 A.law_canonical P_law_canonical spCan := by
  obtain ⟨fd, F⟩ := T.d_law_canonical
  obtain ⟨fd_law_least, G_law_least, b_law_least⟩ := g_law_least
  refine ⟨fd, F.ok sc_law_canonical (fun vs H Q E h => ?_) (fun cdv A' outer s H vs Q E hr h => ?_), F.binds fun _ _ _ _ _ _ us hl => match us, hl with | [_, _, _], _ => rfl⟩
  · obtain ⟨l, r, p, A0, rfl, _⟩ := h
    rfl
  · obtain ⟨l, r, p, A0, rfl, hl, hr0, hw, h2, h64, lt, k⟩ := h
    refine ⟨_, (pss_cons (ps_if (pt_cmpR op_eq (pv 0) pe_str (nomark _)) (pss_cons (ps_if (pt_cmpR op_lt (pe_ix ix_list (pv 1) (pe_un un_neg pe_int) (fun _ _ => rfl)) (pe_ix ix_list (pv 1) pe_int (fun _ _ => rfl)) (nomark _)) (pss_one (ps_ret (StK.pe_back (pv 1) (pe_un un_neg pe_int)))) pss_nil)
      (pss_one (ps_ret (pe_callTy call_list_of (by rfl) T.n_list (by decide +kernel) (pa_cons (pv 1) pa_nil))))) pss_nil)
      (pss_cons (ps_set (i := 3) sc_law_canonical.nd rfl (Or.inl rfl) (pe_bm PySem.F.plainAttrs_list PySem.F.slot_list_index PySem.F.type_list_index mt_index (pv 1) (pa_cons (pe_call G_law_least (hr.mono (by decide)) (by rfl) T.g_law_least T.k_law_least b_law_least .nil pass0 (pa_cons (pv 1) pa_nil)) pa_nil)))
      (pss_cons (ps_set (i := 4) sc_law_canonical.nd rfl (Or.inl rfl) (pe_op op_cat (pe_slice sl_list (pv 1) (po_some (pv 3)) po_none) (pe_slice sl_list (pv 1) po_none (po_some (pv 3)))))
      (pss_cons (ps_if (pt_cmpR op_ne (pe_ix ix_list (pv 2) (pe_ix ix_list (pv 4) pe_int (fun _ _ => rfl)) (fun _ _ => rfl)) (pe_ix ix_list (pv 4) pe_int (fun _ _ => rfl)) (nomark _)) (pss_one (ps_set (i := 4) sc_law_canonical.nd rfl (Or.inl rfl) (pe_op op_cat (pe_slice sl_list (pv 4) po_none (po_some pe_int)) (DaS.pe_low (pv 4) pe_int (pe_un un_neg pe_int))))) pss_nil)
      (pss_one (ps_ret (pv 4))))))), ?_⟩
    have pw4 : p.1 < 4 := by omega
    have pos : 0 < p.2.1.length := by omega
    refine ⟨_, rfl, rfl, _, rfl, ?_⟩
    rw [w4_chain pw4]
    refine ite_b (fun c => ?_) (fun c => ?_)
    · have c := of_decide_eq_true c
      unfold canonP at k
      rw [if_pos c] at k
      refine ⟨_, rfl, _, rfl, l, _, _, _, rfl, rfl, hl.sz, atLast pos, _, rfl, l, _, _, _, rfl, rfl, hl.sz, (show atI (nI p.2.1) ((0 : Nat) : Int) = some (V.int ((gt p.2.1 0 : Nat) : Int)) from atN pos), _, _, rfl, rfl, _, rfl, ?_⟩
      refine ite_b (fun c2 => ?_) (fun c2 => ?_)
      · have c2 := of_decide_eq_true c2
        rw [if_pos (by omega)] at k
        refine ⟨_, rfl, _, rfl, rfl, l, _, rfl, hl.sz, fun q hq => ?_⟩
        rw [rev_nI]
        exact k q _ hq (Ex.new hq) upd_same
      · have c2 := of_decide_eq_false c2
        rw [if_neg (by omega)] at k
        exact ⟨_, rfl, l, _, rfl, Or.inl hl.sz, fun q hq => k q _ hq (Ex.new hq) upd_same⟩
    have c := of_decide_eq_false c
    unfold canonP at k
    rw [if_neg c] at k
    have mm : mn p.2.1 ∈ p.2.1 := mn_mem (fun z => by rw [z] at pos; cases pos)
    obtain ⟨idl, ide⟩ := idx_gt mm
    have noi : ∀ m, m < p.2.1.idxOf (mn p.2.1) → gt p.2.1 m ≠ mn p.2.1 := fun m hm e => by
      have := List.not_of_lt_findIdx hm
      have hml : m < p.2.1.length := by omega
      unfold gt at e
      rw [List.getD_eq_getElem?_getD, List.getElem?_eq_getElem hml] at e
      have e : p.2.1[m] = mn p.2.1 := e
      rw [e] at this
      simp at this
    refine ⟨_, rfl, Or.inl ⟨rfl, _, hl.sz⟩, _, rfl, l, p.2.1, rfl, hl, pos, h64, fun H1 e1 => ?_⟩
    refine ⟨l, nI p.2.1, _, p.2.1.idxOf (mn p.2.1), _, rfl, rfl, (hl.ex e1).sz, rfl, flat_nI _, ixN_ idl, eqV_nat.mpr ide, fun m z' hm hz => ?_, ?_⟩
    · obtain ⟨hml, rfl⟩ := nat_at hz
      have n := noi m hm
      cases z : eqV (V.int ((p.2.1.getD m 0 : Nat) : Int)) (V.int ((mn p.2.1 : Nat) : Int)) with
      | false => rfl
      | true => exact absurd (eqV_nat.mp z) n
    generalize p.2.1.idxOf (mn p.2.1) = at_ at idl k ⊢
    have hl1 := hl.ex e1
    have hr1 := hr0.ex e1
    refine ⟨_, rfl, _, rfl, _, rfl, l, _, rfl, hl1.sz, fun q1 hq1 => ?_⟩
    rw [show cutV (nI p.2.1) (some ((at_ : Nat) : Int)) none = nI (p.2.1.drop at_) from cutDrop (Nat.le_of_lt idl)]
    have s1 : ListN (upd H1 q1 (.lst (nI (p.2.1.drop at_)))) q1 (p.2.1.drop at_) := upd_same
    have e2 := e1.trans (Ex.new (o := .lst (nI (p.2.1.drop at_))) hq1)
    generalize upd H1 q1 (.lst (nI (p.2.1.drop at_))) = H2 at s1 e2 ⊢
    refine ⟨_, rfl, _, rfl, _, rfl, l, _, rfl, (hl.ex e2).sz, fun q2 hq2 => ?_⟩
    rw [show cutV (nI p.2.1) none (some ((at_ : Nat) : Int)) = nI (p.2.1.take at_) from cutTake (Nat.le_of_lt idl)]
    have s2 : ListN (upd H2 q2 (.lst (nI (p.2.1.take at_)))) q2 (p.2.1.take at_) := upd_same
    have s1' := s1.ex (Ex.new (o := .lst (nI (p.2.1.take at_))) hq2)
    have e3 := e2.trans (Ex.new (o := .lst (nI (p.2.1.take at_))) hq2)
    generalize upd H2 q2 (.lst (nI (p.2.1.take at_))) = H3 at s1' s2 e3 ⊢
    have fll : (p.2.1.drop at_ ++ p.2.1.take at_).length = p.2.1.length := by
      rw [List.length_append, List.length_drop, List.length_take]
      omega
    refine ⟨q1, q2, _, _, rfl, rfl, s1', s2, (by rw [nI_len, nI_len, ← List.length_append, fll]; exact Nat.le_trans h64 (show 64 ≤ sizeLine by decide)), fun p3 hp3 => ?_⟩
    rw [cat_nI]
    have fin : ∀ x ∈ p.2.1.drop at_ ++ p.2.1.take at_, x < A0.length := fun x hx => by
      rcases List.mem_append.mp hx with hx | hx
      · exact lt x (List.mem_of_mem_drop hx)
      · exact lt x (List.mem_of_mem_take hx)
    generalize p.2.1.drop at_ ++ p.2.1.take at_ = fo at fll fin k ⊢
    have fp3 := back_none e3 hp3
    have s3 : ListN (upd H3 p3 (.lst (nI fo))) p3 fo := upd_same
    have e4 := e3.trans (Ex.new (o := .lst (nI fo)) hp3)
    generalize upd H3 p3 (.lst (nI fo)) = H4 at s3 e4 ⊢
    refine ⟨_, rfl, _, rfl, p3, _, _, _, rfl, rfl, s3.sz, (show atI (nI fo) ((0 : Nat) : Int) = some (V.int ((gt fo 0 : Nat) : Int)) from atN (by omega)), r, _, _, _, rfl, rfl, (hr0.ex e4).sz, atN (fin _ (gt_mem (by omega))), _, rfl, p3, _, _, _, rfl, rfl, s3.sz, (show atI (nI fo) ((1 : Nat) : Int) = some (V.int ((gt fo 1 : Nat) : Int)) from atN (by omega)), rfl, _, rfl, ?_⟩
    rw [dne]
    refine ite_b (fun c2 => ?_) (fun c2 => ?_)
    · have c2 := of_decide_eq_true c2
      have c2 : gt A0 (gt fo 0) ≠ gt fo 1 := c2
      rw [if_pos c2] at k
      refine ⟨_, rfl, _, rfl, p3, _, rfl, s3.sz, fun q4 hq4 => ?_⟩
      rw [show cutV (nI fo) none (some (1 : Int)) = nI (fo.take 1) from cutTake (k := 1) (by omega)]
      have s4 : ListN (upd H4 q4 (.lst (nI (fo.take 1)))) q4 (fo.take 1) := upd_same
      have e5 := e4.trans (Ex.new (o := .lst (nI (fo.take 1))) hq4)
      have s3' := s3.ex (Ex.new (o := .lst (nI (fo.take 1))) hq4)
      generalize upd H4 q4 (.lst (nI (fo.take 1))) = H5 at s4 e5 s3' ⊢
      refine ⟨_, rfl, rfl, _, rfl, rfl, p3, _, rfl, s3'.sz, fun q5 hq5 => ?_⟩
      rw [tail_nI, rev_nI]
      have s5 : ListN (upd H5 q5 (.lst (nI fo.tail.reverse))) q5 fo.tail.reverse := upd_same
      have e6 := e5.trans (Ex.new (o := .lst (nI fo.tail.reverse)) hq5)
      have s4' := s4.ex (Ex.new (o := .lst (nI fo.tail.reverse)) hq5)
      generalize upd H5 q5 (.lst (nI fo.tail.reverse)) = H6 at s5 e6 s4' ⊢
      refine ⟨q4, q5, _, _, rfl, rfl, s4', s5, (by rw [nI_len, nI_len, List.length_take, List.length_reverse, List.length_tail]; exact Nat.le_trans (by omega) (show 100 ≤ sizeLine by decide)), fun q6 hq6 => ?_⟩
      rw [cat_nI]
      exact ⟨_, rfl, k q6 _ (back_none e6 hq6) (e6.trans (Ex.new hq6)) upd_same⟩
    · have c2 := Decidable.not_not.mp (of_decide_eq_false c2)
      have c2 : gt A0 (gt fo 0) = gt fo 1 := c2
      rw [if_neg (fun h => h c2)] at k
      exact ⟨_, rfl, k p3 H4 fp3 e4 s3⟩

end

section
variable {P : Program} {w : World} {K : PySem.W.Frag} {mg : Str → Option Value} {base : Heap} {A : Ad}
theorem ok_law_least (T : Txt K mg A)   : Okd P w K mg base CX0 1 A.law_least P_law_least spLst := by
  obtain ⟨fd, F⟩ := T.d_law_least

  refine ⟨fd, F.ok sc_law_least (fun vs H Q E h => ?_) (fun cdv A' outer s H vs Q E hr h => ?_), F.binds fun _ _ _ _ _ _ us hl => match us, hl with | [_], _ => rfl⟩
  · obtain ⟨l, xs, rfl, _⟩ := h
    rfl
  · obtain ⟨l, xs, rfl, hl, h0, h64, k⟩ := h
    refine ⟨_, (pss_cons (ps_set (i := 1) sc_law_least.nd rfl (Or.inl rfl) (pe_ix ix_list (pv 0) pe_int (fun _ _ => rfl)))
      (pss_cons (ps_for PassesOwn.never rfl (pi_list (pv 0)) (pg_name (i := 2) sc_law_least.nd rfl (Or.inl rfl)) (pss_one (ps_if (pt_cmpR op_lt (pv 2) (pv 1) (nomark _)) (pss_one (ps_set (i := 1) sc_law_least.nd rfl (Or.inl rfl) (pv 2))) pss_nil)))
      (pss_one (ps_ret (pv 1))))), ?_⟩
    refine ⟨_, rfl, l, _, _, _, rfl, rfl, hl.sz, (show atI (nI xs) ((0 : Nat) : Int) = some (V.int ((gt xs 0 : Nat) : Int)) from atN h0), ?_⟩
    refine ⟨_, rfl, l, rfl, ⟨_, hl.sz⟩, for_list (K := K) (a := l) (xs := nI xs) (fun i σ G => ∃ (m : Nat) (v2 : Option V), σ = [some (.ref l), some (.int (m : Int)), v2] ∧ Ex H G ∧ m ∈ xs ∧ ∀ j, j < i → m ≤ gt xs j) ⟨gt xs 0, none, rfl, Ex.refl H, gt_mem h0, fun j hj => absurd hj (Nat.not_lt_zero _)⟩ (fun i σ G _ ⟨_, _, _, e, _⟩ => (hl.ex e).sz) ?_ ?_⟩
    · rintro i x σ G hx ⟨m, v2, rfl, e, hm, lo⟩
      obtain ⟨hi, rfl⟩ := nat_at hx
      refine ⟨_, rfl, _, rfl, _, _, rfl, rfl, _, rfl, ?_⟩
      refine ite_b (fun c => ?_) (fun c => ?_)
      · have c := of_decide_eq_true c
        refine ⟨_, rfl, gt xs i, _, rfl, e, gt_mem hi, fun j hj => ?_⟩
        have c : ((gt xs i : Nat) : Int) < (m : Int) := c
        by_cases z : j = i
        · rw [z]; exact Nat.le_refl _
        · have := lo j (by omega)
          omega
      · have c := of_decide_eq_false c
        have c : ¬ ((gt xs i : Nat) : Int) < (m : Int) := c
        refine ⟨m, _, rfl, e, hm, fun j hj => ?_⟩
        by_cases z : j = i
        · rw [z]; omega
        · exact lo j (by omega)
    rintro σ G ⟨m, v2, rfl, e, hm, lo⟩
    rw [nI_len] at lo
    have m1 := mn_le hm
    have m2 : mn xs ∈ xs := mn_mem (fun z => by rw [z] at hm; cases hm)
    obtain ⟨j, hj, ej⟩ := mem_getD m2
    have m3 : m ≤ mn xs := by
      have := lo j hj
      rw [show gt xs j = mn xs from ej] at this
      exact this
    have em : m = mn xs := by omega
    rw [em]
    exact ⟨_, rfl, k G e⟩

end

section
variable {P : Program} {w : World} {K : PySem.W.Frag} {mg : Str → Option Value} {base : Heap} {A : Ad}
theorem ok_law_parts_told (T : Txt K mg A)  (g_law_row : Okd P w K mg base CX0 2 A.law_row P_law_row spRw) : Okd P w K mg base CX0 3 A.law_parts_told P_law_parts_told spPtd := by
  obtain ⟨fd, F⟩ := T.d_law_parts_told
  obtain ⟨fd_law_row, G_law_row, b_law_row⟩ := g_law_row
  refine ⟨fd, F.ok sc_law_parts_told (fun vs H Q E h => ?_) (fun cdv A' outer s H vs Q E hr h => ?_), F.binds fun _ _ _ _ _ _ us hl => match us, hl with | [_, _], _ => rfl⟩
  · obtain ⟨t, d, cs, rfl, _⟩ := h
    rfl
  · obtain ⟨t, d, cs, rfl, ht, hd, hl, hc, k⟩ := h
    refine ⟨_, (pss_cons (ps_if (PW.pt (pw_or (pt_not (pt_val (pe_callB call_isi (by rfl) T.n_isinstance (by decide +kernel) (pa_cons (pv 0) (pa_cons (pe_bltn (v := .ty "list") (u := .type "list") (by rfl) T.n_list (by decide +kernel) rfl) pa_nil))))) (pw_or1 (pt_cmpR op_ne (pe_callB call_len_seq (by rfl) T.n_len PySem.boot_len (pa_cons (pv 0) pa_nil)) (pe_callB call_len_seq (by rfl) T.n_len PySem.boot_len (pa_cons (pv 1) pa_nil)) (nomark _))))) (pss_one (ps_ret pe_bl)) pss_nil)
      (pss_cons (ps_for PassesOwn.never rfl (pi_range1 (by rfl) T.n_range (pa_cons (pe_callB call_len_seq (by rfl) T.n_len PySem.boot_len (pa_cons (pv 1) pa_nil)) pa_nil)) (pg_name (i := 2) sc_law_parts_told.nd rfl (Or.inl rfl)) (pss_cons (ps_if (PW.pt (pw_or (pt_not (pt_val (pe_callB call_isi (by rfl) T.n_isinstance (by decide +kernel) (pa_cons (pe_ix ix_list (pv 0) (pv 2) (fun _ _ => rfl)) (pa_cons (pe_bltn (v := .ty "tuple") (u := .type "tuple") (by rfl) T.n_tuple (by decide +kernel) rfl) pa_nil))))) (pw_or1 (pt_cmpR op_ne (pe_callB call_len_seq (by rfl) T.n_len PySem.boot_len (pa_cons (pe_ix ix_list (pv 0) (pv 2) (fun _ _ => rfl)) pa_nil)) pe_int (nomark _))))) (pss_one (ps_ret pe_bl)) pss_nil)
      (pss_cons (ps_if (PW.pt (pw_or (pt_not (pt_val (pe_callB call_isi (by rfl) T.n_isinstance (by decide +kernel) (pa_cons (pe_ix ix_tup (pe_ix ix_list (pv 0) (pv 2) (fun _ _ => rfl)) pe_int (fun _ _ => rfl)) (pa_cons (pe_bltn (v := .ty "str") (u := .type "str") (by rfl) T.n_str (by decide +kernel) rfl) pa_nil))))) (pw_or1 (pt_cmpR op_ne (pe_ix ix_tup (pe_ix ix_list (pv 0) (pv 2) (fun _ _ => rfl)) pe_int (fun _ _ => rfl)) (pe_ix ix_tup (pe_ix ix_list (pv 1) (pv 2) (fun _ _ => rfl)) pe_int (fun _ _ => rfl)) (nomark _))))) (pss_one (ps_ret pe_bl)) pss_nil)
      (pss_one (ps_if (pt_not (pt_val (pe_call G_law_row (hr.mono (by decide)) (by rfl) T.g_law_row T.k_law_row b_law_row .nil pass0 (pa_cons (pe_ix ix_tup (pe_ix ix_list (pv 0) (pv 2) (fun _ _ => rfl)) pe_int (fun _ _ => rfl)) (pa_cons (pe_ix ix_tup (pe_ix ix_list (pv 1) (pv 2) (fun _ _ => rfl)) pe_int (fun _ _ => rfl)) pa_nil))))) (pss_one (ps_ret pe_bl)) pss_nil)))))
      (pss_one (ps_ret pe_bl)))), ?_⟩
    obtain ⟨ts, hts, tl, tat⟩ := ht
    obtain ⟨ds, hds, dl, dat⟩ := hd
    refine ⟨_, rfl, _, _, _, _, true, rfl, ClsV.ty "list", TyX.base (TyOf.lst hts), kit_ty (by decide +kernel), ?_⟩
    refine ⟨true, rfl, ?_⟩
    refine iteF ?_
    refine ⟨_, rfl, t, _, rfl, .inl (SqL.of hts), _, rfl, d, _, rfl, .inl (SqL.of hds), rfl, _, rfl, ?_⟩
    rw [dne, List.length_map, List.length_map, tl, dl, show decide (cs.length ≠ cs.length) = false from decide_eq_false (fun h => h rfl)]
    refine iteF ?_
    refine ⟨_, rfl, d, _, rfl, .inl (SqL.of hds), _, rfl, by rw [List.length_map, dl]; omega, by rw [List.length_map, dl]; omega, ?_⟩
    rw [List.length_map, dl, Int.toNat_natCast]
    refine for_range (lo := 0) (n := cs.length) (fun i σ G => ∃ v2, σ = [some (.ref t), some (.ref d), v2] ∧ Ex H G) ⟨none, rfl, Ex.refl H⟩ ?_ ?_
    · rintro i σ G hi ⟨v2, rfl, e⟩
      rw [Int.zero_add]
      have t1 : ts[i]? = some ts[i] := List.getElem?_eq_getElem (by omega)
      have d1 : ds[i]? = some ds[i] := List.getElem?_eq_getElem (by omega)
      have c1 : cs[i]? = some cs[i] := List.getElem?_eq_getElem hi
      have cl := hc _ (List.getElem_mem hi)
      obtain ⟨l1, p1, q1⟩ := tat i _ _ t1 c1
      obtain ⟨l2, p2, q2⟩ := dat i _ _ d1 c1
      generalize cs[i] = c at p1 q1 p2 q2 cl
      generalize ts[i] = ti at p1 t1
      generalize ds[i] = di at p2 d1
      have htG := e _ _ hts
      have hdG := e _ _ hds
      have p1G := e _ _ p1
      have p2G := e _ _ p2
      refine ⟨_, rfl, _, rfl, t, _, _, _, rfl, rfl, SqL.of htG, atR t1, _, _, _, _, true, rfl, ClsV.ty "tuple", TyX.base (TyOf.tup p1G), kit_ty (by decide +kernel), ?_⟩
      refine ⟨true, rfl, ?_⟩
      refine iteF ?_
      refine ⟨_, rfl, _, rfl, t, _, _, _, rfl, rfl, SqL.of htG, atR t1, ti, _, rfl, .inr (SqT.of p1G), rfl, _, rfl, ?_⟩
      refine ifF (ndec rfl) ?_
      refine ⟨_, rfl, _, rfl, t, _, _, _, rfl, rfl, SqL.of htG, atR t1, ti, _, _, _, rfl, rfl, SqT.of p1G, atI_nat (j := 0) rfl, _, _, _, _, true, rfl, ClsV.ty "str", TyX.base (TyOf.str _), kit_ty (by decide +kernel), ?_⟩
      refine ⟨true, rfl, ?_⟩
      refine iteF ?_
      refine ⟨_, rfl, _, rfl, t, _, _, _, rfl, rfl, SqL.of htG, atR t1, ti, _, _, _, rfl, rfl, SqT.of p1G, atI_nat (j := 0) rfl, _, rfl, _, rfl, d, _, _, _, rfl, rfl, SqL.of hdG, atR d1, di, _, _, _, rfl, rfl, SqT.of p2G, atI_nat (j := 0) rfl, rfl, _, rfl, ?_⟩
      refine ifF (ndec rfl) ?_
      refine ⟨_, rfl, _, rfl, t, _, _, _, rfl, rfl, SqL.of htG, atR t1, ti, _, _, _, rfl, rfl, SqT.of p1G, atI_nat (j := 1) rfl, _, rfl, _, rfl, d, _, _, _, rfl, rfl, SqL.of hdG, atR d1, di, _, _, _, rfl, rfl, SqT.of p2G, atI_nat (j := 1) rfl, l1, l2, _, rfl, q1.ex e, q2.ex e, cl, fun H' e' => ⟨true, rfl, ?_⟩⟩
      exact iteF ⟨_, rfl, e.trans e'⟩
    · rintro σ G ⟨v2, rfl, e⟩
      exact k G e

end

section
variable {P : Program} {w : World} {K : PySem.W.Frag} {mg : Str → Option Value} {base : Heap} {A : Ad}
theorem ok_law_kind_told (T : Txt K mg A)  (g_law_whole : Okd P w K mg base CX0 1 A.law_whole P_law_whole spWh) : Okd P w K mg base CX0 2 A.law_kind_told P_law_kind_told spKtd := by
  obtain ⟨fd, F⟩ := T.d_law_kind_told
  obtain ⟨fd_law_whole, G_law_whole, b_law_whole⟩ := g_law_whole
  refine ⟨fd, F.ok sc_law_kind_told (fun vs H Q E h => ?_) (fun cdv A' outer s H vs Q E hr h => ?_), F.binds fun _ _ _ _ _ _ us hl => match us, hl with | [_, _], _ => rfl⟩
  · obtain ⟨t, d, es, rfl, _⟩ := h
    rfl
  · obtain ⟨t, d, es, rfl, ht, hd, hl, k⟩ := h
    refine ⟨_, (pss_cons (ps_if (PW.pt (pw_or (pt_not (pt_val (pe_callB call_isi (by rfl) T.n_isinstance (by decide +kernel) (pa_cons (pv 0) (pa_cons (pe_bltn (v := .ty "tuple") (u := .type "tuple") (by rfl) T.n_tuple (by decide +kernel) rfl) pa_nil))))) (pw_or1 (pt_cmpR op_ne (pe_callB call_len_seq (by rfl) T.n_len PySem.boot_len (pa_cons (pv 0) pa_nil)) (pe_callB call_len_seq (by rfl) T.n_len PySem.boot_len (pa_cons (pv 1) pa_nil)) (nomark _))))) (pss_one (ps_ret pe_bl)) pss_nil)
      (pss_cons (ps_for PassesOwn.never rfl (pi_range1 (by rfl) T.n_range (pa_cons (pe_callB call_len_seq (by rfl) T.n_len PySem.boot_len (pa_cons (pv 1) pa_nil)) pa_nil)) (pg_name (i := 2) sc_law_kind_told.nd rfl (Or.inl rfl)) (pss_cons (ps_if (PW.pt (pw_or (pt_not (pt_val (pe_callB call_isi (by rfl) T.n_isinstance (by decide +kernel) (pa_cons (pe_ix ix_tup (pv 0) (pv 2) (fun _ _ => rfl)) (pa_cons (pe_bltn (v := .ty "tuple") (u := .type "tuple") (by rfl) T.n_tuple (by decide +kernel) rfl) pa_nil))))) (pw_or1 (pt_cmpR op_ne (pe_callB call_len_seq (by rfl) T.n_len PySem.boot_len (pa_cons (pe_ix ix_tup (pv 0) (pv 2) (fun _ _ => rfl)) pa_nil)) pe_int (nomark _))))) (pss_one (ps_ret pe_bl)) pss_nil)
      (pss_cons (ps_if (PW.pt (pw_or (pt_not (pt_val (pe_callB call_isi (by rfl) T.n_isinstance (by decide +kernel) (pa_cons (pe_ix ix_tup (pe_ix ix_tup (pv 0) (pv 2) (fun _ _ => rfl)) pe_int (fun _ _ => rfl)) (pa_cons (pe_bltn (v := .ty "str") (u := .type "str") (by rfl) T.n_str (by decide +kernel) rfl) pa_nil))))) (pw_or1 (pt_cmpR op_ne (pe_ix ix_tup (pe_ix ix_tup (pv 0) (pv 2) (fun _ _ => rfl)) pe_int (fun _ _ => rfl)) (pe_ix ix_tup (pe_ix ix_list (pv 1) (pv 2) (fun _ _ => rfl)) pe_int (fun _ _ => rfl)) (nomark _))))) (pss_one (ps_ret pe_bl)) pss_nil)
      (pss_one (ps_if (PW.pt (pw_or (pt_not (pt_val (pe_call G_law_whole (hr.mono (by decide)) (by rfl) T.g_law_whole T.k_law_whole b_law_whole .nil pass0 (pa_cons (pe_ix ix_tup (pe_ix ix_tup (pv 0) (pv 2) (fun _ _ => rfl)) pe_int (fun _ _ => rfl)) (pa_cons (pe_ix ix_tup (pe_ix ix_list (pv 1) (pv 2) (fun _ _ => rfl)) pe_int (fun _ _ => rfl)) pa_nil))))) (pw_or1 (pt_not (pt_val (pe_call G_law_whole (hr.mono (by decide)) (by rfl) T.g_law_whole T.k_law_whole b_law_whole .nil pass0 (pa_cons (pe_ix ix_tup (pe_ix ix_tup (pv 0) (pv 2) (fun _ _ => rfl)) pe_int (fun _ _ => rfl)) (pa_cons (pe_ix ix_tup (pe_ix ix_list (pv 1) (pv 2) (fun _ _ => rfl)) pe_int (fun _ _ => rfl)) pa_nil)))))))) (pss_one (ps_ret pe_bl)) pss_nil)))))
      (pss_one (ps_ret pe_bl)))), ?_⟩
    obtain ⟨ts, hts, tl, tat⟩ := ht
    obtain ⟨ds, hds, dl, dat⟩ := hd
    refine ⟨_, rfl, _, _, _, _, true, rfl, ClsV.ty "tuple", TyX.base (TyOf.tup hts), kit_ty (by decide +kernel), ?_⟩
    refine ⟨true, rfl, ?_⟩
    refine iteF ?_
    refine ⟨_, rfl, t, _, rfl, .inr (SqT.of hts), _, rfl, d, _, rfl, .inl (SqL.of hds), rfl, _, rfl, ?_⟩
    rw [dne, List.length_map, List.length_map, tl, dl, show decide (es.length ≠ es.length) = false from decide_eq_false (fun h => h rfl)]
    refine iteF ?_
    refine ⟨_, rfl, d, _, rfl, .inl (SqL.of hds), _, rfl, by rw [List.length_map, dl]; omega, by rw [List.length_map, dl]; omega, ?_⟩
    rw [List.length_map, dl, Int.toNat_natCast]
    refine for_range (lo := 0) (n := es.length) (fun i σ G => ∃ v2, σ = [some (.ref t), some (.ref d), v2] ∧ Ex H G) ⟨none, rfl, Ex.refl H⟩ ?_ ?_
    · rintro i σ G hi ⟨v2, rfl, e⟩
      rw [Int.zero_add]
      have t1 : ts[i]? = some ts[i] := List.getElem?_eq_getElem (by omega)
      have d1 : ds[i]? = some ds[i] := List.getElem?_eq_getElem (by omega)
      have c1 : es[i]? = some es[i] := List.getElem?_eq_getElem hi
      have p1 := tat i _ _ t1 c1
      have p2 := dat i _ _ d1 c1
      generalize es[i] = c at p1 p2
      generalize ts[i] = ti at p1 t1
      generalize ds[i] = di at p2 d1
      have htG := e _ _ hts
      have hdG := e _ _ hds
      have p1G := e _ _ p1
      have p2G := e _ _ p2
      refine ⟨_, rfl, _, rfl, t, _, _, _, rfl, rfl, SqT.of htG, atR t1, _, _, _, _, true, rfl, ClsV.ty "tuple", TyX.base (TyOf.tup p1G), kit_ty (by decide +kernel), ?_⟩
      refine ⟨true, rfl, ?_⟩
      refine iteF ?_
      refine ⟨_, rfl, _, rfl, t, _, _, _, rfl, rfl, SqT.of htG, atR t1, ti, _, rfl, .inr (SqT.of p1G), rfl, _, rfl, ?_⟩
      refine ifF (ndec rfl) ?_
      refine ⟨_, rfl, _, rfl, t, _, _, _, rfl, rfl, SqT.of htG, atR t1, ti, _, _, _, rfl, rfl, SqT.of p1G, atI_nat (j := 0) rfl, _, _, _, _, true, rfl, ClsV.ty "str", TyX.base (TyOf.str _), kit_ty (by decide +kernel), ?_⟩
      refine ⟨true, rfl, ?_⟩
      refine iteF ?_
      refine ⟨_, rfl, _, rfl, t, _, _, _, rfl, rfl, SqT.of htG, atR t1, ti, _, _, _, rfl, rfl, SqT.of p1G, atI_nat (j := 0) rfl, _, rfl, _, rfl, d, _, _, _, rfl, rfl, SqL.of hdG, atR d1, di, _, _, _, rfl, rfl, SqT.of p2G, atI_nat (j := 0) rfl, rfl, _, rfl, ?_⟩
      refine ifF (ndec rfl) ?_
      refine ⟨_, rfl, _, rfl, t, _, _, _, rfl, rfl, SqT.of htG, atR t1, ti, _, _, _, rfl, rfl, SqT.of p1G, atI_nat (j := 1) rfl, _, rfl, _, rfl, d, _, _, _, rfl, rfl, SqL.of hdG, atR d1, di, _, _, _, rfl, rfl, SqT.of p2G, atI_nat (j := 1) rfl, c.2.1, c.2.1, rfl, ?_⟩
      refine ⟨_, rfl, ?_⟩
      refine ifF (ndec rfl) ?_
      refine ⟨_, rfl, _, rfl, t, _, _, _, rfl, rfl, SqT.of htG, atR t1, ti, _, _, _, rfl, rfl, SqT.of p1G, atI_nat (j := 2) rfl, _, rfl, _, rfl, d, _, _, _, rfl, rfl, SqL.of hdG, atR d1, di, _, _, _, rfl, rfl, SqT.of p2G, atI_nat (j := 2) rfl, c.2.2, c.2.2, rfl, ?_⟩
      refine ⟨_, rfl, ?_⟩
      refine ifF (ndec rfl) ?_
      exact ⟨_, rfl, e⟩
    · rintro σ G ⟨v2, rfl, e⟩
      exact k G e

end

section
variable {P : Program} {w : World} {K : PySem.W.Frag} {mg : Str → Option Value} {base : Heap} {A : Ad}
theorem ok_law_whole (T : Txt K mg A)   : Okd P w K mg base CX0 1 A.law_whole P_law_whole spWh := by
  obtain ⟨fd, F⟩ := T.d_law_whole

  refine ⟨fd, F.ok sc_law_whole (fun vs H Q E h => ?_) (fun cdv A' outer s H vs Q E hr h => ?_), F.binds fun _ _ _ _ _ _ us hl => match us, hl with | [_, _], _ => rfl⟩
  · obtain ⟨i, j, rfl, _⟩ := h
    rfl
  · obtain ⟨i, j, rfl, k⟩ := h
    refine ⟨_, (pss_one (ps_ret (pe_and (pe_callB call_isi (by rfl) T.n_isinstance (by decide +kernel) (pa_cons (pv 0) (pa_cons (pe_bltn (v := .ty "int") (u := .type "int") (by rfl) T.n_int (by decide +kernel) rfl) pa_nil))) (pe_and (pe_not (pe_callB call_isi (by rfl) T.n_isinstance (by decide +kernel) (pa_cons (pv 0) (pa_cons (pe_bltn (v := .ty "bool") (u := .type "bool") (by rfl) T.n_bool (by decide +kernel) rfl) pa_nil)))) (pe_one (pe_cmpR op_eq (pv 0) (pv 1) (nomark _))))))), ?_⟩
    refine ⟨_, rfl, _, _, _, _, true, rfl, ClsV.ty "int", TyX.base (TyOf.int _), kit_ty (by decide +kernel), ?_⟩
    refine ⟨true, rfl, ?_⟩
    refine iteT ?_
    refine ⟨_, rfl, _, _, _, _, false, rfl, ClsV.ty "bool", TyX.base (TyOf.int _), kit_ty (by decide +kernel), ?_⟩
    refine ⟨false, rfl, ?_⟩
    refine ⟨_, rfl, iteT ?_⟩
    exact ⟨_, rfl, _, rfl, rfl, by rw [show decide (V.int i = V.int j) = decide (i = j) from by
      by_cases c : i = j
      · rw [c, decide_eq_true rfl, decide_eq_true rfl]
      · rw [decide_eq_false c, decide_eq_false (fun h => by injection h with h; exact c h)]]; exact k⟩

end

section
variable {P : Program} {w : World} {K : PySem.W.Frag} {mg : Str → Option Value} {base : Heap} {A : Ad}
theorem okh_law_whole (T : Txt K mg A)   : Okh P w K mg base CX0 1 A.law_whole P_law_whole spWh := by
  obtain ⟨fd, F⟩ := T.d_law_whole

  refine ⟨fd, F.okH sc_law_whole (fun vs H Q E h => ?_) (fun cdv A' outer s H vs Q E p hot hr h => ?_), F.binds fun _ _ _ _ _ _ us hl => match us, hl with | [_, _], _ => rfl⟩
  · obtain ⟨i, j, rfl, _⟩ := h
    rfl
  · obtain ⟨i, j, rfl, k⟩ := h
    refine ⟨_, (pss_one (ps_ret (pe_and (pe_callB call_isi (by rfl) T.n_isinstance (by decide +kernel) (pa_cons (pv 0) (pa_cons (pe_bltn (v := .ty "int") (u := .type "int") (by rfl) T.n_int (by decide +kernel) rfl) pa_nil))) (pe_and (pe_not (pe_callB call_isi (by rfl) T.n_isinstance (by decide +kernel) (pa_cons (pv 0) (pa_cons (pe_bltn (v := .ty "bool") (u := .type "bool") (by rfl) T.n_bool (by decide +kernel) rfl) pa_nil)))) (pe_one (pe_cmpR op_eq (pv 0) (pv 1) (nomark _))))))), ?_⟩
    refine ⟨_, rfl, _, _, _, _, true, rfl, ClsV.ty "int", TyX.base (TyOf.int _), kit_ty (by decide +kernel), ?_⟩
    refine ⟨true, rfl, ?_⟩
    refine iteT ?_
    refine ⟨_, rfl, _, _, _, _, false, rfl, ClsV.ty "bool", TyX.base (TyOf.int _), kit_ty (by decide +kernel), ?_⟩
    refine ⟨false, rfl, ?_⟩
    refine ⟨_, rfl, iteT ?_⟩
    exact ⟨_, rfl, _, rfl, rfl, by rw [show decide (V.int i = V.int j) = decide (i = j) from by
      by_cases c : i = j
      · rw [c, decide_eq_true rfl, decide_eq_true rfl]
      · rw [decide_eq_false c, decide_eq_false (fun h => by injection h with h; exact c h)]]; exact k⟩

end

section
variable {P : Program} {w : World} {K : PySem.W.Frag} {mg : Str → Option Value} {base : Heap} {A : Ad}
theorem ok_law_row (T : Txt K mg A)  (g_law_whole : Okd P w K mg base CX0 1 A.law_whole P_law_whole spWh) : Okd P w K mg base CX0 2 A.law_row P_law_row spRw := by
  obtain ⟨fd, F⟩ := T.d_law_row
  obtain ⟨fd_law_whole, G_law_whole, b_law_whole⟩ := g_law_whole
  refine ⟨fd, F.ok sc_law_row (fun vs H Q E h => ?_) (fun cdv A' outer s H vs Q E hr h => ?_), F.binds fun _ _ _ _ _ _ us hl => match us, hl with | [_, _], _ => rfl⟩
  · obtain ⟨t, d, xs, rfl, _⟩ := h
    rfl
  · obtain ⟨t, d, xs, rfl, ht, hd, hl, k⟩ := h
    refine ⟨_, (pss_cons (ps_if (PW.pt (pw_or (pt_not (pt_val (pe_callB call_isi (by rfl) T.n_isinstance (by decide +kernel) (pa_cons (pv 0) (pa_cons (pe_bltn (v := .ty "list") (u := .type "list") (by rfl) T.n_list (by decide +kernel) rfl) pa_nil))))) (pw_or1 (pt_cmpR op_ne (pe_callB call_len_seq (by rfl) T.n_len PySem.boot_len (pa_cons (pv 0) pa_nil)) (pe_callB call_len_seq (by rfl) T.n_len PySem.boot_len (pa_cons (pv 1) pa_nil)) (nomark _))))) (pss_one (ps_ret pe_bl)) pss_nil)
      (pss_cons (ps_for PassesOwn.never rfl (pi_range1 (by rfl) T.n_range (pa_cons (pe_callB call_len_seq (by rfl) T.n_len PySem.boot_len (pa_cons (pv 1) pa_nil)) pa_nil)) (pg_name (i := 2) sc_law_row.nd rfl (Or.inl rfl)) (pss_one (ps_if (pt_not (pt_val (pe_call G_law_whole (hr.mono (by decide)) (by rfl) T.g_law_whole T.k_law_whole b_law_whole .nil pass0 (pa_cons (pe_ix ix_list (pv 0) (pv 2) (fun _ _ => rfl)) (pa_cons (pe_ix ix_list (pv 1) (pv 2) (fun _ _ => rfl)) pa_nil))))) (pss_one (ps_ret pe_bl)) pss_nil)))
      (pss_one (ps_ret pe_bl)))), ?_⟩
    refine ⟨_, rfl, _, _, _, _, true, rfl, ClsV.ty "list", TyX.base (TyOf.lst ht), kit_ty (by decide +kernel), ?_⟩
    refine ⟨true, rfl, ?_⟩
    refine iteF ?_
    refine ⟨_, rfl, t, _, rfl, .inl ht.sz, _, rfl, d, _, rfl, .inl hd.sz, rfl, _, rfl, ?_⟩
    rw [show (!decide (V.int ((nI xs).length : Nat) = V.int ((nI xs).length : Nat))) = false from by simp]
    refine iteF ?_
    refine ⟨_, rfl, d, _, rfl, .inl hd.sz, _, rfl, by rw [nI_len]; omega, by rw [nI_len]; omega, ?_⟩
    rw [nI_len, Int.toNat_natCast]
    refine for_range (lo := 0) (n := xs.length) (fun i σ G => ∃ v2, σ = [some (.ref t), some (.ref d), v2] ∧ Ex H G) ⟨none, rfl, Ex.refl H⟩ ?_ ?_
    · rintro i σ G hi ⟨v2, rfl, e⟩
      rw [Int.zero_add]
      refine ⟨_, rfl, _, rfl, t, _, _, _, rfl, rfl, (ht.ex e).sz, atN hi, _, rfl, _, rfl, d, _, _, _, rfl, rfl, (hd.ex e).sz, atN hi, _, _, rfl, ?_⟩
      rw [decide_eq_true rfl]
      refine ⟨true, rfl, ?_⟩
      exact iteF ⟨_, rfl, e⟩
    · rintro σ G ⟨v2, rfl, e⟩
      exact k G e

end

section
variable {P : Program} {w : World} {K : PySem.W.Frag} {mg : Str → Option Value} {base : Heap} {A : Ad}
theorem ok_law_spoil (T : Txt K mg A)   : Okd P w K mg base CX0 1 A.law_spoil P_law_spoil spSpl := by
  obtain ⟨fd, F⟩ := T.d_law_spoil

  refine ⟨fd, F.ok sc_law_spoil (fun vs H Q E h => ?_) (fun cdv A' outer s H vs Q E hr h => ?_), F.binds fun _ _ _ _ _ _ us hl => match us, hl with | [_], _ => rfl⟩
  · obtain ⟨a, xs, rfl, _⟩ := h
    rfl
  · obtain ⟨a, xs, rfl, ha, hl, k⟩ := h
    refine ⟨_, (pss_cons (ps_for PassesOwn.never rfl (pi_range1 (by rfl) T.n_range (pa_cons (pe_callB call_len_seq (by rfl) T.n_len PySem.boot_len (pa_cons (pv 0) pa_nil)) pa_nil)) (pg_name (i := 1) sc_law_spoil.nd rfl (Or.inl rfl)) (pss_one (ps_asg pe_int (pg_sub (pv 0) (pv 1) set_list))))
      (pss_one (ps_expr (pe_bm PySem.F.plainAttrs_list PySem.F.slot_list_append PySem.F.type_list_append mt_append (pv 0) (pa_cons pe_int pa_nil))))), ?_⟩
    refine ⟨_, rfl, a, _, rfl, .inl (SqL.of ha), _, rfl, by omega, by omega, ?_⟩
    rw [Int.toNat_natCast]
    refine for_range (lo := 0) (n := xs.length) (fun i σ G => ∃ v1 ys, σ = [some (.ref a), v1] ∧ (∀ x o, x ≠ a → H x = some o → G x = some o) ∧ G a = some (.lst ys) ∧ ys.length = xs.length) ⟨none, xs, rfl, fun _ _ _ h => h, ha, rfl⟩ ?_ ?_
    · rintro i σ G hi ⟨v1, ys, rfl, K1, hy, yl⟩
      rw [Int.zero_add]
      refine ⟨_, rfl, _, rfl, a, _, _, i, rfl, rfl, hy, Evl.ixN_nat (by rw [yl]; exact hi), ?_⟩
      exact ⟨_, _, rfl, fun x o h1 h => by rw [upd_ne h1]; exact K1 x o h1 h, upd_same, by rw [List.length_set]; exact yl⟩
    rintro σ G ⟨v1, ys, rfl, K1, hy, yl⟩
    refine ⟨_, rfl, Or.inl ⟨rfl, _, SqL.of hy⟩, _, _, _, rfl, rfl, hy, small1000 (by omega), ?_⟩
    exact k _ _ (fun x o h1 h => by rw [upd_ne h1]; exact K1 x o h1 h) upd_same

end

section
variable {P : Program} {w : World} {K : PySem.W.Frag} {mg : Str → Option Value} {base : Heap} {A : Ad}
theorem ok_law_entry (T : Txt K mg A)   : Okd P w K mg base CX0 1 A.law_entry P_law_entry spEn := by
  obtain ⟨fd, F⟩ := T.d_law_entry

  refine ⟨fd, F.ok sc_law_entry (fun vs H Q E h => ?_) (fun cdv A' outer s H vs Q E hr h => ?_), F.binds fun _ _ _ _ _ _ us hl => match us, hl with | [_], _ => rfl⟩
  · obtain ⟨a, xs, rfl, _⟩ := h
    rfl
  · obtain ⟨a, xs, rfl, ha, hl, k⟩ := h
    refine ⟨_, (pss_cons (ps_for PassesOwn.never rfl (pi_range1 (by rfl) T.n_range (pa_cons (pe_callB call_len_seq (by rfl) T.n_len PySem.boot_len (pa_cons (pv 0) pa_nil)) pa_nil)) (pg_name (i := 1) sc_law_entry.nd rfl (Or.inl rfl)) (pss_one (ps_if (PW.pt (pw_or (pt_cmpR op_lt (pe_ix ix_list (pv 0) (pv 1) (fun _ _ => rfl)) pe_int (nomark _)) (pw_or1 (pt_cmpR op_ge (pe_ix ix_list (pv 0) (pv 1) (fun _ _ => rfl)) (pe_callB call_len_seq (by rfl) T.n_len PySem.boot_len (pa_cons (pv 0) pa_nil)) (nomark _))))) (pss_one (ps_ret (pv 1))) pss_nil)))
      (pss_one (ps_ret (pe_un un_neg pe_int)))), ?_⟩
    have lm : (xs.map V.int).length = xs.length := List.length_map ..
    refine ⟨_, rfl, a, _, rfl, .inl ha.sz, _, rfl, by rw [lm]; omega, by rw [lm]; omega, ?_⟩
    rw [lm, Int.toNat_natCast]
    refine for_range (lo := 0) (n := xs.length) (fun i σ G => ∃ v1, σ = [some (.ref a), v1] ∧ Ex H G ∧ ∀ j, j < i → badN xs j = false) ⟨none, rfl, Ex.refl H, fun j hj => absurd hj (Nat.not_lt_zero _)⟩ ?_ ?_
    · rintro i σ G hi ⟨v1, rfl, e, nb⟩
      rw [Int.zero_add]
      have ax : atI (xs.map V.int) (i : Int) = some (V.int (xs.getD i 0)) := atI_nat (by
        rw [List.getElem?_map, List.getD_eq_getElem?_getD, List.getElem?_eq_getElem hi]
        rfl)
      have haG := ha.ex e
      have fin : badN xs i = true → Q (.int (i : Int)) G := fun hb => by
        have s : strayI xs = some i := firstOf_some hi hb nb
        have kk := k G e
        rw [s] at kk
        exact kk
      unfold badN at fin
      refine ⟨_, rfl, _, rfl, a, _, _, _, rfl, rfl, haG.sz, ax, _, _, rfl, rfl, _, rfl, ?_⟩
      refine ite_b (fun c => ?_) (fun c => ?_)
      · exact iteT ⟨_, rfl, fin (by rw [c]; rfl)⟩
      refine ⟨_, rfl, _, rfl, a, _, _, _, rfl, rfl, haG.sz, ax, _, rfl, a, _, rfl, .inl haG.sz, _, _, rfl, rfl, _, rfl, ?_⟩
      rw [lm]
      refine ite_b (fun c2 => ?_) (fun c2 => ?_)
      · exact ⟨_, rfl, fin (by rw [c2, Bool.or_true])⟩
      refine ⟨_, rfl, e, fun j hj => ?_⟩
      by_cases z : j = i
      · rw [z]
        unfold badN
        rw [c, c2]
        rfl
      · exact nb j (by omega)
    rintro σ G ⟨v1, rfl, e, nb⟩
    have s : strayI xs = none := firstOf_none nb
    have kk := k G e
    rw [s] at kk
    exact ⟨_, rfl, kk⟩

end

section
variable {P : Program} {w : World} {K : PySem.W.Frag} {mg : Str → Option Value} {base : Heap} {A : Ad}
theorem ok_law_unsettled (T : Txt K mg A)   : Okd P w K mg base CX0 1 A.law_unsettled P_law_unsettled spUn := by
  obtain ⟨fd, F⟩ := T.d_law_unsettled

  refine ⟨fd, F.ok sc_law_unsettled (fun vs H Q E h => ?_) (fun cdv A' outer s H vs Q E hr h => ?_), F.binds fun _ _ _ _ _ _ us hl => match us, hl with | [_], _ => rfl⟩
  · obtain ⟨a, xs, rfl, _⟩ := h
    rfl
  · obtain ⟨a, xs, rfl, ha, h0, hl, k⟩ := h
    refine ⟨_, (pss_cons (ps_for PassesOwn.never rfl (pi_range1 (by rfl) T.n_range (pa_cons (pe_callB call_len_seq (by rfl) T.n_len PySem.boot_len (pa_cons (pv 0) pa_nil)) pa_nil)) (pg_name (i := 1) sc_law_unsettled.nd rfl (Or.inl rfl)) (pss_one (ps_if (pt_cmpR op_ne (pe_ix ix_list (pv 0) (pe_ix ix_list (pv 0) (pv 1) (fun _ _ => rfl)) (fun _ _ => rfl)) (pv 1) (nomark _)) (pss_one (ps_ret (pv 1))) pss_nil)))
      (pss_one (ps_ret (pe_un un_neg pe_int)))), ?_⟩
    have na := ha.nat h0
    have nl : (natI xs).length = xs.length := natI_len
    have rcd : ∀ j, j < (natI xs).length → gt (natI xs) j < (natI xs).length := fun j hj => by rw [nl] at hj ⊢; exact (natI_at h0 hj).2
    rw [← nl] at hl
    generalize natI xs = ys at na rcd hl k
    refine ⟨_, rfl, a, _, rfl, .inl na.sz, _, rfl, by rw [nI_len]; omega, by rw [nI_len]; omega, ?_⟩
    rw [nI_len, Int.toNat_natCast]
    refine for_range (lo := 0) (n := ys.length) (fun i σ G => ∃ v1, σ = [some (.ref a), v1] ∧ Ex H G ∧ ∀ j, j < i → gt ys (gt ys j) = j) ⟨none, rfl, Ex.refl H, fun j hj => absurd hj (Nat.not_lt_zero _)⟩ ?_ ?_
    · rintro i σ G hi ⟨v1, rfl, e, nb⟩
      rw [Int.zero_add]
      refine ⟨_, rfl, _, rfl, _, rfl, a, _, _, _, rfl, rfl, (na.ex e).sz, atN hi, a, _, _, _, rfl, rfl, (na.ex e).sz, atN (rcd i hi), _, rfl, rfl, _, rfl, ?_⟩
      rw [dne]
      refine ite_b (fun c => ?_) (fun c => ?_)
      · have c := of_decide_eq_true c
        have s : unset ys = some i := firstOf_some hi (decide_eq_true c) fun j hj => decide_eq_false fun h => h (nb j hj)
        have kk := k G e
        rw [s] at kk
        exact ⟨_, rfl, kk⟩
      · have c := Decidable.not_not.mp (of_decide_eq_false c)
        refine ⟨_, rfl, e, fun j hj => ?_⟩
        by_cases z : j = i
        · rw [z]; exact c
        · exact nb j (by omega)
    rintro σ G ⟨v1, rfl, e, nb⟩
    have s : unset ys = none := firstOf_none fun j hj => decide_eq_false fun h => h (nb j hj)
    have kk := k G e
    rw [s] at kk
    exact ⟨_, rfl, kk⟩

end

section
variable {P : Program} {w : World} {K : PySem.W.Frag} {mg : Str → Option Value} {base : Heap} {A : Ad}
theorem cons_erase : ∀ {l : List Nat} {i : Nat} (h : i < l.length), (l[i] :: l.eraseIdx i).Perm l
  | a :: l, 0, _ => List.Perm.refl _
  | a :: l, i + 1, h => (List.Perm.swap a (l[i]'(by simpa using h)) (l.eraseIdx i)).trans (List.Perm.cons a (cons_erase (by simpa using h)))
theorem nI_erase {xs : List Nat} {j : Nat} : (nI xs).eraseIdx j = nI (xs.eraseIdx j) := map_erase _ xs j
theorem ok_law_order (T : Txt K mg A)  (g_law_draw : Okd P w K mg base CX0 2 A.law_draw P_law_draw spDw) : Okd P w K mg base CX0 3 A.law_order P_law_order spOr := by
  obtain ⟨fd, F⟩ := T.d_law_order
  obtain ⟨fd_law_draw, G_law_draw, b_law_draw⟩ := g_law_draw
  refine ⟨fd, F.ok sc_law_order (fun vs H Q E h => ?_) (fun cdv A' outer s H vs Q E hr h => ?_), F.binds fun _ _ _ _ _ _ us hl => match us, hl with | [_, _], _ => rfl⟩
  · obtain ⟨b, c, n, rfl, _⟩ := h
    rfl
  · obtain ⟨b, c, n, rfl, hn, B, k⟩ := h
    refine ⟨_, (pss_cons (ps_set (i := 2) sc_law_order.nd rfl (Or.inl rfl) (pe_listRg (by rfl) (by rfl) T.n_list (prg_1 (by rfl) T.n_range (pv 1))))
      (pss_cons (ps_set (i := 3) sc_law_order.nd rfl (Or.inl rfl) (pe_lst pa_nil))
      (pss_cons (ps_for PassesOwn.never rfl (pi_range1 (by rfl) T.n_range (pa_cons (pv 1) pa_nil)) (pg_name (i := 4) sc_law_order.nd rfl (Or.inl rfl)) (pss_one (ps_expr (pe_bm PySem.F.plainAttrs_list PySem.F.slot_list_append PySem.F.type_list_append mt_append (pv 3) (pa_cons (pe_bm PySem.F.plainAttrs_list PySem.F.slot_list_pop PySem.F.type_list_pop mt_popAt (pv 2) (pa_cons (pe_call G_law_draw (hr.mono (by decide)) (by rfl) T.g_law_draw T.k_law_draw b_law_draw .nil pass0 (pa_cons (pv 0) (pa_cons (pe_callB call_len_seq (by rfl) T.n_len PySem.boot_len (pa_cons (pv 2) pa_nil)) pa_nil))) pa_nil)) pa_nil)))))
      (pss_one (ps_ret (pv 3)))))), ?_⟩
    refine ⟨_, rfl, _, rfl, RgOk.of_le (by decide) (by omega) (by decide) (by omega), fun sp hsp => ?_⟩
    have hs0 : ListN (upd H sp (.lst (rgV 0 (n : Int)))) sp (List.range n) := by
      show upd H sp _ sp = _
      rw [upd_same, rgN]
    have e1 := Ex.new (o := .lst (rgV 0 (n : Int))) hsp
    generalize upd H sp (.lst (rgV 0 (n : Int))) = H1 at hs0 e1 ⊢
    refine ⟨(by show 0 ≤ sizeLine; decide), fun od hod => ?_⟩
    have ho0 : ListN (upd H1 od (.lst [])) od [] := upd_same
    have e2 := Ex.new (o := .lst []) hod
    have nso : sp ≠ od := ne_of_none (show H1 sp = some _ from hs0) hod
    have hs1 := hs0.ex e2
    have e12 := e1.trans e2
    have B2 := B.ex e12
    have fod : H od = none := back_none e1 hod
    obtain ⟨nsb, nsc⟩ := B.ne hsp
    obtain ⟨nob, noc⟩ := B.ne fod
    generalize upd H1 od (.lst []) = H2 at ho0 e2 hs1 e12 B2 ⊢
    refine ⟨_, rfl, _, rfl, by omega, by omega, ?_⟩
    rw [Int.toNat_natCast]
    refine for_range (lo := 0) (n := n) (fun i σ G => ∃ (xs ys : List Nat) (v : Option V), σ = [some (.ref b), some (.int (n : Int)), some (.ref sp), some (.ref od), v] ∧ ys.length = i ∧ (ys ++ xs).Perm (List.range n) ∧ ListN G sp xs ∧ ListN G od ys ∧ Bx G b c ∧ (∀ x o, x ≠ b → x ≠ sp → x ≠ od → H2 x = some o → G x = some o))
      ⟨List.range n, [], none, rfl, rfl, List.Perm.refl _, hs1, ho0, B2, fun _ _ _ _ _ h => h⟩ ?_ ?_
    · rintro i σ G hi ⟨xs, ys, v, rfl, hy, hpm, hx, hyy, BG, KG⟩
      have hlen : ys.length + xs.length = n := by
        have := hpm.length_eq
        rw [List.length_append, List.length_range] at this
        exact this
      refine ⟨_, rfl, Or.inl ⟨rfl, _, hyy.sz⟩, _, rfl, Or.inl ⟨rfl, _, hx.sz⟩, _, rfl, _, rfl, sp, _, rfl, .inl hx.sz, b, c, ((nI xs).length : Int), rfl, by rw [nI_len]; omega, by rw [nI_len]; omega, BG, fun j G1 h1 B1 M1 => ?_⟩
      rw [nI_len] at h1
      have hj : j < xs.length := by omega
      have hj2 : j < (nI xs).length := by rw [nI_len]; exact hj
      have hx1 : ListN G1 sp xs := M1 _ _ nsb hx
      have hy1 : ListN G1 od ys := M1 _ _ nob hyy
      refine ⟨_, _, _, j, _, rfl, rfl, hx1, by omega, by omega, (ixN_seq (Evl.ixN_nat hj2)).1, ixN_ hj, ?_⟩
      have k2 : ∀ x o, x ≠ sp → G1 x = some o → upd G1 sp (.lst ((nI xs).eraseIdx j)) x = some o := fun x o h1 h => by rw [upd_ne h1]; exact h
      have hx2 : ListN (upd G1 sp (.lst ((nI xs).eraseIdx j))) sp (xs.eraseIdx j) := by
        show upd G1 sp _ sp = _
        rw [upd_same, nI_erase]
      generalize upd G1 sp (.lst ((nI xs).eraseIdx j)) = G2 at k2 hx2 ⊢
      have hy2 : ListN G2 od ys := k2 _ _ (Ne.symm nso) hy1
      refine ⟨_, _, _, rfl, rfl, hy2, small1000 (by rw [nI_len]; omega), ?_⟩
      have k3 : ∀ x o, x ≠ od → G2 x = some o → upd G2 od (.lst (nI ys ++ [V.int ((xs.getD j 0 : Nat) : Int)])) x = some o := fun x o h1 h => by rw [upd_ne h1]; exact h
      refine ⟨xs.eraseIdx j, ys ++ [xs.getD j 0], _, rfl, by rw [List.length_append, hy]; rfl, ?_, k3 _ _ nso hx2, ?_, B1.keep (fun o h => k3 _ _ (Ne.symm nob) (k2 _ _ (Ne.symm nsb) h)) (fun o h => k3 _ _ (Ne.symm noc) (k2 _ _ (Ne.symm nsc) h)), fun x o h1 h2 h3 h => k3 _ _ h3 (k2 _ _ h2 (M1 _ _ h1 (KG x o h1 h2 h3 h)))⟩
      · refine List.Perm.trans ?_ hpm
        rw [List.append_assoc]
        refine List.Perm.append_left ys ?_
        show (xs.getD j 0 :: xs.eraseIdx j).Perm xs
        have e : xs.getD j 0 = xs[j] := by rw [List.getD_eq_getElem?_getD, List.getElem?_eq_getElem hj]; rfl
        rw [e]
        exact cons_erase hj
      · show upd G2 od _ od = _
        rw [upd_same, nI_app]
    rintro σ G ⟨xs, ys, v, rfl, hy, hpm, hx, hyy, BG, KG⟩
    have hlen := hpm.length_eq
    rw [List.length_append, List.length_range] at hlen
    have x0 : xs = [] := List.length_eq_zero_iff.mp (by omega)
    rw [x0, List.append_nil] at hpm
    exact ⟨_, rfl, k od ys G fod BG (fun x o h1 h => KG x o h1 (ne_of_none h hsp) (ne_of_none h fod) (e12 _ _ h)) hyy hpm⟩

end

section
variable {P : Program} {w : World} {K : PySem.W.Frag} {mg : Str → Option Value} {base : Heap} {A : Ad}
theorem ok_law_piece (T : Txt K mg A)  (g_law_draw : Okd P w K mg base CX0 2 A.law_draw P_law_draw spDw) : Okd P w K mg base CX0 3 A.law_piece P_law_piece spPc := by
  obtain ⟨fd, F⟩ := T.d_law_piece
  obtain ⟨fd_law_draw, G_law_draw, b_law_draw⟩ := g_law_draw
  refine ⟨fd, F.ok sc_law_piece (fun vs H Q E h => ?_) (fun cdv A' outer s H vs Q E hr h => ?_), F.binds fun _ _ _ _ _ _ us hl => match us, hl with | [_, _], _ => rfl⟩
  · obtain ⟨b, c, room, rfl, _⟩ := h
    rfl
  · obtain ⟨b, c, room, rfl, h0, h64, B, k⟩ := h
    refine ⟨_, (pss_cons (ps_set (i := 2) sc_law_piece.nd rfl (Or.inl rfl) (pe_call G_law_draw (hr.mono (by decide)) (by rfl) T.g_law_draw T.k_law_draw b_law_draw .nil pass0 (pa_cons (pv 0) (pa_cons pe_int pa_nil))))
      (pss_cons (ps_set (i := 3) sc_law_piece.nd rfl (Or.inl rfl) (pe_callB (call_min2 (by rfl)) (by rfl) T.n_min (by decide +kernel) (pa_cons (pv 1) (pa_cons (pe_ix ix_list (pe_lst (pa_cons pe_int (pa_cons pe_int (pa_cons pe_int (pa_cons pe_int pa_nil))))) (pe_call G_law_draw (hr.mono (by decide)) (by rfl) T.g_law_draw T.k_law_draw b_law_draw .nil pass0 (pa_cons (pv 0) (pa_cons pe_int pa_nil))) (fun _ _ => rfl)) pa_nil))))
      (pss_cons (ps_if (PW.pt (pw_or (pt_cmpR op_eq (pv 2) pe_int (nomark _)) (pw_or1 (pt_cmpR op_eq (pv 1) pe_int (nomark _))))) (pss_one (ps_ret (pe_lst (pa_cons pe_str (pa_cons pe_int (pa_cons pe_int pa_nil)))))) pss_nil)
      (pss_cons (ps_if (pt_cmpR op_eq (pv 2) pe_int (nomark _)) (pss_one (ps_ret (pe_lst (pa_cons pe_str (pa_cons pe_int (pa_cons pe_int pa_nil)))))) pss_nil)
      (pss_cons (ps_if (PW.pt (pw_and (pt_cmpR op_ge (pv 2) pe_int (nomark _)) (pw_and1 (pt_cmpR op_ge (pv 3) pe_int (nomark _))))) (pss_one (ps_ret (pe_lst (pa_cons pe_str (pa_cons (pe_op op_add pe_int (pe_op op_mul pe_int (pe_call G_law_draw (hr.mono (by decide)) (by rfl) T.g_law_draw T.k_law_draw b_law_draw .nil pass0 (pa_cons (pv 0) (pa_cons (pe_op op_sub (pe_op op_fdivW (pv 3) pe_int) pe_int) pa_nil))))) (pa_cons pe_int pa_nil)))))) pss_nil)
      (pss_one (ps_ret (pe_lst (pa_cons pe_str (pa_cons (pe_op op_add pe_int (pe_call G_law_draw (hr.mono (by decide)) (by rfl) T.g_law_draw T.k_law_draw b_law_draw .nil pass0 (pa_cons (pv 0) (pa_cons (pe_op op_sub (pv 3) pe_int) pa_nil)))) (pa_cons (pe_call G_law_draw (hr.mono (by decide)) (by rfl) T.g_law_draw T.k_law_draw b_law_draw .nil pass0 (pa_cons (pv 0) (pa_cons pe_int pa_nil))) pa_nil))))))))))), ?_⟩
    refine ⟨_, rfl, b, c, 6, rfl, by decide, by decide, B, fun way H1 w1 B1 M1 => ?_⟩
    refine ⟨_, rfl, (by show 4 ≤ sizeLine; decide), fun ml hml => ?_⟩
    have lml : ListN (upd H1 ml (.lst (nI [4, 6, 9, 64]))) ml [4, 6, 9, 64] := upd_same
    have eml := Ex.new (o := .lst (nI [4, 6, 9, 64])) hml
    obtain ⟨nmb, nmc⟩ := B1.ne hml
    refine ⟨_, rfl, b, c, 4, rfl, by decide, by decide, B1.ex eml, fun d H2 d1 B2 M2 => ?_⟩
    have lml2 : ListN H2 ml [4, 6, 9, 64] := M2 _ _ nmb lml
    have hd : d < [4, 6, 9, 64].length := by show d < 4; omega
    refine ⟨ml, _, _, _, rfl, rfl, lml2.sz, atN hd, _, _, rfl, ?_⟩
    have m4 : 4 ≤ [4, 6, 9, 64].getD d 0 := by
      have : ∀ i, i < 4 → 4 ≤ [4, 6, 9, 64].getD i 0 := by decide
      exact this d hd
    generalize [4, 6, 9, 64].getD d 0 = mm at m4 ⊢
    have M02 : Mut b H H2 := fun x o h1 h => M2 _ _ h1 (eml _ _ (M1 _ _ h1 h))
    obtain ⟨re, hre, r1, r2⟩ : ∃ re : Nat, (if (mm : Int) < (room : Int) then (mm : Int) else (room : Int)) = (re : Int) ∧ re ≤ room ∧ (re = room ∨ 4 ≤ re) := by
      by_cases cm : (mm : Int) < (room : Int)
      · exact ⟨mm, by rw [if_pos cm], by omega, .inr m4⟩
      · exact ⟨room, by rw [if_neg cm], Nat.le_refl _, .inl rfl⟩
    rw [hre]
    have ans : ∀ (w n s : Nat) (G : Hp) (p : Addr), Bx G b c → Mut b H G → G p = none → Shp room w n s → Q (.ref p) (upd G p (.lst [.str (w4 w), .int (n : Int), .int (s : Int)])) := fun w n s G p BG MG hp S =>
      k p w n s _ (bx_back BG MG hp) (BG.ex (Ex.new hp)) (fun x o h1 h => Ex.new hp _ _ (MG _ _ h1 h)) upd_same S
    have free : 0 < room → ∃ (h : 3 ≤ sizeLine), ∀ p, H2 p = none → Q (.ref p) (upd H2 p (.lst [.str "free", .int 1, .int 0])) := fun _ => ⟨by show 3 ≤ sizeLine; decide, fun p hp => ans 0 1 0 H2 p B2 M02 hp ⟨by decide, h0, by decide, fun _ => rfl, fun h => (by cases h), fun h => (by cases h), fun h => (by cases h)⟩⟩
    obtain ⟨fr1, fr2⟩ := free h0
    refine ⟨_, rfl, rfl, _, rfl, ?_⟩
    refine ite_b (fun c0 => iteT ⟨fr1, fr2⟩) (fun c0 => ?_)
    refine ⟨_, rfl, rfl, _, rfl, ?_⟩
    refine ite_b (fun c1 => ⟨fr1, fr2⟩) (fun c1 => ?_)
    have room2 : 2 ≤ room := by
      have c1 := of_decide_eq_false c1
      have : (room : Int) ≠ 1 := fun h => c1 (by rw [h])
      omega
    refine ⟨_, rfl, rfl, _, rfl, ?_⟩
    refine ite_b (fun c2 => ?_) (fun c2 => ?_)
    · exact ⟨by show 3 ≤ sizeLine; decide, fun p hp => ans 1 2 0 H2 p B2 M02 hp ⟨by decide, room2, by decide, fun h => (by cases h), fun _ => rfl, fun h => (by cases h), fun h => (by cases h)⟩⟩
    have chain : ∀ (n s : Nat) (G : Hp) (p : Addr), Bx G b c → Mut b H G → G p = none → 2 ≤ n → n ≤ room → s < 2 → Q (.ref p) (upd G p (.lst [.str "chain", .int (n : Int), .int (s : Int)])) := fun n s G p BG MG hp n2 nr s2 =>
      ans 2 n s G p BG MG hp ⟨by decide, nr, s2, fun h => (by cases h), fun h => (by cases h), fun _ => n2, fun h => (by cases h)⟩
    refine ⟨_, rfl, _, _, rfl, rfl, _, rfl, ?_⟩
    refine ite_b (fun c3 => ?_) (fun c3 => ?_)
    rotate_left
    · refine ⟨_, rfl, _, rfl, _, _, rfl, rfl, b, c, (re : Int) - 1, rfl, by omega, by omega, B2, fun d1 H3 q1 B3 M3 => ⟨_, _, rfl, rfl, ?_⟩⟩
      refine ⟨_, rfl, b, c, 2, rfl, by decide, by decide, B3, fun d2 H4 q2 B4 M4 => ⟨by show 3 ≤ sizeLine; decide, fun p hp => ?_⟩⟩
      have a := chain (2 + d1) d2 H4 p B4 ((M02.trans M3).trans M4) hp (by omega) (by omega) (by omega)
      rw [← (show (2 : Int) + (d1 : Int) = ((2 + d1 : Nat) : Int) by omega)] at a
      exact a
    refine ⟨_, rfl, _, _, rfl, rfl, _, rfl, ?_⟩
    refine ite_b (fun c4 => ?_) (fun c4 => ?_)
    rotate_left
    · refine ⟨_, rfl, _, rfl, _, _, rfl, rfl, b, c, (re : Int) - 1, rfl, by omega, by omega, B2, fun d1 H3 q1 B3 M3 => ⟨_, _, rfl, rfl, ?_⟩⟩
      refine ⟨_, rfl, b, c, 2, rfl, by decide, by decide, B3, fun d2 H4 q2 B4 M4 => ⟨by show 3 ≤ sizeLine; decide, fun p hp => ?_⟩⟩
      have a := chain (2 + d1) d2 H4 p B4 ((M02.trans M3).trans M4) hp (by omega) (by omega) (by omega)
      rw [← (show (2 : Int) + (d1 : Int) = ((2 + d1 : Nat) : Int) by omega)] at a
      exact a
    have c4 := of_decide_eq_true c4
    have e2 : (re : Int) / 2 = ((re / 2 : Nat) : Int) := by omega
    refine ⟨_, rfl, _, rfl, _, _, rfl, rfl, wide_div (b := 60) (by omega) (by omega) (by decide) (by decide), _, _, rfl, rfl, b, c, (re : Int) / 2 - 1, rfl, by omega, by omega, B2, fun d1 H3 q1 B3 M3 => ⟨_, _, rfl, rfl, Or.inl ⟨by decide, by decide⟩, _, _, rfl, rfl, by show 3 ≤ sizeLine; decide, fun p hp => ?_⟩⟩
    have e5 : (4 : Int) + 2 * (d1 : Int) = ((4 + 2 * d1 : Nat) : Int) := by omega
    have a := ans 3 (4 + 2 * d1) 0 H3 p B3 (M02.trans M3) hp ⟨by decide, by omega, by decide, fun h => (by cases h), fun h => (by cases h), fun h => (by cases h), fun _ => ⟨by omega, by omega, rfl⟩⟩
    rw [← e5] at a
    exact a

end

section
variable {P : Program} {w : World} {K : PySem.W.Frag} {mg : Str → Option Value} {base : Heap} {A : Ad}
theorem ok_law_draw (T : Txt K mg A)  (g_law_mix : Okd P w K mg base CX0 1 A.law_mix P_law_mix spMix) : Okd P w K mg base CX0 2 A.law_draw P_law_draw spDw := by
  obtain ⟨fd, F⟩ := T.d_law_draw
  obtain ⟨fd_law_mix, G_law_mix, b_law_mix⟩ := g_law_mix
  refine ⟨fd, F.ok sc_law_draw (fun vs H Q E h => ?_) (fun cdv A' outer s H vs Q E hr h => ?_), F.binds fun _ _ _ _ _ _ us hl => match us, hl with | [_, _], _ => rfl⟩
  · obtain ⟨b, c, n, rfl, _⟩ := h
    rfl
  · obtain ⟨b, c, n, rfl, n0, n1, B, k⟩ := h
    refine ⟨_, (pss_cons (ps_asg (pe_op op_add (pe_ix ix_list (pv 0) pe_int (fun _ _ => rfl)) pe_int) (pg_sub (pv 0) pe_int set_list))
      (pss_cut (ps_if (PW.pt (pw_and (pt_cmpR op_eq (pe_ix ix_list (pv 0) pe_int (fun _ _ => rfl)) pe_int (nomark _)) (pw_and1 (pt_cmpR op_lt (pe_ix ix_list (pv 0) pe_int (fun _ _ => rfl)) (pe_callB call_len_seq (by rfl) T.n_len PySem.boot_len (pa_cons (pe_ix ix_list (pv 0) pe_int (fun _ _ => rfl)) pa_nil)) (nomark _))))) (pss_cons (ps_set (i := 2) sc_law_draw.nd rfl (Or.inl rfl) (pe_ix ix_list (pe_ix ix_list (pv 0) pe_int (fun _ _ => rfl)) (pe_ix ix_list (pv 0) pe_int (fun _ _ => rfl)) (fun _ _ => rfl)))
      (pss_cons (ps_asg (pe_op op_add (pe_ix ix_list (pv 0) pe_int (fun _ _ => rfl)) pe_int) (pg_sub (pv 0) pe_int set_list))
      (pss_cons (ps_if (pt_cmpR op_lt (pe_callB call_abs (by rfl) T.n_abs (by decide +kernel) (pa_cons (pv 2) pa_nil)) (pe_op op_pow pe_int pe_int) (nomark _)) (pss_one (ps_ret (pe_op op_mod (pe_callTy call_int1 (by rfl) T.n_int (by decide +kernel) (pa_cons (pe_call G_law_mix (hr.mono (by decide)) (by rfl) T.g_law_mix T.k_law_mix b_law_mix .nil pass0 (pa_cons (pv 2) (pa_cons (pe_ix ix_list (pv 0) pe_int (fun _ _ => rfl)) pa_nil))) pa_nil)) (pv 1)))) pss_nil)
      (pss_one (ps_asg (pe_callB call_abs (by rfl) T.n_abs (by decide +kernel) (pa_cons (pv 2) pa_nil)) (pg_sub (pv 0) pe_int set_list)))))) pss_nil)
      (pss_cons (ps_if (pt_cmpR op_gt (pe_ix ix_list (pv 0) pe_int (fun _ _ => rfl)) pe_int (nomark _)) (pss_cons (ps_set (i := 3) sc_law_draw.nd rfl (Or.inl rfl) (pe_ix ix_list (pv 0) pe_int (fun _ _ => rfl)))
      (pss_cons (ps_asg (pe_op op_fdivW (pv 3) (pv 1)) (pg_sub (pv 0) pe_int set_list))
      (pss_one (ps_ret (pe_op op_mod (pe_callTy call_int1 (by rfl) T.n_int (by decide +kernel) (pa_cons (pv 3) pa_nil)) (pv 1)))))) pss_nil)
      (pss_one (ps_ret (pe_op op_mod (pe_callTy call_int1 (by rfl) T.n_int (by decide +kernel) (pa_cons (pe_call G_law_mix (hr.mono (by decide)) (by rfl) T.g_law_mix T.k_law_mix b_law_mix .nil pass0 (pa_cons (pe_ix ix_list (pv 0) pe_int (fun _ _ => rfl)) (pa_cons (pe_ix ix_list (pv 0) pe_int (fun _ _ => rfl)) pa_nil))) pa_nil)) (pv 1))))))), ?_⟩
    have nbc := B.bc
    have fin : ∀ (z : Int) H', Bx H' b c → Mut b H H' → Q (V.int (z % n)) H' := fun z H' B' M' => by
      obtain ⟨d, hd⟩ := Int.eq_ofNat_of_zero_le (Int.emod_nonneg z (by omega : n ≠ 0))
      have hdl := Int.emod_lt_of_pos z n0
      rw [hd] at hdl ⊢
      exact k d H' hdl B' M'
    obtain ⟨ns, d0, i0, k0, s0, hb, hc, p1, p2⟩ := B
    refine ⟨_, rfl, b, _, _, _, rfl, rfl, SqL.of hb, atI_nat (j := 3) rfl, _, _, rfl, rfl, _, rfl, b, _, _, 3, rfl, rfl, hb, Evl.ixN_nat (j := 3) (by show 3 < 5; decide), ?_⟩
    have hb1 : upd H b (.lst ([V.ref c, V.int d0, V.int i0, V.int k0, V.int s0].set 3 (V.int (k0 + 1)))) b = some (.lst [V.ref c, V.int d0, V.int i0, V.int (k0 + 1), V.int s0]) := upd_same
    have K1 : ∀ x o, x ≠ b → H x = some o → upd H b (.lst ([V.ref c, V.int d0, V.int i0, V.int k0, V.int s0].set 3 (V.int (k0 + 1)))) x = some o := fun x o h1 h => by rw [upd_ne h1]; exact h
    generalize upd H b (.lst ([V.ref c, V.int d0, V.int i0, V.int k0, V.int s0].set 3 (V.int (k0 + 1)))) = H1 at hb1 K1 ⊢
    have hc1 := K1 _ _ (Ne.symm nbc) hc
    refine ⟨fun σ G => ∃ (v2 : Option V) (d i k s : Int), σ = [some (.ref b), some (.int n), v2, none] ∧ G b = some (.lst [.ref c, .int d, .int i, .int k, .int s]) ∧ 0 ≤ d ∧ 0 ≤ i ∧ (∀ x o, x ≠ b → H x = some o → G x = some o), ?_, ?_⟩
    · refine ⟨_, rfl, b, _, _, _, rfl, rfl, SqL.of hb1, atI_nat (j := 1) rfl, rfl, _, rfl, ?_⟩
      have fin0 : ∃ (v2 : Option V) (d i k s : Int), [some (V.ref b), some (V.int n), none, none] = [some (.ref b), some (.int n), v2, none] ∧ H1 b = some (.lst [.ref c, .int d, .int i, .int k, .int s]) ∧ 0 ≤ d ∧ 0 ≤ i ∧ (∀ x o, x ≠ b → H x = some o → H1 x = some o) := ⟨none, d0, i0, k0 + 1, s0, rfl, hb1, p1, p2, K1⟩
      refine ite_b (fun c1 => ?_) (fun _ => fin0)
      refine ⟨_, rfl, b, _, _, _, rfl, rfl, SqL.of hb1, atI_nat (j := 2) rfl, _, rfl, b, _, _, _, rfl, rfl, SqL.of hb1, atI_nat (j := 0) rfl, c, _, rfl, .inl (SqL.of hc1), _, _, rfl, rfl, _, rfl, ?_⟩
      refine ite_b (fun c2 => ?_) (fun _ => fin0)
      have c2 := of_decide_eq_true c2
      rw [List.length_map] at c2
      obtain ⟨i0, rfl⟩ := Int.eq_ofNat_of_zero_le p2
      have il : i0 < ns.length := by omega
      have az : atI (ns.map V.int) ((i0 : Nat) : Int) = some (V.int (ns[i0])) := atI_nat (by rw [List.getElem?_map, List.getElem?_eq_getElem il]; rfl)
      generalize ns[i0] = cell at az
      refine ⟨_, rfl, b, _, _, _, rfl, rfl, SqL.of hb1, atI_nat (j := 0) rfl, _, rfl, b, _, _, _, rfl, rfl, SqL.of hb1, atI_nat (j := 2) rfl, c, _, _, _, rfl, rfl, SqL.of hc1, az, ?_⟩
      refine ⟨_, rfl, b, _, _, _, rfl, rfl, SqL.of hb1, atI_nat (j := 2) rfl, _, _, rfl, rfl, _, rfl, b, _, _, 2, rfl, rfl, hb1, Evl.ixN_nat (j := 2) (by show 2 < 5; decide), ?_⟩
      have hb2 : upd H1 b (.lst ([V.ref c, V.int d0, V.int (i0 : Int), V.int (k0 + 1), V.int s0].set 2 (V.int ((i0 : Int) + 1)))) b = some (.lst [V.ref c, V.int d0, V.int ((i0 : Int) + 1), V.int (k0 + 1), V.int s0]) := upd_same
      have K2 : ∀ x o, x ≠ b → H x = some o → upd H1 b (.lst ([V.ref c, V.int d0, V.int (i0 : Int), V.int (k0 + 1), V.int s0].set 2 (V.int ((i0 : Int) + 1)))) x = some o := fun x o h1 h => by rw [upd_ne h1]; exact K1 x o h1 h
      generalize upd H1 b (.lst ([V.ref c, V.int d0, V.int (i0 : Int), V.int (k0 + 1), V.int s0].set 2 (V.int ((i0 : Int) + 1)))) = H2 at hb2 K2 ⊢
      refine ⟨_, rfl, _, rfl, _, _, rfl, rfl, ⟨by decide, by decide, by decide⟩, _, _, rfl, rfl, _, rfl, ?_⟩
      refine ite_b (fun c3 => ?_) (fun c3 => ?_)
      · refine ⟨_, rfl, _, rfl, b, _, _, _, rfl, rfl, SqL.of hb2, atI_nat (j := 3) rfl, cell, _, rfl, fun z => ?_⟩
        refine Or.inl ⟨_, rfl, _, rfl, _, _, rfl, rfl, n0, ?_⟩
        exact fin z H2 ⟨ns, d0, (i0 : Int) + 1, k0 + 1, s0, hb2, K2 _ _ (Ne.symm nbc) hc, p1, by omega⟩ K2
      · refine ⟨_, rfl, _, rfl, _, rfl, b, _, _, 1, rfl, rfl, hb2, Evl.ixN_nat (j := 1) (by show 1 < 5; decide), ?_⟩
        refine ⟨_, (if cell < 0 then -cell else cell), (i0 : Int) + 1, k0 + 1, s0, rfl, upd_same, by split <;> omega, by omega, fun x o h1 h => by rw [upd_ne h1]; exact K2 x o h1 h⟩
    rintro σ G ⟨v2, d, i, k1, s, rfl, hG, q1, q2, KG⟩
    have hcG := KG _ _ (Ne.symm nbc) hc
    refine ⟨_, rfl, b, _, _, _, rfl, rfl, SqL.of hG, atI_nat (j := 1) rfl, _, _, rfl, rfl, _, rfl, ?_⟩
    refine ite_b (fun c1 => ?_) (fun c1 => ?_)
    · have c1 := of_decide_eq_true c1
      refine ⟨_, rfl, b, _, _, _, rfl, rfl, SqL.of hG, atI_nat (j := 1) rfl, ?_⟩
      refine ⟨_, rfl, _, rfl, _, _, rfl, rfl, wide_div (b := 60) (by omega) (by omega) (by decide) (by decide), _, rfl, b, _, _, 1, rfl, rfl, hG, Evl.ixN_nat (j := 1) (by show 1 < 5; decide), ?_⟩
      refine ⟨_, rfl, Or.inl ⟨_, rfl, _, rfl, _, _, rfl, rfl, n0, ?_⟩⟩
      have K3 : ∀ x o, x ≠ b → H x = some o → upd G b (.lst ([V.ref c, V.int d, V.int i, V.int k1, V.int s].set 1 (V.int (d / n)))) x = some o := fun x o h1 h => by rw [upd_ne h1]; exact KG x o h1 h
      exact fin d _ ⟨ns, d / n, i, k1, s, upd_same, K3 _ _ (Ne.symm nbc) hc, Int.ediv_nonneg (by omega) (by omega), q2⟩ K3
    · refine ⟨_, rfl, b, _, _, _, rfl, rfl, SqL.of hG, atI_nat (j := 4) rfl, _, rfl, b, _, _, _, rfl, rfl, SqL.of hG, atI_nat (j := 3) rfl, s, k1, rfl, fun z => ?_⟩
      refine Or.inl ⟨_, rfl, _, rfl, _, _, rfl, rfl, n0, ?_⟩
      exact fin z G ⟨ns, d, i, k1, s, hG, hcG, q1, q2⟩ KG

end

section
variable {P : Program} {w : World} {K : PySem.W.Frag} {mg : Str → Option Value} {base : Heap} {A : Ad}
theorem ok_law_mix (T : Txt K mg A)   : Okd P w K mg base CX0 1 A.law_mix P_law_mix spMix := by
  obtain ⟨fd, F⟩ := T.d_law_mix

  refine ⟨fd, F.ok sc_law_mix (fun vs H Q E h => ?_) (fun cdv A' outer s H vs Q E hr h => ?_), F.binds fun _ _ _ _ _ _ us hl => match us, hl with | [_, _], _ => rfl⟩
  · obtain ⟨x, y, rfl, _⟩ := h
    rfl
  · obtain ⟨x, y, rfl, k⟩ := h
    refine ⟨_, (pss_cons (ps_set (i := 2) sc_law_mix.nd rfl (Or.inl rfl) (pe_op op_mod (pe_callTy call_int1 (by rfl) T.n_int (by decide +kernel) (pa_cons (pe_op op_add (pe_op op_add (pe_op op_mul (pv 0) pe_int) (pe_op op_mul (pv 1) pe_int)) pe_int) pa_nil)) pe_int))
      (pss_cons (ps_set (i := 3) sc_law_mix.nd rfl (Or.inl rfl) (pe_op op_mod (pe_callTy call_int1 (by rfl) T.n_int (by decide +kernel) (pa_cons (pe_op op_add (pe_op op_add (pe_op op_mul (pv 2) (pv 2)) (pe_op op_mul (pv 1) pe_int)) pe_int) pa_nil)) pe_int))
      (pss_one (ps_ret (pe_op op_mod (pe_callTy call_int1 (by rfl) T.n_int (by decide +kernel) (pa_cons (pe_op op_add (pe_op op_mul (pv 3) (pv 3)) (pv 2)) pa_nil)) pe_int))))), ?_⟩
    walk_at "r"
    exact k _

end

section
variable {P : Program} {w : World} {K : PySem.W.Frag} {mg : Str → Option Value} {base : Heap} {A : Ad}
theorem ok_law {fd : FuncData} (T : Txt K mg A) (F : Fun K "law" "law" s_law A.law fd)  (g_law_box : Okd P w K mg base CX0 1 A.law_box P_law_box (spBox K)) (g_law_size : Okd P w K mg base CX0 3 A.law_size P_law_size spSz) (g_law_built : Okd P w K mg base CX0 4 A.law_built P_law_built spBt) (g_law_states : Okd P w K mg base CX0 1 A.law_states P_law_states spSs) (g_law_kept : Okd P w K mg base CX0 10 A.law_kept P_law_kept spKp) (g_law_bent : Okd P w K mg base CX0 3 A.law_bent P_law_bent spBe) (g_law_fault : Okd P w K mg base CX0 2 A.law_fault P_law_fault spFl) (g_law_fault_told : Okd P w K mg base CX0 9 A.law_fault_told P_law_fault_told spFt) : FnOk P w K mg base CX0 11 A.law fd P_law (spLaw K) := by
  obtain ⟨fd_law_box, G_law_box, b_law_box⟩ := g_law_box
  obtain ⟨fd_law_size, G_law_size, b_law_size⟩ := g_law_size
  obtain ⟨fd_law_built, G_law_built, b_law_built⟩ := g_law_built
  obtain ⟨fd_law_states, G_law_states, b_law_states⟩ := g_law_states
  obtain ⟨fd_law_kept, G_law_kept, b_law_kept⟩ := g_law_kept
  obtain ⟨fd_law_bent, G_law_bent, b_law_bent⟩ := g_law_bent
  obtain ⟨fd_law_fault, G_law_fault, b_law_fault⟩ := g_law_fault
  obtain ⟨fd_law_fault_told, G_law_fault_told, b_law_fault_told⟩ := g_law_fault_told
  refine F.ok sc_law (fun vs H Q E h => ?_) (fun cdv A' outer s H vs Q E hr h => ?_)
  · obtain ⟨a, ns, rfl, _⟩ := h
    rfl
  · obtain ⟨a, ns, rfl, hs, hl, k⟩ := h
    refine ⟨_, (pss_cons (ps_set (i := 1) sc_law.nd rfl (Or.inl rfl) (pe_call G_law_box (hr.mono (by decide)) (by rfl) T.g_law_box T.k_law_box b_law_box .nil pass0 (pa_cons (pv 0) pa_nil)))
      (pss_cons (ps_set (i := 2) sc_law.nd rfl (Or.inl rfl) (pe_call G_law_size (hr.mono (by decide)) (by rfl) T.g_law_size T.k_law_size b_law_size .nil pass0 (pa_cons (pv 1) pa_nil)))
      (pss_cons (ps_set (i := 3) sc_law.nd rfl (Or.inl rfl) (pe_call G_law_built (hr.mono (by decide)) (by rfl) T.g_law_built T.k_law_built b_law_built .nil pass0 (pa_cons (pv 1) (pa_cons (pv 2) pa_nil))))
      (pss_cons (ps_set (i := 4) sc_law.nd rfl (Or.inl rfl) (pe_call G_law_states (hr.mono (by decide)) (by rfl) T.g_law_states T.k_law_states b_law_states .nil pass0 (pa_cons (pv 3) (pa_cons (pv 2) pa_nil))))
      (pss_cons (ps_if (pt_not (pt_val (pe_call G_law_kept (hr.mono (by decide)) (by rfl) T.g_law_kept T.k_law_kept b_law_kept .nil pass0 (pa_cons (pv 3) (pa_cons (pv 2) (pa_cons (pe_ix ix_list (pv 4) pe_int (fun _ _ => rfl)) (pa_cons (pe_ix ix_list (pv 4) pe_int (fun _ _ => rfl)) (pa_cons pe_int pa_nil)))))))) (pss_one (ps_ret pe_bl)) pss_nil)
      (pss_cons (ps_if (pt_not (pt_val (pe_call G_law_kept (hr.mono (by decide)) (by rfl) T.g_law_kept T.k_law_kept b_law_kept .nil pass0 (pa_cons (pv 3) (pa_cons (pv 2) (pa_cons (pe_ix ix_list (pv 4) pe_int (fun _ _ => rfl)) (pa_cons (pe_ix ix_list (pv 4) pe_int (fun _ _ => rfl)) (pa_cons (pe_un un_neg pe_int) pa_nil)))))))) (pss_one (ps_ret pe_bl)) pss_nil)
      (pss_cons (ps_for PassesOwn.never rfl (pi_range1 (by rfl) T.n_range (pa_cons pe_int pa_nil)) (pg_name (i := 5) sc_law.nd rfl (Or.inl rfl)) (pss_cons (ps_set (i := 6) sc_law.nd rfl (Or.inl rfl) (pe_call G_law_bent (hr.mono (by decide)) (by rfl) T.g_law_bent T.k_law_bent b_law_bent .nil pass0 (pa_cons (pv 1) (pa_cons (pe_ix ix_list (pv 4) pe_int (fun _ _ => rfl)) pa_nil))))
      (pss_cons (ps_set (i := 7) sc_law.nd rfl (Or.inl rfl) (pe_call G_law_bent (hr.mono (by decide)) (by rfl) T.g_law_bent T.k_law_bent b_law_bent .nil pass0 (pa_cons (pv 1) (pa_cons (pe_ix ix_list (pv 4) pe_int (fun _ _ => rfl)) pa_nil))))
      (pss_cons (ps_set (i := 8) sc_law.nd rfl (Or.inl rfl) (pe_call G_law_fault (hr.mono (by decide)) (by rfl) T.g_law_fault T.k_law_fault b_law_fault .nil pass0 (pa_cons (pv 6) (pa_cons (pv 7) pa_nil))))
      (pss_one (ps_for PassesOwn.never rfl (pi_range1 (by rfl) T.n_range (pa_cons pe_int pa_nil)) (pg_name (i := 9) sc_law.nd rfl (Or.inl rfl)) (pss_one (ps_if (pt_not (pt_val (pe_call G_law_fault_told (hr.mono (by decide)) (by rfl) T.g_law_fault_told T.k_law_fault_told b_law_fault_told .nil pass0 (pa_cons (pv 9) (pa_cons (pv 6) (pa_cons (pv 7) (pa_cons (pv 8) pa_nil))))))) (pss_one (ps_ret pe_bl)) pss_nil))))))))
      (pss_one (ps_ret pe_bl))))))))), ?_⟩
    refine ⟨_, rfl, a, ns, rfl, hs, hl, fun b c H1 hb hc e1 B1 => ?_⟩
    refine ⟨_, rfl, b, c, rfl, B1, fun n H2 hn B2 M2 => ?_⟩
    refine ⟨_, rfl, _, rfl, b, c, n, rfl, hn, B2, fun q ps H3 hq B3 M3 PA C => ?_⟩
    refine ⟨_, rfl, _, rfl, q, n, ps, rfl, hn, PA, C, fun r x y A0 B0 H4 hr hx hy nxy e4 lr lx ly BL => ?_⟩
    have nrb : r ≠ b := (B3.ne hr).1
    have nxb : x ≠ b := (B3.ne hx).1
    have nyb : y ≠ b := (B3.ne hy).1
    have al := BL.la
    have bl := BL.lb
    refine ⟨_, rfl, _, rfl, _, rfl, r, _, _, _, rfl, rfl, SqL.of lr, atI_nat (j := 0) rfl, _, rfl, r, _, _, _, rfl, rfl, SqL.of lr, atI_nat (j := 1) rfl, q, x, y, n, 0, ps, A0, B0, rfl, hn, PA.ex e4, C, lx, ly, BL, fun H5 e5 => ⟨true, rfl, iteF ?_⟩⟩
    have lr5 := e5 _ _ lr
    refine ⟨_, rfl, _, rfl, _, rfl, r, _, _, _, rfl, rfl, SqL.of lr5, atI_nat (j := 1) rfl, _, rfl, r, _, _, _, rfl, rfl, SqL.of lr5, atI_nat (j := 0) rfl, _, rfl, q, y, x, n, 1, ps, B0, A0, rfl, hn, (PA.ex e4).ex e5, C, ly.ex e5, lx.ex e5, BL.swap, fun H6 e6 => ⟨true, rfl, iteF ?_⟩⟩
    have lr6 := e6 _ _ lr5
    have lx6 := (lx.ex e5).ex e6
    have ly6 := (ly.ex e5).ex e6
    have B6 := ((B3.ex e4).ex e5).ex e6
    refine ⟨_, rfl, by decide, by decide, ?_⟩
    refine for_range (lo := 0) (n := 3) (fun i σ G => ∃ (v5 v6 v7 v8 v9 : Option V), σ = [some (.ref a), some (.ref b), some (.int (n : Int)), some (.ref q), some (.ref r), v5, v6, v7, v8, v9] ∧ Bx G b c ∧ Mut b H6 G) ⟨none, none, none, none, none, rfl, B6, fun _ _ _ h => h⟩ ?_ ?_
    · rintro i σ G hi ⟨v5, v6, v7, v8, v9, rfl, BG, MG⟩
      refine ⟨_, rfl, _, rfl, r, _, _, _, rfl, rfl, SqL.of (MG _ _ nrb lr6), atI_nat (j := 0) rfl, b, c, x, A0, rfl, BG, MG _ _ nxb lx6, nxb, by omega, fun p1 zs1 G1 hp1 B1 M1 l1 le1 => ?_⟩
      have np1b : p1 ≠ b := (BG.ne hp1).1
      have MG1 := MG.trans M1
      refine ⟨_, rfl, _, rfl, r, _, _, _, rfl, rfl, SqL.of (MG1 _ _ nrb lr6), atI_nat (j := 1) rfl, b, c, y, B0, rfl, B1, MG1 _ _ nyb ly6, nyb, by omega, fun p2 zs2 G2 hp2 B2 M2 l2 le2 => ?_⟩
      have l1' : ListI G2 p1 zs1 := M2 _ _ np1b l1
      refine ⟨_, rfl, _, rfl, p1, p2, zs1, zs2, rfl, l1', l2, le1, le2, fun du G3 hdu e3 hD => ?_⟩
      refine ⟨_, rfl, by decide, by decide, ?_⟩
      refine for_range (lo := 0) (n := 3) (fun m σ G4 => ∃ v9 : Option V, σ = [some (.ref a), some (.ref b), some (.int (n : Int)), some (.ref q), some (.ref r), some (.int (0 + (i : Int))), some (.ref p1), some (.ref p2), some (.ref du), v9] ∧ Ex G3 G4) ⟨v9, rfl, Ex.refl G3⟩ ?_ ?_
      · rintro m σ G4 hm ⟨v9, rfl, e⟩
        rw [Int.zero_add]
        exact ⟨_, rfl, _, rfl, _, rfl, _, rfl, p1, p2, du, zs1, zs2, m, rfl, hm, (l1'.ex e3).ex e, (l2.ex e3).ex e, le1, le2, e _ _ hD, fun H' e' => ⟨true, rfl, iteF ⟨_, rfl, e.trans e'⟩⟩⟩
      · rintro σ G4 ⟨v9, rfl, e⟩
        exact ⟨_, _, _, _, _, rfl, (B2.ex e3).ex e, fun x o h1 h => e _ _ (e3 _ _ ((MG1.trans M2) _ _ h1 h))⟩
    rintro σ G ⟨v5, v6, v7, v8, v9, rfl, BG, MG⟩
    exact k G

end
end Pv
namespace Pv
open PySem L2 Evl
theorem all_mk {l : PySem.W.OpenLaw} {w : World} {K : PySem.W.Frag} {h : Heap} {mg : Str → Option Value} {fa f_check_image f_check_state f_check_pair f_parts f_kind_of f_part_of f_walk f_gain f_m_init f_m_kind f_law_mix f_law_box f_law_draw f_law_size f_law_whole f_law_row f_law_spoil f_law_entry f_law_unsettled f_law_parts_told f_law_kind_told f_law_ascending f_law_order f_law_piece f_law_built f_law_states f_law_least f_law_canonical f_law_due_parts f_law_due_kind f_law_fault f_law_bent f_law_call f_law_fault_told f_law_kept f_law c_MendError N_MendError_ c_InvalidImage N_InvalidImage_ i_InvalidImage c_NotState N_NotState_ i_NotState c_UnequalSizes N_UnequalSizes_ c_Update p_kind : Addr}
    {od_check_image an_check_image od_check_state an_check_state od_check_pair an_check_pair od_parts an_parts od_kind_of an_kind_of od_part_of an_part_of od_walk an_walk od_gain an_gain od_m_init an_m_init od_m_kind an_m_kind od_law_mix an_law_mix od_law_box an_law_box od_law_draw an_law_draw od_law_size an_law_size od_law_whole an_law_whole od_law_row an_law_row od_law_spoil an_law_spoil od_law_entry an_law_entry od_law_unsettled an_law_unsettled od_law_parts_told an_law_parts_told od_law_kind_told an_law_kind_told od_law_ascending an_law_ascending od_law_order an_law_order od_law_piece an_law_piece od_law_built an_law_built od_law_states an_law_states od_law_least an_law_least od_law_canonical an_law_canonical od_law_due_parts an_law_due_parts od_law_due_kind an_law_due_kind od_law_fault an_law_fault od_law_bent an_law_bent od_law_call an_law_call od_law_fault_told an_law_fault_told od_law_kept an_law_kept od_law an_law dd_MendError dd_InvalidImage od_i_InvalidImage an_i_InvalidImage dd_NotState od_i_NotState an_i_NotState dd_UnequalSizes : Option Addr}
    {sl_check_image sl_check_state sl_check_pair sl_parts sl_kind_of sl_part_of sl_walk sl_gain sl_m_init sl_m_kind sl_law_mix sl_law_box sl_law_draw sl_law_size sl_law_whole sl_law_row sl_law_spoil sl_law_entry sl_law_unsettled sl_law_parts_told sl_law_kind_told sl_law_ascending sl_law_order sl_law_piece sl_law_built sl_law_states sl_law_least sl_law_canonical sl_law_due_parts sl_law_due_kind sl_law_fault sl_law_bent sl_law_call sl_law_fault_told sl_law_kept sl_law sl_i_InvalidImage sl_i_NotState : Array (Option Value)}
    {oc_check_image doc_check_image pm_check_image cd_check_image ct_check_image kV_check_image oc_check_state doc_check_state pm_check_state cd_check_state ct_check_state kV_check_state oc_check_pair doc_check_pair pm_check_pair cd_check_pair ct_check_pair kV_check_pair oc_parts doc_parts pm_parts cd_parts ct_parts kV_parts oc_kind_of doc_kind_of pm_kind_of cd_kind_of ct_kind_of kV_kind_of oc_part_of doc_part_of pm_part_of cd_part_of ct_part_of kV_part_of oc_walk doc_walk pm_walk cd_walk ct_walk kV_walk oc_gain doc_gain pm_gain cd_gain ct_gain kV_gain oc_m_init doc_m_init pm_m_init cd_m_init ct_m_init kV_m_init oc_m_kind doc_m_kind pm_m_kind cd_m_kind ct_m_kind kV_m_kind oc_law_mix doc_law_mix pm_law_mix cd_law_mix ct_law_mix kV_law_mix oc_law_box doc_law_box pm_law_box cd_law_box ct_law_box kV_law_box oc_law_draw doc_law_draw pm_law_draw cd_law_draw ct_law_draw kV_law_draw oc_law_size doc_law_size pm_law_size cd_law_size ct_law_size kV_law_size oc_law_whole doc_law_whole pm_law_whole cd_law_whole ct_law_whole kV_law_whole oc_law_row doc_law_row pm_law_row cd_law_row ct_law_row kV_law_row oc_law_spoil doc_law_spoil pm_law_spoil cd_law_spoil ct_law_spoil kV_law_spoil oc_law_entry doc_law_entry pm_law_entry cd_law_entry ct_law_entry kV_law_entry oc_law_unsettled doc_law_unsettled pm_law_unsettled cd_law_unsettled ct_law_unsettled kV_law_unsettled oc_law_parts_told doc_law_parts_told pm_law_parts_told cd_law_parts_told ct_law_parts_told kV_law_parts_told oc_law_kind_told doc_law_kind_told pm_law_kind_told cd_law_kind_told ct_law_kind_told kV_law_kind_told oc_law_ascending doc_law_ascending pm_law_ascending cd_law_ascending ct_law_ascending kV_law_ascending oc_law_order doc_law_order pm_law_order cd_law_order ct_law_order kV_law_order oc_law_piece doc_law_piece pm_law_piece cd_law_piece ct_law_piece kV_law_piece oc_law_built doc_law_built pm_law_built cd_law_built ct_law_built kV_law_built oc_law_states doc_law_states pm_law_states cd_law_states ct_law_states kV_law_states oc_law_least doc_law_least pm_law_least cd_law_least ct_law_least kV_law_least oc_law_canonical doc_law_canonical pm_law_canonical cd_law_canonical ct_law_canonical kV_law_canonical oc_law_due_parts doc_law_due_parts pm_law_due_parts cd_law_due_parts ct_law_due_parts kV_law_due_parts oc_law_due_kind doc_law_due_kind pm_law_due_kind cd_law_due_kind ct_law_due_kind kV_law_due_kind oc_law_fault doc_law_fault pm_law_fault cd_law_fault ct_law_fault kV_law_fault oc_law_bent doc_law_bent pm_law_bent cd_law_bent ct_law_bent kV_law_bent oc_law_call doc_law_call pm_law_call cd_law_call ct_law_call kV_law_call oc_law_fault_told doc_law_fault_told pm_law_fault_told cd_law_fault_told ct_law_fault_told kV_law_fault_told oc_law_kept doc_law_kept pm_law_kept cd_law_kept ct_law_kept kV_law_kept oc_law doc_law pm_law cd_law ct_law kV_law oc_i_InvalidImage kV_i_InvalidImage doc_i_InvalidImage pm_i_InvalidImage cd_i_InvalidImage ct_i_InvalidImage oc_i_NotState kV_i_NotState doc_i_NotState pm_i_NotState cd_i_NotState ct_i_NotState : Value}
    {nm_MendError q_MendError nm_InvalidImage q_InvalidImage nm_NotState q_NotState nm_UnequalSizes q_UnequalSizes : Str}
    {bs_MendError sub_MendError bm_MendError bs_InvalidImage sub_InvalidImage bs_NotState sub_NotState bs_UnequalSizes sub_UnequalSizes rr_kind : List Value}
    {sn_MendError sn_InvalidImage sn_NotState sn_UnequalSizes : List Str}
    {ab_MendError ab_InvalidImage ab_NotState ab_UnequalSizes : Bool}
    {col_MendError col_InvalidImage col_NotState col_UnequalSizes : Option Bool}
    {k0_MendError k1_MendError k2_MendError k3_MendError k5_MendError k0_InvalidImage k1_InvalidImage k2_InvalidImage k3_InvalidImage k5_InvalidImage k0_NotState k1_NotState k2_NotState k3_NotState k5_NotState k0_UnequalSizes k1_UnequalSizes k2_UnequalSizes k3_UnequalSizes k5_UnequalSizes : Option Value}
    (X : K.In h) (G : h.Ns mainGlobals mg) (hfa : mg "law" = some (.ref fa))
    (a_Update : PySem.W.nsIn K mainGlobals "Update" = some (some (.ref c_Update)))
    (rm2 : PySem.W.findIn K (.ref c_Update) "__init__" = some (some (.ref f_m_init)))
    (pa_kind : PySem.W.findIn K (.ref c_Update) "kind" = some (some (.ref p_kind)))
    (pd_kind : PySem.W.recIn K p_kind "property" = some (.ref f_m_kind :: rr_kind))
    (a_check_image : PySem.W.nsIn K mainGlobals "check_image" = some (some (.ref f_check_image)))
    (l_check_image : K.lookup f_check_image = some ⟨oc_check_image, od_check_image, .func (PySem.W.fnOf "check_image" "check_image" (defArgs s_check_image) (defBody s_check_image) (defScope s_check_image) .none kV_check_image doc_check_image pm_check_image an_check_image cd_check_image ct_check_image), sl_check_image⟩)
    (cd_is_check_image : PySem.W.codeIn K cd_check_image "check_image" = true)
    (k_check_image : PySem.W.keepIn K (.ref f_check_image) = true)
    (a_check_state : PySem.W.nsIn K mainGlobals "check_state" = some (some (.ref f_check_state)))
    (l_check_state : K.lookup f_check_state = some ⟨oc_check_state, od_check_state, .func (PySem.W.fnOf "check_state" "check_state" (defArgs s_check_state) (defBody s_check_state) (defScope s_check_state) .none kV_check_state doc_check_state pm_check_state an_check_state cd_check_state ct_check_state), sl_check_state⟩)
    (cd_is_check_state : PySem.W.codeIn K cd_check_state "check_state" = true)
    (k_check_state : PySem.W.keepIn K (.ref f_check_state) = true)
    (a_check_pair : PySem.W.nsIn K mainGlobals "check_pair" = some (some (.ref f_check_pair)))
    (l_check_pair : K.lookup f_check_pair = some ⟨oc_check_pair, od_check_pair, .func (PySem.W.fnOf "check_pair" "check_pair" (defArgs s_check_pair) (defBody s_check_pair) (defScope s_check_pair) .none kV_check_pair doc_check_pair pm_check_pair an_check_pair cd_check_pair ct_check_pair), sl_check_pair⟩)
    (cd_is_check_pair : PySem.W.codeIn K cd_check_pair "check_pair" = true)
    (k_check_pair : PySem.W.keepIn K (.ref f_check_pair) = true)
    (a_parts : PySem.W.nsIn K mainGlobals "parts" = some (some (.ref f_parts)))
    (l_parts : K.lookup f_parts = some ⟨oc_parts, od_parts, .func (PySem.W.fnOf "parts" "parts" (defArgs s_parts) (defBody s_parts) (defScope s_parts) .none kV_parts doc_parts pm_parts an_parts cd_parts ct_parts), sl_parts⟩)
    (cd_is_parts : PySem.W.codeIn K cd_parts "parts" = true)
    (k_parts : PySem.W.keepIn K (.ref f_parts) = true)
    (a_kind_of : PySem.W.nsIn K mainGlobals "kind_of" = some (some (.ref f_kind_of)))
    (l_kind_of : K.lookup f_kind_of = some ⟨oc_kind_of, od_kind_of, .func (PySem.W.fnOf "kind_of" "kind_of" (defArgs s_kind_of) (defBody s_kind_of) (defScope s_kind_of) .none kV_kind_of doc_kind_of pm_kind_of an_kind_of cd_kind_of ct_kind_of), sl_kind_of⟩)
    (cd_is_kind_of : PySem.W.codeIn K cd_kind_of "kind_of" = true)
    (k_kind_of : PySem.W.keepIn K (.ref f_kind_of) = true)
    (a_part_of : PySem.W.nsIn K mainGlobals "_part_of" = some (some (.ref f_part_of)))
    (l_part_of : K.lookup f_part_of = some ⟨oc_part_of, od_part_of, .func (PySem.W.fnOf "_part_of" "_part_of" (defArgs s_part_of) (defBody s_part_of) (defScope s_part_of) .none kV_part_of doc_part_of pm_part_of an_part_of cd_part_of ct_part_of), sl_part_of⟩)
    (cd_is_part_of : PySem.W.codeIn K cd_part_of "_part_of" = true)
    (k_part_of : PySem.W.keepIn K (.ref f_part_of) = true)
    (a_walk : PySem.W.nsIn K mainGlobals "_walk" = some (some (.ref f_walk)))
    (l_walk : K.lookup f_walk = some ⟨oc_walk, od_walk, .func (PySem.W.fnOf "_walk" "_walk" (defArgs s_walk) (defBody s_walk) (defScope s_walk) .none kV_walk doc_walk pm_walk an_walk cd_walk ct_walk), sl_walk⟩)
    (cd_is_walk : PySem.W.codeIn K cd_walk "_walk" = true)
    (k_walk : PySem.W.keepIn K (.ref f_walk) = true)
    (a_gain : PySem.W.nsIn K mainGlobals "_gain" = some (some (.ref f_gain)))
    (l_gain : K.lookup f_gain = some ⟨oc_gain, od_gain, .func (PySem.W.fnOf "_gain" "_gain" (defArgs s_gain) (defBody s_gain) (defScope s_gain) .none kV_gain doc_gain pm_gain an_gain cd_gain ct_gain), sl_gain⟩)
    (cd_is_gain : PySem.W.codeIn K cd_gain "_gain" = true)
    (k_gain : PySem.W.keepIn K (.ref f_gain) = true)
    (l_m_init : K.lookup f_m_init = some ⟨oc_m_init, od_m_init, .func (PySem.W.fnOf "__init__" "Update.__init__" (defArgs s_m_init) (defBody s_m_init) (defScope s_m_init) .none kV_m_init doc_m_init pm_m_init an_m_init cd_m_init ct_m_init), sl_m_init⟩)
    (cd_is_m_init : PySem.W.codeIn K cd_m_init "Update.__init__" = true)
    (k_m_init : PySem.W.keepIn K (.ref f_m_init) = true)
    (l_m_kind : K.lookup f_m_kind = some ⟨oc_m_kind, od_m_kind, .func (PySem.W.fnOf "kind" "Update.kind" (defArgs s_m_kind) (defBody s_m_kind) (defScope s_m_kind) .none kV_m_kind doc_m_kind pm_m_kind an_m_kind cd_m_kind ct_m_kind), sl_m_kind⟩)
    (cd_is_m_kind : PySem.W.codeIn K cd_m_kind "Update.kind" = true)
    (k_m_kind : PySem.W.keepIn K (.ref f_m_kind) = true)
    (a_law_mix : PySem.W.nsIn K mainGlobals "_law_mix" = some (some (.ref f_law_mix)))
    (l_law_mix : K.lookup f_law_mix = some ⟨oc_law_mix, od_law_mix, .func (PySem.W.fnOf "_law_mix" "_law_mix" (defArgs s_law_mix) (defBody s_law_mix) (defScope s_law_mix) .none kV_law_mix doc_law_mix pm_law_mix an_law_mix cd_law_mix ct_law_mix), sl_law_mix⟩)
    (cd_is_law_mix : PySem.W.codeIn K cd_law_mix "_law_mix" = true)
    (k_law_mix : PySem.W.keepIn K (.ref f_law_mix) = true)
    (a_law_box : PySem.W.nsIn K mainGlobals "_law_box" = some (some (.ref f_law_box)))
    (l_law_box : K.lookup f_law_box = some ⟨oc_law_box, od_law_box, .func (PySem.W.fnOf "_law_box" "_law_box" (defArgs s_law_box) (defBody s_law_box) (defScope s_law_box) .none kV_law_box doc_law_box pm_law_box an_law_box cd_law_box ct_law_box), sl_law_box⟩)
    (cd_is_law_box : PySem.W.codeIn K cd_law_box "_law_box" = true)
    (k_law_box : PySem.W.keepIn K (.ref f_law_box) = true)
    (a_law_draw : PySem.W.nsIn K mainGlobals "_law_draw" = some (some (.ref f_law_draw)))
    (l_law_draw : K.lookup f_law_draw = some ⟨oc_law_draw, od_law_draw, .func (PySem.W.fnOf "_law_draw" "_law_draw" (defArgs s_law_draw) (defBody s_law_draw) (defScope s_law_draw) .none kV_law_draw doc_law_draw pm_law_draw an_law_draw cd_law_draw ct_law_draw), sl_law_draw⟩)
    (cd_is_law_draw : PySem.W.codeIn K cd_law_draw "_law_draw" = true)
    (k_law_draw : PySem.W.keepIn K (.ref f_law_draw) = true)
    (a_law_size : PySem.W.nsIn K mainGlobals "_law_size" = some (some (.ref f_law_size)))
    (l_law_size : K.lookup f_law_size = some ⟨oc_law_size, od_law_size, .func (PySem.W.fnOf "_law_size" "_law_size" (defArgs s_law_size) (defBody s_law_size) (defScope s_law_size) .none kV_law_size doc_law_size pm_law_size an_law_size cd_law_size ct_law_size), sl_law_size⟩)
    (cd_is_law_size : PySem.W.codeIn K cd_law_size "_law_size" = true)
    (k_law_size : PySem.W.keepIn K (.ref f_law_size) = true)
    (a_law_whole : PySem.W.nsIn K mainGlobals "_law_whole" = some (some (.ref f_law_whole)))
    (l_law_whole : K.lookup f_law_whole = some ⟨oc_law_whole, od_law_whole, .func (PySem.W.fnOf "_law_whole" "_law_whole" (defArgs s_law_whole) (defBody s_law_whole) (defScope s_law_whole) .none kV_law_whole doc_law_whole pm_law_whole an_law_whole cd_law_whole ct_law_whole), sl_law_whole⟩)
    (cd_is_law_whole : PySem.W.codeIn K cd_law_whole "_law_whole" = true)
    (k_law_whole : PySem.W.keepIn K (.ref f_law_whole) = true)
    (a_law_row : PySem.W.nsIn K mainGlobals "_law_row" = some (some (.ref f_law_row)))
    (l_law_row : K.lookup f_law_row = some ⟨oc_law_row, od_law_row, .func (PySem.W.fnOf "_law_row" "_law_row" (defArgs s_law_row) (defBody s_law_row) (defScope s_law_row) .none kV_law_row doc_law_row pm_law_row an_law_row cd_law_row ct_law_row), sl_law_row⟩)
    (cd_is_law_row : PySem.W.codeIn K cd_law_row "_law_row" = true)
    (k_law_row : PySem.W.keepIn K (.ref f_law_row) = true)
    (a_law_spoil : PySem.W.nsIn K mainGlobals "_law_spoil" = some (some (.ref f_law_spoil)))
    (l_law_spoil : K.lookup f_law_spoil = some ⟨oc_law_spoil, od_law_spoil, .func (PySem.W.fnOf "_law_spoil" "_law_spoil" (defArgs s_law_spoil) (defBody s_law_spoil) (defScope s_law_spoil) .none kV_law_spoil doc_law_spoil pm_law_spoil an_law_spoil cd_law_spoil ct_law_spoil), sl_law_spoil⟩)
    (cd_is_law_spoil : PySem.W.codeIn K cd_law_spoil "_law_spoil" = true)
    (k_law_spoil : PySem.W.keepIn K (.ref f_law_spoil) = true)
    (a_law_entry : PySem.W.nsIn K mainGlobals "_law_entry" = some (some (.ref f_law_entry)))
    (l_law_entry : K.lookup f_law_entry = some ⟨oc_law_entry, od_law_entry, .func (PySem.W.fnOf "_law_entry" "_law_entry" (defArgs s_law_entry) (defBody s_law_entry) (defScope s_law_entry) .none kV_law_entry doc_law_entry pm_law_entry an_law_entry cd_law_entry ct_law_entry), sl_law_entry⟩)
    (cd_is_law_entry : PySem.W.codeIn K cd_law_entry "_law_entry" = true)
    (k_law_entry : PySem.W.keepIn K (.ref f_law_entry) = true)
    (a_law_unsettled : PySem.W.nsIn K mainGlobals "_law_unsettled" = some (some (.ref f_law_unsettled)))
    (l_law_unsettled : K.lookup f_law_unsettled = some ⟨oc_law_unsettled, od_law_unsettled, .func (PySem.W.fnOf "_law_unsettled" "_law_unsettled" (defArgs s_law_unsettled) (defBody s_law_unsettled) (defScope s_law_unsettled) .none kV_law_unsettled doc_law_unsettled pm_law_unsettled an_law_unsettled cd_law_unsettled ct_law_unsettled), sl_law_unsettled⟩)
    (cd_is_law_unsettled : PySem.W.codeIn K cd_law_unsettled "_law_unsettled" = true)
    (k_law_unsettled : PySem.W.keepIn K (.ref f_law_unsettled) = true)
    (a_law_parts_told : PySem.W.nsIn K mainGlobals "_law_parts_told" = some (some (.ref f_law_parts_told)))
    (l_law_parts_told : K.lookup f_law_parts_told = some ⟨oc_law_parts_told, od_law_parts_told, .func (PySem.W.fnOf "_law_parts_told" "_law_parts_told" (defArgs s_law_parts_told) (defBody s_law_parts_told) (defScope s_law_parts_told) .none kV_law_parts_told doc_law_parts_told pm_law_parts_told an_law_parts_told cd_law_parts_told ct_law_parts_told), sl_law_parts_told⟩)
    (cd_is_law_parts_told : PySem.W.codeIn K cd_law_parts_told "_law_parts_told" = true)
    (k_law_parts_told : PySem.W.keepIn K (.ref f_law_parts_told) = true)
    (a_law_kind_told : PySem.W.nsIn K mainGlobals "_law_kind_told" = some (some (.ref f_law_kind_told)))
    (l_law_kind_told : K.lookup f_law_kind_told = some ⟨oc_law_kind_told, od_law_kind_told, .func (PySem.W.fnOf "_law_kind_told" "_law_kind_told" (defArgs s_law_kind_told) (defBody s_law_kind_told) (defScope s_law_kind_told) .none kV_law_kind_told doc_law_kind_told pm_law_kind_told an_law_kind_told cd_law_kind_told ct_law_kind_told), sl_law_kind_told⟩)
    (cd_is_law_kind_told : PySem.W.codeIn K cd_law_kind_told "_law_kind_told" = true)
    (k_law_kind_told : PySem.W.keepIn K (.ref f_law_kind_told) = true)
    (a_law_ascending : PySem.W.nsIn K mainGlobals "_law_ascending" = some (some (.ref f_law_ascending)))
    (l_law_ascending : K.lookup f_law_ascending = some ⟨oc_law_ascending, od_law_ascending, .func (PySem.W.fnOf "_law_ascending" "_law_ascending" (defArgs s_law_ascending) (defBody s_law_ascending) (defScope s_law_ascending) .none kV_law_ascending doc_law_ascending pm_law_ascending an_law_ascending cd_law_ascending ct_law_ascending), sl_law_ascending⟩)
    (cd_is_law_ascending : PySem.W.codeIn K cd_law_ascending "_law_ascending" = true)
    (k_law_ascending : PySem.W.keepIn K (.ref f_law_ascending) = true)
    (a_law_order : PySem.W.nsIn K mainGlobals "_law_order" = some (some (.ref f_law_order)))
    (l_law_order : K.lookup f_law_order = some ⟨oc_law_order, od_law_order, .func (PySem.W.fnOf "_law_order" "_law_order" (defArgs s_law_order) (defBody s_law_order) (defScope s_law_order) .none kV_law_order doc_law_order pm_law_order an_law_order cd_law_order ct_law_order), sl_law_order⟩)
    (cd_is_law_order : PySem.W.codeIn K cd_law_order "_law_order" = true)
    (k_law_order : PySem.W.keepIn K (.ref f_law_order) = true)
    (a_law_piece : PySem.W.nsIn K mainGlobals "_law_piece" = some (some (.ref f_law_piece)))
    (l_law_piece : K.lookup f_law_piece = some ⟨oc_law_piece, od_law_piece, .func (PySem.W.fnOf "_law_piece" "_law_piece" (defArgs s_law_piece) (defBody s_law_piece) (defScope s_law_piece) .none kV_law_piece doc_law_piece pm_law_piece an_law_piece cd_law_piece ct_law_piece), sl_law_piece⟩)
    (cd_is_law_piece : PySem.W.codeIn K cd_law_piece "_law_piece" = true)
    (k_law_piece : PySem.W.keepIn K (.ref f_law_piece) = true)
    (a_law_built : PySem.W.nsIn K mainGlobals "_law_built" = some (some (.ref f_law_built)))
    (l_law_built : K.lookup f_law_built = some ⟨oc_law_built, od_law_built, .func (PySem.W.fnOf "_law_built" "_law_built" (defArgs s_law_built) (defBody s_law_built) (defScope s_law_built) .none kV_law_built doc_law_built pm_law_built an_law_built cd_law_built ct_law_built), sl_law_built⟩)
    (cd_is_law_built : PySem.W.codeIn K cd_law_built "_law_built" = true)
    (k_law_built : PySem.W.keepIn K (.ref f_law_built) = true)
    (a_law_states : PySem.W.nsIn K mainGlobals "_law_states" = some (some (.ref f_law_states)))
    (l_law_states : K.lookup f_law_states = some ⟨oc_law_states, od_law_states, .func (PySem.W.fnOf "_law_states" "_law_states" (defArgs s_law_states) (defBody s_law_states) (defScope s_law_states) .none kV_law_states doc_law_states pm_law_states an_law_states cd_law_states ct_law_states), sl_law_states⟩)
    (cd_is_law_states : PySem.W.codeIn K cd_law_states "_law_states" = true)
    (k_law_states : PySem.W.keepIn K (.ref f_law_states) = true)
    (a_law_least : PySem.W.nsIn K mainGlobals "_law_least" = some (some (.ref f_law_least)))
    (l_law_least : K.lookup f_law_least = some ⟨oc_law_least, od_law_least, .func (PySem.W.fnOf "_law_least" "_law_least" (defArgs s_law_least) (defBody s_law_least) (defScope s_law_least) .none kV_law_least doc_law_least pm_law_least an_law_least cd_law_least ct_law_least), sl_law_least⟩)
    (cd_is_law_least : PySem.W.codeIn K cd_law_least "_law_least" = true)
    (k_law_least : PySem.W.keepIn K (.ref f_law_least) = true)
    (a_law_canonical : PySem.W.nsIn K mainGlobals "_law_canonical" = some (some (.ref f_law_canonical)))
    (l_law_canonical : K.lookup f_law_canonical = some ⟨oc_law_canonical, od_law_canonical, .func (PySem.W.fnOf "_law_canonical" "_law_canonical" (defArgs s_law_canonical) (defBody s_law_canonical) (defScope s_law_canonical) .none kV_law_canonical doc_law_canonical pm_law_canonical an_law_canonical cd_law_canonical ct_law_canonical), sl_law_canonical⟩)
    (cd_is_law_canonical : PySem.W.codeIn K cd_law_canonical "_law_canonical" = true)
    (k_law_canonical : PySem.W.keepIn K (.ref f_law_canonical) = true)
    (a_law_due_parts : PySem.W.nsIn K mainGlobals "_law_due_parts" = some (some (.ref f_law_due_parts)))
    (l_law_due_parts : K.lookup f_law_due_parts = some ⟨oc_law_due_parts, od_law_due_parts, .func (PySem.W.fnOf "_law_due_parts" "_law_due_parts" (defArgs s_law_due_parts) (defBody s_law_due_parts) (defScope s_law_due_parts) .none kV_law_due_parts doc_law_due_parts pm_law_due_parts an_law_due_parts cd_law_due_parts ct_law_due_parts), sl_law_due_parts⟩)
    (cd_is_law_due_parts : PySem.W.codeIn K cd_law_due_parts "_law_due_parts" = true)
    (k_law_due_parts : PySem.W.keepIn K (.ref f_law_due_parts) = true)
    (a_law_due_kind : PySem.W.nsIn K mainGlobals "_law_due_kind" = some (some (.ref f_law_due_kind)))
    (l_law_due_kind : K.lookup f_law_due_kind = some ⟨oc_law_due_kind, od_law_due_kind, .func (PySem.W.fnOf "_law_due_kind" "_law_due_kind" (defArgs s_law_due_kind) (defBody s_law_due_kind) (defScope s_law_due_kind) .none kV_law_due_kind doc_law_due_kind pm_law_due_kind an_law_due_kind cd_law_due_kind ct_law_due_kind), sl_law_due_kind⟩)
    (cd_is_law_due_kind : PySem.W.codeIn K cd_law_due_kind "_law_due_kind" = true)
    (k_law_due_kind : PySem.W.keepIn K (.ref f_law_due_kind) = true)
    (a_law_fault : PySem.W.nsIn K mainGlobals "_law_fault" = some (some (.ref f_law_fault)))
    (l_law_fault : K.lookup f_law_fault = some ⟨oc_law_fault, od_law_fault, .func (PySem.W.fnOf "_law_fault" "_law_fault" (defArgs s_law_fault) (defBody s_law_fault) (defScope s_law_fault) .none kV_law_fault doc_law_fault pm_law_fault an_law_fault cd_law_fault ct_law_fault), sl_law_fault⟩)
    (cd_is_law_fault : PySem.W.codeIn K cd_law_fault "_law_fault" = true)
    (k_law_fault : PySem.W.keepIn K (.ref f_law_fault) = true)
    (a_law_bent : PySem.W.nsIn K mainGlobals "_law_bent" = some (some (.ref f_law_bent)))
    (l_law_bent : K.lookup f_law_bent = some ⟨oc_law_bent, od_law_bent, .func (PySem.W.fnOf "_law_bent" "_law_bent" (defArgs s_law_bent) (defBody s_law_bent) (defScope s_law_bent) .none kV_law_bent doc_law_bent pm_law_bent an_law_bent cd_law_bent ct_law_bent), sl_law_bent⟩)
    (cd_is_law_bent : PySem.W.codeIn K cd_law_bent "_law_bent" = true)
    (k_law_bent : PySem.W.keepIn K (.ref f_law_bent) = true)
    (a_law_call : PySem.W.nsIn K mainGlobals "_law_call" = some (some (.ref f_law_call)))
    (l_law_call : K.lookup f_law_call = some ⟨oc_law_call, od_law_call, .func (PySem.W.fnOf "_law_call" "_law_call" (defArgs s_law_call) (defBody s_law_call) (defScope s_law_call) .none kV_law_call doc_law_call pm_law_call an_law_call cd_law_call ct_law_call), sl_law_call⟩)
    (cd_is_law_call : PySem.W.codeIn K cd_law_call "_law_call" = true)
    (k_law_call : PySem.W.keepIn K (.ref f_law_call) = true)
    (a_law_fault_told : PySem.W.nsIn K mainGlobals "_law_fault_told" = some (some (.ref f_law_fault_told)))
    (l_law_fault_told : K.lookup f_law_fault_told = some ⟨oc_law_fault_told, od_law_fault_told, .func (PySem.W.fnOf "_law_fault_told" "_law_fault_told" (defArgs s_law_fault_told) (defBody s_law_fault_told) (defScope s_law_fault_told) .none kV_law_fault_told doc_law_fault_told pm_law_fault_told an_law_fault_told cd_law_fault_told ct_law_fault_told), sl_law_fault_told⟩)
    (cd_is_law_fault_told : PySem.W.codeIn K cd_law_fault_told "_law_fault_told" = true)
    (k_law_fault_told : PySem.W.keepIn K (.ref f_law_fault_told) = true)
    (a_law_kept : PySem.W.nsIn K mainGlobals "_law_kept" = some (some (.ref f_law_kept)))
    (l_law_kept : K.lookup f_law_kept = some ⟨oc_law_kept, od_law_kept, .func (PySem.W.fnOf "_law_kept" "_law_kept" (defArgs s_law_kept) (defBody s_law_kept) (defScope s_law_kept) .none kV_law_kept doc_law_kept pm_law_kept an_law_kept cd_law_kept ct_law_kept), sl_law_kept⟩)
    (cd_is_law_kept : PySem.W.codeIn K cd_law_kept "_law_kept" = true)
    (k_law_kept : PySem.W.keepIn K (.ref f_law_kept) = true)
    (a_law : PySem.W.nsIn K mainGlobals "law" = some (some (.ref f_law)))
    (l_law : K.lookup f_law = some ⟨oc_law, od_law, .func (PySem.W.fnOf "law" "law" (defArgs s_law) (defBody s_law) (defScope s_law) .none kV_law doc_law pm_law an_law cd_law ct_law), sl_law⟩)
    (cd_is_law : PySem.W.codeIn K cd_law "law" = true)
    (k_law : PySem.W.keepIn K (.ref f_law) = true)
    (a_MendError : PySem.W.nsIn K mainGlobals "MendError" = some (some (.ref c_MendError)))
    (x_MendError : K.lookup c_MendError = some (excClassObj nm_MendError q_MendError c_MendError N_MendError_ bs_MendError bm_MendError true sn_MendError sub_MendError ab_MendError col_MendError dd_MendError k0_MendError k1_MendError k2_MendError k3_MendError k5_MendError "ValueError.__new__"))
    (a_InvalidImage : PySem.W.nsIn K mainGlobals "InvalidImage" = some (some (.ref c_InvalidImage)))
    (x_InvalidImage : K.lookup c_InvalidImage = some (excClassObj nm_InvalidImage q_InvalidImage c_InvalidImage N_InvalidImage_ bs_InvalidImage [.ref c_MendError, .type "ValueError", .type "Exception", .type "BaseException", .type "object"] true sn_InvalidImage sub_InvalidImage ab_InvalidImage col_InvalidImage dd_InvalidImage k0_InvalidImage k1_InvalidImage k2_InvalidImage k3_InvalidImage k5_InvalidImage "ValueError.__new__"))
    (kc_InvalidImage : PySem.W.keepIn K (.ref c_InvalidImage) = true)
    (sa_InvalidImage : PySem.W.findIn K (.ref c_InvalidImage) "__setattr__" = some (some (.builtin "object.__setattr__")))
    (ga_InvalidImage : PySem.W.findIn K (.ref c_InvalidImage) "__getattribute__" = some (some (.builtin "BaseException.__getattribute__")))
    (gg_InvalidImage : PySem.W.findIn K (.ref c_InvalidImage) "__getattr__" = some none)
    (ca_InvalidImage : PySem.W.findIn K (.ref c_InvalidImage) "__class__" = some (some (.builtin "object.__class__")))
    (i_is_InvalidImage : PySem.W.findIn K (.ref c_InvalidImage) "__init__" = some (some (.ref i_InvalidImage)))
    (t_InvalidImage : PySem.W.typeIn K (.ref i_InvalidImage) = some (.type "function"))
    (nf_InvalidImage : PySem.W.findIn K (.ref c_InvalidImage) "record" = some none)
    (l_i_InvalidImage : K.lookup i_InvalidImage = some ⟨oc_i_InvalidImage, od_i_InvalidImage, .func (PySem.W.fnOf "__init__" "InvalidImage.__init__" (defArgs s_InvalidImage) (defBody s_InvalidImage) (defScope s_InvalidImage) .none kV_i_InvalidImage doc_i_InvalidImage pm_i_InvalidImage an_i_InvalidImage cd_i_InvalidImage ct_i_InvalidImage), sl_i_InvalidImage⟩)
    (cd_is_i_InvalidImage : PySem.W.codeIn K cd_i_InvalidImage "InvalidImage.__init__" = true)
    (k_i_InvalidImage : PySem.W.keepIn K (.ref i_InvalidImage) = true)
    (a_NotState : PySem.W.nsIn K mainGlobals "NotState" = some (some (.ref c_NotState)))
    (x_NotState : K.lookup c_NotState = some (excClassObj nm_NotState q_NotState c_NotState N_NotState_ bs_NotState [.ref c_MendError, .type "ValueError", .type "Exception", .type "BaseException", .type "object"] true sn_NotState sub_NotState ab_NotState col_NotState dd_NotState k0_NotState k1_NotState k2_NotState k3_NotState k5_NotState "ValueError.__new__"))
    (kc_NotState : PySem.W.keepIn K (.ref c_NotState) = true)
    (sa_NotState : PySem.W.findIn K (.ref c_NotState) "__setattr__" = some (some (.builtin "object.__setattr__")))
    (ga_NotState : PySem.W.findIn K (.ref c_NotState) "__getattribute__" = some (some (.builtin "BaseException.__getattribute__")))
    (gg_NotState : PySem.W.findIn K (.ref c_NotState) "__getattr__" = some none)
    (ca_NotState : PySem.W.findIn K (.ref c_NotState) "__class__" = some (some (.builtin "object.__class__")))
    (i_is_NotState : PySem.W.findIn K (.ref c_NotState) "__init__" = some (some (.ref i_NotState)))
    (t_NotState : PySem.W.typeIn K (.ref i_NotState) = some (.type "function"))
    (nf_NotState : PySem.W.findIn K (.ref c_NotState) "record" = some none)
    (l_i_NotState : K.lookup i_NotState = some ⟨oc_i_NotState, od_i_NotState, .func (PySem.W.fnOf "__init__" "NotState.__init__" (defArgs s_NotState) (defBody s_NotState) (defScope s_NotState) .none kV_i_NotState doc_i_NotState pm_i_NotState an_i_NotState cd_i_NotState ct_i_NotState), sl_i_NotState⟩)
    (cd_is_i_NotState : PySem.W.codeIn K cd_i_NotState "NotState.__init__" = true)
    (k_i_NotState : PySem.W.keepIn K (.ref i_NotState) = true)
    (a_UnequalSizes : PySem.W.nsIn K mainGlobals "UnequalSizes" = some (some (.ref c_UnequalSizes)))
    (x_UnequalSizes : K.lookup c_UnequalSizes = some (excClassObj nm_UnequalSizes q_UnequalSizes c_UnequalSizes N_UnequalSizes_ bs_UnequalSizes [.ref c_MendError, .type "ValueError", .type "Exception", .type "BaseException", .type "object"] true sn_UnequalSizes sub_UnequalSizes ab_UnequalSizes col_UnequalSizes dd_UnequalSizes k0_UnequalSizes k1_UnequalSizes k2_UnequalSizes k3_UnequalSizes k5_UnequalSizes "ValueError.__new__"))
    (kc_UnequalSizes : PySem.W.keepIn K (.ref c_UnequalSizes) = true)
    (sa_UnequalSizes : PySem.W.findIn K (.ref c_UnequalSizes) "__setattr__" = some (some (.builtin "object.__setattr__")))
    (ga_UnequalSizes : PySem.W.findIn K (.ref c_UnequalSizes) "__getattribute__" = some (some (.builtin "BaseException.__getattribute__")))
    (gg_UnequalSizes : PySem.W.findIn K (.ref c_UnequalSizes) "__getattr__" = some none)
    (ca_UnequalSizes : PySem.W.findIn K (.ref c_UnequalSizes) "__class__" = some (some (.builtin "object.__class__")))
    (q_is_UnequalSizes : PySem.W.excIn K c_UnequalSizes [.type "ValueError", .type "Exception", .type "BaseException", .type "object"] "ValueError.__new__" = true)
    (cn : PySem.W.specialIn K (.builtin "object.__class__") "__get__" = some (some (.builtin "getset_descriptor.__get__")))
    (ct : PySem.W.takesIn K (.builtin "object.__class__") = some true)
    (nd : [c_MendError, c_InvalidImage, c_NotState, c_UnequalSizes].Nodup)
    (rc1 : PySem.W.plainGet K c_Update Str.empty = true)
    (rc2 : PySem.W.hasDictIn K c_Update = true)
    (rc3 : PySem.W.plainOver K c_Update = true)
    (rc4 : PySem.W.findIn K (.ref c_Update) "__setattr__" = some (some (.builtin "object.__setattr__")))
    (rm1 : PySem.W.makesIn K c_Update = true)
    (rm3 : PySem.W.isFn K (.ref f_m_init) = true)
    (rm4 : PySem.W.keepIn K (.ref c_Update) = true)
    (pb_kind : PySem.W.specialIn K (.ref p_kind) "__get__" = some (some (.builtin "property.__get__")))
    (pc_kind : PySem.W.takesIn K (.ref p_kind) = some true)
    (nc_is_before : PySem.W.findIn K (.ref c_Update) "before" = some none)
    (nc_is_after : PySem.W.findIn K (.ref c_Update) "after" = some none)
    (z_ValueError : PySem.W.nsIn K mainGlobals "ValueError" = some none)
    (z_int : PySem.W.nsIn K mainGlobals "int" = some none)
    (z_bool : PySem.W.nsIn K mainGlobals "bool" = some none)
    (z_str : PySem.W.nsIn K mainGlobals "str" = some none)
    (z_list : PySem.W.nsIn K mainGlobals "list" = some none)
    (z_tuple : PySem.W.nsIn K mainGlobals "tuple" = some none)
    (z_len : PySem.W.nsIn K mainGlobals "len" = some none)
    (z_range : PySem.W.nsIn K mainGlobals "range" = some none)
    (z_enumerate : PySem.W.nsIn K mainGlobals "enumerate" = some none)
    (z_isinstance : PySem.W.nsIn K mainGlobals "isinstance" = some none)
    (z_min : PySem.W.nsIn K mainGlobals "min" = some none)
    (z_abs : PySem.W.nsIn K mainGlobals "abs" = some none)
    (z_sorted : PySem.W.nsIn K mainGlobals "sorted" = some none)
    : ∃ fd : FuncData, (∀ (s : Shared) (v : Value), BindsTo s fd ⟨[v], []⟩ [("script", v)]) ∧ ∀ base : Heap, K.In base → base.Ns mainGlobals mg → FnOk l.prog w K mg base CX0 11 fa fd ["script"] (spLaw K) := by
  have e := hfa.symm.trans (PySem.W.mg_of X G a_law)
  cases e
  obtain ⟨A, hA⟩ : ∃ A : Ad, A = ⟨f_check_image, f_check_state, f_check_pair, f_parts, f_kind_of, f_part_of, f_walk, f_gain, f_m_init, f_m_kind, f_law_mix, f_law_box, f_law_draw, f_law_size, f_law_whole, f_law_row, f_law_spoil, f_law_entry, f_law_unsettled, f_law_parts_told, f_law_kind_told, f_law_ascending, f_law_order, f_law_piece, f_law_built, f_law_states, f_law_least, f_law_canonical, f_law_due_parts, f_law_due_kind, f_law_fault, f_law_bent, f_law_call, f_law_fault_told, f_law_kept, fa, c_MendError, c_InvalidImage, c_NotState, c_UnequalSizes, i_InvalidImage, i_NotState, c_Update, p_kind⟩ := ⟨_, rfl⟩
  have T : Txt K mg A := {
    g_check_image := by rw [hA]; exact PySem.W.mg_of X G a_check_image,
    k_check_image := by rw [hA]; exact k_check_image,
    d_check_image := by rw [hA]; exact ⟨_, fun_mk (st := s_check_image) l_check_image cd_is_check_image k_check_image⟩,
    g_check_state := by rw [hA]; exact PySem.W.mg_of X G a_check_state,
    k_check_state := by rw [hA]; exact k_check_state,
    d_check_state := by rw [hA]; exact ⟨_, fun_mk (st := s_check_state) l_check_state cd_is_check_state k_check_state⟩,
    g_check_pair := by rw [hA]; exact PySem.W.mg_of X G a_check_pair,
    k_check_pair := by rw [hA]; exact k_check_pair,
    d_check_pair := by rw [hA]; exact ⟨_, fun_mk (st := s_check_pair) l_check_pair cd_is_check_pair k_check_pair⟩,
    g_parts := by rw [hA]; exact PySem.W.mg_of X G a_parts,
    k_parts := by rw [hA]; exact k_parts,
    d_parts := by rw [hA]; exact ⟨_, fun_mk (st := s_parts) l_parts cd_is_parts k_parts⟩,
    g_kind_of := by rw [hA]; exact PySem.W.mg_of X G a_kind_of,
    k_kind_of := by rw [hA]; exact k_kind_of,
    d_kind_of := by rw [hA]; exact ⟨_, fun_mk (st := s_kind_of) l_kind_of cd_is_kind_of k_kind_of⟩,
    g_part_of := by rw [hA]; exact PySem.W.mg_of X G a_part_of,
    k_part_of := by rw [hA]; exact k_part_of,
    d_part_of := by rw [hA]; exact ⟨_, fun_mk (st := s_part_of) l_part_of cd_is_part_of k_part_of⟩,
    g_walk := by rw [hA]; exact PySem.W.mg_of X G a_walk,
    k_walk := by rw [hA]; exact k_walk,
    d_walk := by rw [hA]; exact ⟨_, fun_mk (st := s_walk) l_walk cd_is_walk k_walk⟩,
    g_gain := by rw [hA]; exact PySem.W.mg_of X G a_gain,
    k_gain := by rw [hA]; exact k_gain,
    d_gain := by rw [hA]; exact ⟨_, fun_mk (st := s_gain) l_gain cd_is_gain k_gain⟩,
    d_m_init := by rw [hA]; exact ⟨_, fun_mk (st := s_m_init) l_m_init cd_is_m_init k_m_init⟩,
    d_m_kind := by rw [hA]; exact ⟨_, fun_mk (st := s_m_kind) l_m_kind cd_is_m_kind k_m_kind⟩,
    g_law_mix := by rw [hA]; exact PySem.W.mg_of X G a_law_mix,
    k_law_mix := by rw [hA]; exact k_law_mix,
    d_law_mix := by rw [hA]; exact ⟨_, fun_mk (st := s_law_mix) l_law_mix cd_is_law_mix k_law_mix⟩,
    g_law_box := by rw [hA]; exact PySem.W.mg_of X G a_law_box,
    k_law_box := by rw [hA]; exact k_law_box,
    d_law_box := by rw [hA]; exact ⟨_, fun_mk (st := s_law_box) l_law_box cd_is_law_box k_law_box⟩,
    g_law_draw := by rw [hA]; exact PySem.W.mg_of X G a_law_draw,
    k_law_draw := by rw [hA]; exact k_law_draw,
    d_law_draw := by rw [hA]; exact ⟨_, fun_mk (st := s_law_draw) l_law_draw cd_is_law_draw k_law_draw⟩,
    g_law_size := by rw [hA]; exact PySem.W.mg_of X G a_law_size,
    k_law_size := by rw [hA]; exact k_law_size,
    d_law_size := by rw [hA]; exact ⟨_, fun_mk (st := s_law_size) l_law_size cd_is_law_size k_law_size⟩,
    g_law_whole := by rw [hA]; exact PySem.W.mg_of X G a_law_whole,
    k_law_whole := by rw [hA]; exact k_law_whole,
    d_law_whole := by rw [hA]; exact ⟨_, fun_mk (st := s_law_whole) l_law_whole cd_is_law_whole k_law_whole⟩,
    g_law_row := by rw [hA]; exact PySem.W.mg_of X G a_law_row,
    k_law_row := by rw [hA]; exact k_law_row,
    d_law_row := by rw [hA]; exact ⟨_, fun_mk (st := s_law_row) l_law_row cd_is_law_row k_law_row⟩,
    g_law_spoil := by rw [hA]; exact PySem.W.mg_of X G a_law_spoil,
    k_law_spoil := by rw [hA]; exact k_law_spoil,
    d_law_spoil := by rw [hA]; exact ⟨_, fun_mk (st := s_law_spoil) l_law_spoil cd_is_law_spoil k_law_spoil⟩,
    g_law_entry := by rw [hA]; exact PySem.W.mg_of X G a_law_entry,
    k_law_entry := by rw [hA]; exact k_law_entry,
    d_law_entry := by rw [hA]; exact ⟨_, fun_mk (st := s_law_entry) l_law_entry cd_is_law_entry k_law_entry⟩,
    g_law_unsettled := by rw [hA]; exact PySem.W.mg_of X G a_law_unsettled,
    k_law_unsettled := by rw [hA]; exact k_law_unsettled,
    d_law_unsettled := by rw [hA]; exact ⟨_, fun_mk (st := s_law_unsettled) l_law_unsettled cd_is_law_unsettled k_law_unsettled⟩,
    g_law_parts_told := by rw [hA]; exact PySem.W.mg_of X G a_law_parts_told,
    k_law_parts_told := by rw [hA]; exact k_law_parts_told,
    d_law_parts_told := by rw [hA]; exact ⟨_, fun_mk (st := s_law_parts_told) l_law_parts_told cd_is_law_parts_told k_law_parts_told⟩,
    g_law_kind_told := by rw [hA]; exact PySem.W.mg_of X G a_law_kind_told,
    k_law_kind_told := by rw [hA]; exact k_law_kind_told,
    d_law_kind_told := by rw [hA]; exact ⟨_, fun_mk (st := s_law_kind_told) l_law_kind_told cd_is_law_kind_told k_law_kind_told⟩,
    g_law_ascending := by rw [hA]; exact PySem.W.mg_of X G a_law_ascending,
    k_law_ascending := by rw [hA]; exact k_law_ascending,
    d_law_ascending := by rw [hA]; exact ⟨_, fun_mk (st := s_law_ascending) l_law_ascending cd_is_law_ascending k_law_ascending⟩,
    g_law_order := by rw [hA]; exact PySem.W.mg_of X G a_law_order,
    k_law_order := by rw [hA]; exact k_law_order,
    d_law_order := by rw [hA]; exact ⟨_, fun_mk (st := s_law_order) l_law_order cd_is_law_order k_law_order⟩,
    g_law_piece := by rw [hA]; exact PySem.W.mg_of X G a_law_piece,
    k_law_piece := by rw [hA]; exact k_law_piece,
    d_law_piece := by rw [hA]; exact ⟨_, fun_mk (st := s_law_piece) l_law_piece cd_is_law_piece k_law_piece⟩,
    g_law_built := by rw [hA]; exact PySem.W.mg_of X G a_law_built,
    k_law_built := by rw [hA]; exact k_law_built,
    d_law_built := by rw [hA]; exact ⟨_, fun_mk (st := s_law_built) l_law_built cd_is_law_built k_law_built⟩,
    g_law_states := by rw [hA]; exact PySem.W.mg_of X G a_law_states,
    k_law_states := by rw [hA]; exact k_law_states,
    d_law_states := by rw [hA]; exact ⟨_, fun_mk (st := s_law_states) l_law_states cd_is_law_states k_law_states⟩,
    g_law_least := by rw [hA]; exact PySem.W.mg_of X G a_law_least,
    k_law_least := by rw [hA]; exact k_law_least,
    d_law_least := by rw [hA]; exact ⟨_, fun_mk (st := s_law_least) l_law_least cd_is_law_least k_law_least⟩,
    g_law_canonical := by rw [hA]; exact PySem.W.mg_of X G a_law_canonical,
    k_law_canonical := by rw [hA]; exact k_law_canonical,
    d_law_canonical := by rw [hA]; exact ⟨_, fun_mk (st := s_law_canonical) l_law_canonical cd_is_law_canonical k_law_canonical⟩,
    g_law_due_parts := by rw [hA]; exact PySem.W.mg_of X G a_law_due_parts,
    k_law_due_parts := by rw [hA]; exact k_law_due_parts,
    d_law_due_parts := by rw [hA]; exact ⟨_, fun_mk (st := s_law_due_parts) l_law_due_parts cd_is_law_due_parts k_law_due_parts⟩,
    g_law_due_kind := by rw [hA]; exact PySem.W.mg_of X G a_law_due_kind,
    k_law_due_kind := by rw [hA]; exact k_law_due_kind,
    d_law_due_kind := by rw [hA]; exact ⟨_, fun_mk (st := s_law_due_kind) l_law_due_kind cd_is_law_due_kind k_law_due_kind⟩,
    g_law_fault := by rw [hA]; exact PySem.W.mg_of X G a_law_fault,
    k_law_fault := by rw [hA]; exact k_law_fault,
    d_law_fault := by rw [hA]; exact ⟨_, fun_mk (st := s_law_fault) l_law_fault cd_is_law_fault k_law_fault⟩,
    g_law_bent := by rw [hA]; exact PySem.W.mg_of X G a_law_bent,
    k_law_bent := by rw [hA]; exact k_law_bent,
    d_law_bent := by rw [hA]; exact ⟨_, fun_mk (st := s_law_bent) l_law_bent cd_is_law_bent k_law_bent⟩,
    g_law_call := by rw [hA]; exact PySem.W.mg_of X G a_law_call,
    k_law_call := by rw [hA]; exact k_law_call,
    d_law_call := by rw [hA]; exact ⟨_, fun_mk (st := s_law_call) l_law_call cd_is_law_call k_law_call⟩,
    g_law_fault_told := by rw [hA]; exact PySem.W.mg_of X G a_law_fault_told,
    k_law_fault_told := by rw [hA]; exact k_law_fault_told,
    d_law_fault_told := by rw [hA]; exact ⟨_, fun_mk (st := s_law_fault_told) l_law_fault_told cd_is_law_fault_told k_law_fault_told⟩,
    g_law_kept := by rw [hA]; exact PySem.W.mg_of X G a_law_kept,
    k_law_kept := by rw [hA]; exact k_law_kept,
    d_law_kept := by rw [hA]; exact ⟨_, fun_mk (st := s_law_kept) l_law_kept cd_is_law_kept k_law_kept⟩,
    g_law := by rw [hA]; exact PySem.W.mg_of X G a_law,
    k_law := by rw [hA]; exact k_law,
    d_law := by rw [hA]; exact ⟨_, fun_mk (st := s_law) l_law cd_is_law k_law⟩,
    e_MendError := by rw [hA]; exact ⟨PySem.W.mg_of X G a_MendError, ⟨_, _, _, _, _, _, _, _, _, _, _, _, _, _, _, x_MendError⟩⟩,
    e_InvalidImage := by rw [hA]; exact ⟨PySem.W.mg_of X G a_InvalidImage, kc_InvalidImage, ⟨_, _, _, _, _, _, _, _, _, _, _, _, _, _, x_InvalidImage⟩, sa_InvalidImage, ga_InvalidImage, gg_InvalidImage, ca_InvalidImage⟩,
    f_InvalidImage := by rw [hA]; exact ⟨i_is_InvalidImage, t_InvalidImage, nf_InvalidImage, ⟨_, fun_mk (st := s_InvalidImage) l_i_InvalidImage cd_is_i_InvalidImage k_i_InvalidImage⟩⟩,
    e_NotState := by rw [hA]; exact ⟨PySem.W.mg_of X G a_NotState, kc_NotState, ⟨_, _, _, _, _, _, _, _, _, _, _, _, _, _, x_NotState⟩, sa_NotState, ga_NotState, gg_NotState, ca_NotState⟩,
    f_NotState := by rw [hA]; exact ⟨i_is_NotState, t_NotState, nf_NotState, ⟨_, fun_mk (st := s_NotState) l_i_NotState cd_is_i_NotState k_i_NotState⟩⟩,
    e_UnequalSizes := by rw [hA]; exact ⟨PySem.W.mg_of X G a_UnequalSizes, kc_UnequalSizes, ⟨_, _, _, _, _, _, _, _, _, _, _, _, _, _, x_UnequalSizes⟩, sa_UnequalSizes, ga_UnequalSizes, gg_UnequalSizes, ca_UnequalSizes⟩,
    q_UnequalSizes := by rw [hA]; exact q_is_UnequalSizes,
    cn := cn,
    ct := ct,
    nd := by rw [hA]; exact nd,
    g_Update := by rw [hA]; exact PySem.W.mg_of X G a_Update,
    cR := by rw [hA]; exact ⟨rc1, rc2, rc3, rc4⟩,
    mkR := by rw [hA]; exact ⟨rm1, rm2, rm3, rm4⟩,
    pp_kind := by rw [hA]; exact ⟨pa_kind, pb_kind, pc_kind, _, pd_kind⟩,
    nc_before := by rw [hA]; exact nc_is_before,
    nc_after := by rw [hA]; exact nc_is_after,
    n_ValueError := PySem.W.mg_none_of X G z_ValueError,
    n_int := PySem.W.mg_none_of X G z_int,
    n_bool := PySem.W.mg_none_of X G z_bool,
    n_str := PySem.W.mg_none_of X G z_str,
    n_list := PySem.W.mg_none_of X G z_list,
    n_tuple := PySem.W.mg_none_of X G z_tuple,
    n_len := PySem.W.mg_none_of X G z_len,
    n_range := PySem.W.mg_none_of X G z_range,
    n_enumerate := PySem.W.mg_none_of X G z_enumerate,
    n_isinstance := PySem.W.mg_none_of X G z_isinstance,
    n_min := PySem.W.mg_none_of X G z_min,
    n_abs := PySem.W.mg_none_of X G z_abs,
    n_sorted := PySem.W.mg_none_of X G z_sorted }
  have FL := fun_mk (st := s_law) l_law cd_is_law k_law
  have eL : A.law = fa := by rw [hA]
  refine ⟨PySem.W.fnOf "law" "law" (defArgs s_law) (defBody s_law) (defScope s_law) .none kV_law doc_law pm_law an_law cd_law ct_law, fun s v => .of_eq rfl, fun base _ _ => ?_⟩
  rw [← eL] at FL ⊢
  have g_InvalidImage := ok_InvalidImage (P := l.prog) (w := w) (base := base) T 
  have g_NotState := ok_NotState (P := l.prog) (w := w) (base := base) T 
  have g_law_ascending := ok_law_ascending (P := l.prog) (w := w) (base := base) T 
  have g_law_due_kind := ok_law_due_kind (P := l.prog) (w := w) (base := base) T g_law_ascending
  have g_check_image := ok_check_image (P := l.prog) (w := w) (base := base) T g_InvalidImage
  have g_check_state := ok_check_state (P := l.prog) (w := w) (base := base) T g_check_image g_NotState
  have g_check_pair := ok_check_pair (P := l.prog) (w := w) (base := base) T g_check_state
  have g_walk := ok_walk (P := l.prog) (w := w) (base := base) T 
  have g_part_of := ok_part_of (P := l.prog) (w := w) (base := base) T g_walk
  have g_parts := ok_parts (P := l.prog) (w := w) (base := base) T g_check_pair g_part_of
  have g_law_least := ok_law_least (P := l.prog) (w := w) (base := base) T 
  have g_law_canonical := ok_law_canonical (P := l.prog) (w := w) (base := base) T g_law_least
  have g_law_due_parts := ok_law_due_parts (P := l.prog) (w := w) (base := base) T g_law_least g_law_canonical
  have g_law_whole := ok_law_whole (P := l.prog) (w := w) (base := base) T 
  have g_law_row := ok_law_row (P := l.prog) (w := w) (base := base) T g_law_whole
  have g_law_parts_told := ok_law_parts_told (P := l.prog) (w := w) (base := base) T g_law_row
  have g_gain := ok_gain (P := l.prog) (w := w) (base := base) T 
  have g_kind_of := ok_kind_of (P := l.prog) (w := w) (base := base) T g_parts g_gain
  have g_law_kind_told := ok_law_kind_told (P := l.prog) (w := w) (base := base) T g_law_whole
  have g_m_init := ok_m_init (P := l.prog) (w := w) (base := base) T g_check_pair
  have g_law_spoil := ok_law_spoil (P := l.prog) (w := w) (base := base) T 
  have g_m_kind := ok_m_kind (P := l.prog) (w := w) (base := base) T g_kind_of
  have g_law_kept := ok_law_kept (P := l.prog) (w := w) (base := base) T g_law_due_kind g_parts g_law_due_parts g_law_parts_told g_kind_of g_law_kind_told g_m_init g_law_row g_law_spoil g_m_kind
  have g_law_call := ok_law_call (P := l.prog) (w := w) (base := base) T g_parts g_kind_of g_m_init
  have h_law_whole := okh_law_whole (P := l.prog) (w := w) (base := base) T 
  have g_law_fault_told := ok_law_fault_told (P := l.prog) (w := w) (base := base) T g_law_call h_law_whole
  have g_law_entry := ok_law_entry (P := l.prog) (w := w) (base := base) T 
  have g_law_unsettled := ok_law_unsettled (P := l.prog) (w := w) (base := base) T 
  have g_law_fault := ok_law_fault (P := l.prog) (w := w) (base := base) T g_law_entry g_law_unsettled
  have g_law_mix := ok_law_mix (P := l.prog) (w := w) (base := base) T 
  have g_law_draw := ok_law_draw (P := l.prog) (w := w) (base := base) T g_law_mix
  have g_law_bent := ok_law_bent (P := l.prog) (w := w) (base := base) T g_law_draw
  have g_law_states := ok_law_states (P := l.prog) (w := w) (base := base) T 
  have g_law_order := ok_law_order (P := l.prog) (w := w) (base := base) T g_law_draw
  have g_law_piece := ok_law_piece (P := l.prog) (w := w) (base := base) T g_law_draw
  have g_law_built := ok_law_built (P := l.prog) (w := w) (base := base) T g_law_order g_law_piece
  have g_law_size := ok_law_size (P := l.prog) (w := w) (base := base) T g_law_draw
  have g_law_box := ok_law_box (P := l.prog) (w := w) (base := base) T 
  exact ok_law T FL g_law_box g_law_size g_law_built g_law_states g_law_kept g_law_bent g_law_fault g_law_fault_told
theorem walk {l : PySem.W.OpenLaw} {q : Program} {loose : List Str} {XP : (Str → Option Value) → Heap → Prop} {YP : World → Heap → Prop} {d : DefRec} {K : Params → PySem.W.Frag} (hn : l.most = some 63) (hdf : d.params.defaults = [])
    (hY : ∀ (w : World) (h : Heap), YP w h → (K w.params).In h)
    (F : ∀ (w : World) (mg : Str → Option Value) (fa : Addr) (h : Heap), (K w.params).In h → h.Ns mainGlobals mg → mg d.name = some (.ref fa) →
      ∃ fd : FuncData, (∀ (s : Shared) (u : Value), BindsTo s fd ⟨[u], []⟩ [("script", u)]) ∧ ∀ base : Heap, (K w.params).In base → base.Ns mainGlobals mg → FnOk l.prog w (K w.params) mg base CX0 11 fa fd ["script"] (spLaw (K w.params))) :
    PySem.W.WalkO q loose XP YP l.row.toRowW d [] (fun f vs => PySem.call f vs) :=
  L2.walk_of (n := 63) (k := 11) (x := "script") (CX := fun _ => CX0) (sp := fun w => spLaw (K w.params)) hn (by decide) hdf ⟨rfl, by decide, by decide⟩ hY F (fun _ _ a ns hl _ hS => ⟨a, ns, rfl, hS, hl, fun _ => rfl⟩) fun _ _ _ _ _ z => z
end Pv

open PySem PySem.W PyProof.Rows
set_option maxRecDepth 100000 in
set_option maxHeartbeats 0 in
theorem PySem.Challenge.cw_peermend_k07_whole_parts_of_built_update_holds : PySem.Challenge.rw_peermend_k07_whole_parts_of_built_update.Holds := by
  w_on; o_law; k_head; (case hw => w_witness2)
  k_fill
  refine Pv.walk (l := PySem.Challenge.rw_peermend_k07_whole_parts_of_built_update) rfl rfl (fun w h Y => PySem.W.kIn_of Y) ?F
  case F =>
    intro w mg fa h KX G hmg
    refine' Pv.all_mk KX G hmg ?qa_Update ?qrm2 ?qpa_kind ?qpd_kind ?qa_check_image ?ql_check_image ?qcd_is_check_image ?qk_check_image ?qa_check_state ?ql_check_state ?qcd_is_check_state ?qk_check_state ?qa_check_pair ?ql_check_pair ?qcd_is_check_pair ?qk_check_pair ?qa_parts ?ql_parts ?qcd_is_parts ?qk_parts ?qa_kind_of ?ql_kind_of ?qcd_is_kind_of ?qk_kind_of ?qa_part_of ?ql_part_of ?qcd_is_part_of ?qk_part_of ?qa_walk ?ql_walk ?qcd_is_walk ?qk_walk ?qa_gain ?ql_gain ?qcd_is_gain ?qk_gain ?ql_m_init ?qcd_is_m_init ?qk_m_init ?ql_m_kind ?qcd_is_m_kind ?qk_m_kind ?qa_law_mix ?ql_law_mix ?qcd_is_law_mix ?qk_law_mix ?qa_law_box ?ql_law_box ?qcd_is_law_box ?qk_law_box ?qa_law_draw ?ql_law_draw ?qcd_is_law_draw ?qk_law_draw ?qa_law_size ?ql_law_size ?qcd_is_law_size ?qk_law_size ?qa_law_whole ?ql_law_whole ?qcd_is_law_whole ?qk_law_whole ?qa_law_row ?ql_law_row ?qcd_is_law_row ?qk_law_row ?qa_law_spoil ?ql_law_spoil ?qcd_is_law_spoil ?qk_law_spoil ?qa_law_entry ?ql_law_entry ?qcd_is_law_entry ?qk_law_entry ?qa_law_unsettled ?ql_law_unsettled ?qcd_is_law_unsettled ?qk_law_unsettled ?qa_law_parts_told ?ql_law_parts_told ?qcd_is_law_parts_told ?qk_law_parts_told ?qa_law_kind_told ?ql_law_kind_told ?qcd_is_law_kind_told ?qk_law_kind_told ?qa_law_ascending ?ql_law_ascending ?qcd_is_law_ascending ?qk_law_ascending ?qa_law_order ?ql_law_order ?qcd_is_law_order ?qk_law_order ?qa_law_piece ?ql_law_piece ?qcd_is_law_piece ?qk_law_piece ?qa_law_built ?ql_law_built ?qcd_is_law_built ?qk_law_built ?qa_law_states ?ql_law_states ?qcd_is_law_states ?qk_law_states ?qa_law_least ?ql_law_least ?qcd_is_law_least ?qk_law_least ?qa_law_canonical ?ql_law_canonical ?qcd_is_law_canonical ?qk_law_canonical ?qa_law_due_parts ?ql_law_due_parts ?qcd_is_law_due_parts ?qk_law_due_parts ?qa_law_due_kind ?ql_law_due_kind ?qcd_is_law_due_kind ?qk_law_due_kind ?qa_law_fault ?ql_law_fault ?qcd_is_law_fault ?qk_law_fault ?qa_law_bent ?ql_law_bent ?qcd_is_law_bent ?qk_law_bent ?qa_law_call ?ql_law_call ?qcd_is_law_call ?qk_law_call ?qa_law_fault_told ?ql_law_fault_told ?qcd_is_law_fault_told ?qk_law_fault_told ?qa_law_kept ?ql_law_kept ?qcd_is_law_kept ?qk_law_kept ?qa_law ?ql_law ?qcd_is_law ?qk_law ?qa_MendError ?qx_MendError ?qa_InvalidImage ?qx_InvalidImage ?qkc_InvalidImage ?qsa_InvalidImage ?qga_InvalidImage ?qgg_InvalidImage ?qca_InvalidImage ?qi_is_InvalidImage ?qt_InvalidImage ?qnf_InvalidImage ?ql_i_InvalidImage ?qcd_is_i_InvalidImage ?qk_i_InvalidImage ?qa_NotState ?qx_NotState ?qkc_NotState ?qsa_NotState ?qga_NotState ?qgg_NotState ?qca_NotState ?qi_is_NotState ?qt_NotState ?qnf_NotState ?ql_i_NotState ?qcd_is_i_NotState ?qk_i_NotState ?qa_UnequalSizes ?qx_UnequalSizes ?qkc_UnequalSizes ?qsa_UnequalSizes ?qga_UnequalSizes ?qgg_UnequalSizes ?qca_UnequalSizes ?qq_is_UnequalSizes ?qcn ?qct ?qnd ?qrc1 ?qrc2 ?qrc3 ?qrc4 ?qrm1 ?qrm3 ?qrm4 ?qpb_kind ?qpc_kind ?qnc_is_before ?qnc_is_after ?qz_ValueError ?qz_int ?qz_bool ?qz_str ?qz_list ?qz_tuple ?qz_len ?qz_range ?qz_enumerate ?qz_isinstance ?qz_min ?qz_abs ?qz_sorted
    (case qa_Update => k_is)
    (case qrm2 => k_is)
    (case qpa_kind => k_is)
    (case qpd_kind => k_is)
    (case qa_check_image => k_is)
    (case ql_check_image => k_is)
    (case qcd_is_check_image => k_is)
    (case qk_check_image => k_is)
    (case qa_check_state => k_is)
    (case ql_check_state => k_is)
    (case qcd_is_check_state => k_is)
    (case qk_check_state => k_is)
    (case qa_check_pair => k_is)
    (case ql_check_pair => k_is)
    (case qcd_is_check_pair => k_is)
    (case qk_check_pair => k_is)
    (case qa_parts => k_is)
    (case ql_parts => k_is)
    (case qcd_is_parts => k_is)
    (case qk_parts => k_is)
    (case qa_kind_of => k_is)
    (case ql_kind_of => k_is)
    (case qcd_is_kind_of => k_is)
    (case qk_kind_of => k_is)
    (case qa_part_of => k_is)
    (case ql_part_of => k_is)
    (case qcd_is_part_of => k_is)
    (case qk_part_of => k_is)
    (case qa_walk => k_is)
    (case ql_walk => k_is)
    (case qcd_is_walk => k_is)
    (case qk_walk => k_is)
    (case qa_gain => k_is)
    (case ql_gain => k_is)
    (case qcd_is_gain => k_is)
    (case qk_gain => k_is)
    (case ql_m_init => k_is)
    (case qcd_is_m_init => k_is)
    (case qk_m_init => k_is)
    (case ql_m_kind => k_is)
    (case qcd_is_m_kind => k_is)
    (case qk_m_kind => k_is)
    (case qa_law_mix => k_is)
    (case ql_law_mix => k_is)
    (case qcd_is_law_mix => k_is)
    (case qk_law_mix => k_is)
    (case qa_law_box => k_is)
    (case ql_law_box => k_is)
    (case qcd_is_law_box => k_is)
    (case qk_law_box => k_is)
    (case qa_law_draw => k_is)
    (case ql_law_draw => k_is)
    (case qcd_is_law_draw => k_is)
    (case qk_law_draw => k_is)
    (case qa_law_size => k_is)
    (case ql_law_size => k_is)
    (case qcd_is_law_size => k_is)
    (case qk_law_size => k_is)
    (case qa_law_whole => k_is)
    (case ql_law_whole => k_is)
    (case qcd_is_law_whole => k_is)
    (case qk_law_whole => k_is)
    (case qa_law_row => k_is)
    (case ql_law_row => k_is)
    (case qcd_is_law_row => k_is)
    (case qk_law_row => k_is)
    (case qa_law_spoil => k_is)
    (case ql_law_spoil => k_is)
    (case qcd_is_law_spoil => k_is)
    (case qk_law_spoil => k_is)
    (case qa_law_entry => k_is)
    (case ql_law_entry => k_is)
    (case qcd_is_law_entry => k_is)
    (case qk_law_entry => k_is)
    (case qa_law_unsettled => k_is)
    (case ql_law_unsettled => k_is)
    (case qcd_is_law_unsettled => k_is)
    (case qk_law_unsettled => k_is)
    (case qa_law_parts_told => k_is)
    (case ql_law_parts_told => k_is)
    (case qcd_is_law_parts_told => k_is)
    (case qk_law_parts_told => k_is)
    (case qa_law_kind_told => k_is)
    (case ql_law_kind_told => k_is)
    (case qcd_is_law_kind_told => k_is)
    (case qk_law_kind_told => k_is)
    (case qa_law_ascending => k_is)
    (case ql_law_ascending => k_is)
    (case qcd_is_law_ascending => k_is)
    (case qk_law_ascending => k_is)
    (case qa_law_order => k_is)
    (case ql_law_order => k_is)
    (case qcd_is_law_order => k_is)
    (case qk_law_order => k_is)
    (case qa_law_piece => k_is)
    (case ql_law_piece => k_is)
    (case qcd_is_law_piece => k_is)
    (case qk_law_piece => k_is)
    (case qa_law_built => k_is)
    (case ql_law_built => k_is)
    (case qcd_is_law_built => k_is)
    (case qk_law_built => k_is)
    (case qa_law_states => k_is)
    (case ql_law_states => k_is)
    (case qcd_is_law_states => k_is)
    (case qk_law_states => k_is)
    (case qa_law_least => k_is)
    (case ql_law_least => k_is)
    (case qcd_is_law_least => k_is)
    (case qk_law_least => k_is)
    (case qa_law_canonical => k_is)
    (case ql_law_canonical => k_is)
    (case qcd_is_law_canonical => k_is)
    (case qk_law_canonical => k_is)
    (case qa_law_due_parts => k_is)
    (case ql_law_due_parts => k_is)
    (case qcd_is_law_due_parts => k_is)
    (case qk_law_due_parts => k_is)
    (case qa_law_due_kind => k_is)
    (case ql_law_due_kind => k_is)
    (case qcd_is_law_due_kind => k_is)
    (case qk_law_due_kind => k_is)
    (case qa_law_fault => k_is)
    (case ql_law_fault => k_is)
    (case qcd_is_law_fault => k_is)
    (case qk_law_fault => k_is)
    (case qa_law_bent => k_is)
    (case ql_law_bent => k_is)
    (case qcd_is_law_bent => k_is)
    (case qk_law_bent => k_is)
    (case qa_law_call => k_is)
    (case ql_law_call => k_is)
    (case qcd_is_law_call => k_is)
    (case qk_law_call => k_is)
    (case qa_law_fault_told => k_is)
    (case ql_law_fault_told => k_is)
    (case qcd_is_law_fault_told => k_is)
    (case qk_law_fault_told => k_is)
    (case qa_law_kept => k_is)
    (case ql_law_kept => k_is)
    (case qcd_is_law_kept => k_is)
    (case qk_law_kept => k_is)
    (case qa_law => k_is)
    (case ql_law => k_is)
    (case qcd_is_law => k_is)
    (case qk_law => k_is)
    (case qa_MendError => k_is)
    (case qx_MendError => k_is)
    (case qa_InvalidImage => k_is)
    (case qx_InvalidImage => k_is)
    (case qkc_InvalidImage => k_is)
    (case qsa_InvalidImage => k_is)
    (case qga_InvalidImage => k_is)
    (case qgg_InvalidImage => k_is)
    (case qca_InvalidImage => k_is)
    (case qi_is_InvalidImage => k_is)
    (case qt_InvalidImage => k_is)
    (case qnf_InvalidImage => k_is)
    (case ql_i_InvalidImage => k_is)
    (case qcd_is_i_InvalidImage => k_is)
    (case qk_i_InvalidImage => k_is)
    (case qa_NotState => k_is)
    (case qx_NotState => k_is)
    (case qkc_NotState => k_is)
    (case qsa_NotState => k_is)
    (case qga_NotState => k_is)
    (case qgg_NotState => k_is)
    (case qca_NotState => k_is)
    (case qi_is_NotState => k_is)
    (case qt_NotState => k_is)
    (case qnf_NotState => k_is)
    (case ql_i_NotState => k_is)
    (case qcd_is_i_NotState => k_is)
    (case qk_i_NotState => k_is)
    (case qa_UnequalSizes => k_is)
    (case qx_UnequalSizes => k_is)
    (case qkc_UnequalSizes => k_is)
    (case qsa_UnequalSizes => k_is)
    (case qga_UnequalSizes => k_is)
    (case qgg_UnequalSizes => k_is)
    (case qca_UnequalSizes => k_is)
    (case qq_is_UnequalSizes => k_exc)
    (case qcn => k_is)
    (case qct => k_is)
    (case qnd => decide)
    (case qrc1 => k_is)
    (case qrc2 => k_is)
    (case qrc3 => k_is)
    (case qrc4 => k_is)
    (case qrm1 => k_is)
    (case qrm3 => k_is)
    (case qrm4 => k_is)
    (case qpb_kind => k_is)
    (case qpc_kind => k_is)
    (case qnc_is_before => k_is)
    (case qnc_is_after => k_is)
    (case qz_ValueError => k_is)
    (case qz_int => k_is)
    (case qz_bool => k_is)
    (case qz_str => k_is)
    (case qz_list => k_is)
    (case qz_tuple => k_is)
    (case qz_len => k_is)
    (case qz_range => k_is)
    (case qz_enumerate => k_is)
    (case qz_isinstance => k_is)
    (case qz_min => k_is)
    (case qz_abs => k_is)
    (case qz_sorted => k_is)
