import PyProof.Rows.All
import Wide.All
import OpenK.AllK
import Wide.FinOn
import KE.KIsAll
import KE.KExcIs
import HandS.ForMost
import HandS.ForExc
import HandS.TryMany
import HandS.ExcInit
import HandS.ExcValue
import HandS.ExcField
import HandS.IsInst
import HandS.ExcIs
import HandS.Small
import HandS.Wide
import HandS.Flow
import HandS.Evl
import HandS.Conv
import HandS.Walk
import KE.KDictKeyed
import KE.KDictList
import KE.KDictDisplayH
import HandS.SetKeys
import HandS.DictComp
import HandS.NoneIn
import HandS.SortInts
import HandS.SortOrd
import HandS.TupAny
import HandS.ListItems
import HandS.SortRule
import HandS.ExcCtx
import HandS.HotCalls
import HandS.ExcInitHot
import HandS.TupSets
import HandS.SetFor
import HandS.Deep
import PyProof.WalkInts
import PyProof.WalksMore
import KE.GoesMore
import HandS.Zip
import HandS.Style
import HandS.HeadHook3
import HandS.MakeKwOnly
import HandS.CallLocal
import HandS.ClsMeth
import HandS.ExcOwn
import HandS.Property
import HandS.More
import HandS.SlotsOwn
import HandS.FStr
import PySem.Challenge.RW_peermend_k12_rules_kept_right
set_option Elab.async false
set_option linter.all false
set_option maxRecDepth 100000
set_option maxHeartbeats 4000000
namespace L2
open PySem PySem.Spec PyProof.Rows

/-- an error object held as a value: without a dict, or with one that holds fields -/
def ErrT (H : Hp) (a C : Addr) : Prop := H a = some (ExO (.ref C) a) ∨ ∃ (dx : Addr) (fs : List (Str × V)), H a = some (exo a C (some dx)) ∧ H dx = some (exd dx fs)
/-- isinstance of such a value -/
def rIsX (K : PySem.W.Frag) : List V → Hp → VK → Prop := fun xs H Q => ∃ (a C : Addr) (c : V) (u : Value) (b : Bool), xs = [.ref a, c] ∧ ErrT H a C ∧ ExcC K C ∧ ClsV c u ∧ PySem.W.kitOne K (.ref C) u = some b ∧ Q (.bl b) H
theorem clsIn_some {K : PySem.W.Frag} {C : Addr} (h : PySem.W.hasDictIn K C = true) : (PySem.W.clsIn K C).isSome = true := by
  obtain ⟨cd, hc, _⟩ := PySem.W.any_some h
  rw [hc]
  rfl
theorem kitX_err {K : PySem.W.Frag} {C a : Addr} {oe : Obj} {od : Option Obj} (D : ExcC K C) : PySem.W.KitX K (.ref a) (.ref C) (fun h => PySem.W.InstAt h a oe C od) :=
  PySem.W.kitx_exc (clsIn_some D.hd) D.hg D.hk D.hs D.ha D.hn D.ht D.hm
theorem call_isX {X : Cx} : CallR X (.builtin "isinstance") (rIsX X.K) := by
  intro pins s σ H xs us Q I r h
  obtain ⟨a, C, c, u, b, rfl, T, D, k, e, q⟩ := h
  obtain ⟨u1, u2, rfl, r1, r2⟩ := vals2 r
  have e2 := k.eq r2
  subst e2
  cases (show u1 = Value.ref a from r1)
  rcases T with ea | ⟨dx, fs, ea, ed⟩
  · have x : ObjOk X.prog X.w H s.heap a (ExO (.ref C) a) := I.hok a _ ea
    obtain ⟨⟨oe, vs, ho, hz, hd, _⟩, _, _⟩ := x
    obtain ⟨oc, odi, oda, osl⟩ := oe
    obtain ⟨h1, h2⟩ := hz
    dsimp only at h1 h2 hd
    subst h1 h2 hd
    exact PySem.W.kia_one (kitX_err (od := none) D) I.kIn ⟨ho, rfl, rfl, trivial⟩ e (fun z => nomatch z) fun tk => ⟨.bl b, H, I.tok tk, rfl, q⟩
  · obtain ⟨t1, ho⟩ := exo_at I.hok ea
    obtain ⟨mA, hns, _⟩ := exd_at I.hok ed
    obtain ⟨od, ho2, _⟩ := lookIn_ns hns
    exact PySem.W.kia_one (kitX_err (od := some od) D) I.kIn ⟨ho, rfl, rfl, ho2⟩ e (fun z => nomatch z) fun tk => ⟨.bl b, H, I.tok tk, rfl, q⟩
/-- isinstance(e, c), e the exception that the suite holds, with its dict -/
def rIsS (K : PySem.W.Frag) (a : Addr) (cls : Value) (d : Option Addr) : List V → Hp → VK → Prop := fun xs H Q => ∃ (C dd : Addr) (fs : List (Str × V)) (c : V) (u : Value) (b : Bool), xs = [.ref a, c] ∧ cls = .ref C ∧ d = some dd ∧ H dd = some (.xd fs) ∧
  ExcC K C ∧ ClsV c u ∧ PySem.W.kitOne K (.ref C) u = some b ∧ Q (.bl b) H
theorem call_isS {X : Cx} {K : PySem.W.Frag} {a : Addr} {cls : Value} {d : Option Addr} {oe : Obj} {pn : List (Addr × Obj)} (hK : X.K = K) (hz : Zc cls d oe) (hf : ∃ vs, oe.data = .fields vs) : CallR (X.suite a ((a, oe) :: pn)) (.builtin "isinstance") (rIsS K a cls d) := by
  subst hK
  intro pins s σ H xs us Q I r h
  obtain ⟨C, dd, fs, c, u, b, rfl, rfl, rfl, ea, D, k, e, q⟩ := h
  obtain ⟨u1, u2, rfl, r1, r2⟩ := vals2 r
  have e2 := k.eq r2
  subst e2
  cases (show u1 = Value.ref a from r1)
  obtain ⟨hget, _⟩ := I.pin (a, oe) (List.mem_append.mpr (.inl List.mem_cons_self))
  obtain ⟨vs, hv⟩ := hf
  have hx : ObjOk X.prog X.w H s.heap dd (.xd fs) := I.hok dd _ ea
  obtain ⟨mA, hns, hr⟩ := hx
  obtain ⟨od, ho, hl⟩ := lookIn_ns hns
  have J : PySem.W.InstAt s.heap a oe C (some od) := ⟨hget, hz.1, by unfold PySem.W.notCls; rw [hv] <;> rfl, by rw [hz.2]; exact ho⟩
  exact PySem.W.kia_one (kitX_err D) I.kIn J e (fun z => nomatch z) fun tk => ⟨.bl b, H, I.kept (t' := tk) fun _ _ z => z, rfl, q⟩

section
variable {X : Cx} {C : Addr} {bmB : List Value} {B newId initId : String} {x : Str} {p pos : Pos}
/-- X(), raised: an own exception class without own __init__ -/
theorem pmk_own0 (F : ExcBaseFacts B newId initId bmB) (q : PySem.W.excIn X.K C bmB newId = true) (gC : X.mg x = some (.ref C)) (kC : PySem.W.keepIn X.K (.ref C) = true) (r : Raises X (.ref C)) (hg : Gl X x)
    (hdb : (x == ("__debug__" : Str)) = false := by decide) : PMk X (.Call (.Name x p) [] [] pos) (fun _ H Q => Q (.ref C) none H) := by
  intro pins s σ H Q I h
  refine wpAny_Call_Name_kw (ld_glob I hg gC ?_ hdb)
  refine PySem.W.callWith_K0 I.kIn kC ?_
  obtain ⟨bm, N, nm, qn, bs, hdct, sn, sub, ab, col, dd, k0, k1, k2, k3, k5, mN, hC, hN, hni, T⟩ := exc_obj I.kIn q
  refine wpAny_call_exc_subT F T hC hN hni (fun h' e hm => ?_) (Nat.zero_le _)
  exact mk_of I hm r h (I.hok.gone hm.new)
/-- X(), as a value -/
theorem pe_exc0 (F : ExcBaseFacts B newId initId bmB) (q : PySem.W.excIn X.K C bmB newId = true) (gC : X.mg x = some (.ref C)) (kC : PySem.W.keepIn X.K (.ref C) = true) (hg : Gl X x)
    (hdb : (x == ("__debug__" : Str)) = false := by decide) : PE X (.Call (.Name x p) [] [] pos) (fun _ H Q => ∀ a, H a = none → Q (.ref a) (upd H a (ExO (.ref C) a))) := by
  refine ⟨fun pins s σ H Q I h => ?_⟩
  refine wpAny_Call_Name_kw (ld_glob I hg gC ?_ hdb)
  refine PySem.W.callWith_K0 I.kIn kC ?_
  obtain ⟨bm, N, nm, qn, bs, hdct, sn, sub, ab, col, dd, k0, k1, k2, k3, k5, mN, hC, hN, hni, T⟩ := exc_obj I.kIn q
  refine wpAny_call_exc_subT F T hC hN hni (fun h' a hm => ?_) (Nat.zero_le _)
  have hn : H a = none := I.hok.gone hm.new
  obtain ⟨t, ht, _, _⟩ := hm.there
  exact ⟨.ref a, upd H a (ExO (.ref C) a), I.laidN hm.keeps hm.new hn (exO_ok ht ⟨rfl, rfl⟩ rfl rfl rfl (show 4 < 6 by decide)), rfl, h a hn⟩
end
/-- X(e, ..) as a value, its own __init__ keeping sp -/
def tMkV (C : Addr) (sp : Sp) (ta : TA) : TE := fun σ H Q => ta σ H fun vs H1 => vs.length ≤ 1000 ∧ ∀ a, H1 a = none → sp (.ref a :: vs) (upd H1 a (exo a C none)) (fun v H2 => v = .non ∧ Q (.ref a) H2) (fun _ _ _ => False)
section
variable {X : Cx} {e : Expr} {es : List Expr} {ta : TA} {p pos : Pos}
theorem pe_oexV {CX : CXT} {x : Str} {C fI : Addr} {k : Nat} {fd : FuncData} {ps : List Str} {sp : Sp} (T : OexC X.K C) (iC : PySem.W.findIn X.K (.ref C) "__init__" = some (some (.ref fI))) (tI : PySem.W.typeIn X.K (.ref fI) = some (.type "function"))
    (F1 : FnOk X.prog X.w X.K X.mg X.base CX k fI fd ps sp) (hr : Room (k + 1) X.A) (hb : Binds X.K fd ps []) (hx : Passes CX X (fun _ _ _ => False)) (hg : Gl X x) (hm : X.mg x = some (.ref C)) (ha : PA X (e :: es) ta)
    (hdb : (x == ("__debug__" : Str)) = false := by decide) (he : starEach (e :: es) X.env = (false, eval e X.env) :: starEach es X.env := by rfl) (hpl : (backTo pos (starEach es X.env)).any (·.1) = false := by rfl) :
    PE X (.Call (.Name x p) (e :: es) [] pos) (tMkV C sp ta) := by
  refine ⟨fun pins s σ H Q I h => ?_⟩
  obtain ⟨nm, q, N, bs, bm, sn, sub, ab, col, dd, k0, k1, k2, k3, k5, hC, hmro⟩ := T.cls
  refine wpAny_Call_Name_kw (ld_glob I hg hm ?_ hdb)
  refine PySem.W.callWith_K (h₀ := X.base) I.ok.mod.kin T.kC (thn (ha.run pos pins s σ H _ I h) fun us s1 ⟨vs, H1, I1, r1, hz, q1⟩ => ⟨I1.kIn, ?_⟩) he hpl
  show wpAny _ _ (call (.ref C) us) _ _ _
  obtain ⟨hh, g, dw, tc, ow⟩ := s1
  have hgt : hh.objs.size ≤ hh.objs.size + 1 := Nat.le_succ _
  have fr1 : H1 (hh.objs.size + 1) = none := I1.hok.fresh hgt
  have pr1 := q1 (hh.objs.size + 1) fr1
  have kp1 : ∀ b o, hh.get? b = some o → ((hh.push (PySem.W.kdv_tup us)).push (PySem.HandSPX.excO C hh.objs.size)).get? b = some o := fun b o e => Heap.get?_push_of_some _ (Heap.get?_push_of_some _ e)
  have ob1 : ((hh.push (PySem.W.kdv_tup us)).push (PySem.HandSPX.excO C hh.objs.size)).get? (hh.objs.size + 1) = some (PySem.HandSPX.excO C hh.objs.size) := by heap_get
  have Iv2 : Inv X pins σ (upd H1 (hh.objs.size + 1) (exo (hh.objs.size + 1) C none)) ⟨(hh.push (PySem.W.kdv_tup us)).push (PySem.HandSPX.excO C hh.objs.size), g, dw, tc, ow⟩ :=
    I1.laid (t' := tc) (a := hh.objs.size + 1) (o := exo (hh.objs.size + 1) C none) (h' := (hh.push (PySem.W.kdv_tup us)).push (PySem.HandSPX.excO C hh.objs.size)) kp1 hgt (exo_ok ob1)
  have rl2 : Vals (V.ref (hh.objs.size + 1) :: vs) (Value.ref (hh.objs.size + 1) :: us) := .cons rfl r1
  have ln1 : (Value.ref (hh.objs.size + 1) :: us).length = ps.length := by
    have e := rl2.length
    rw [F1.len _ _ _ _ pr1] at e
    exact e.symm
  have ln2 : us.length ≤ sizeLine := by
    rw [← Paired.length r1, sizeLine_eq]
    omega
  have b0 := hb ⟨(hh.push (PySem.W.kdv_tup us)).push (PySem.HandSPX.excO C hh.objs.size), g, dw, tc, ow⟩ (Value.ref (hh.objs.size + 1) :: us) Iv2.kIn (by rw [List.append_nil]; exact ln1)
  rw [List.append_nil] at b0
  refine wpAny_call (PySem.HandSPX.call_own F.excBase_ValueError (fun Y => PySem.HandSPX.refsVE_contains Y bm hmro) (I1.kIn _ _ hC) (PySem.W.looks_findIn I1.kIn iC) (fun self => PySem.W.bind_fn I1.kIn self tI) ln2
    (codeAny_mono (F1.run _ X.stack _ _ ⟨Value.ref (hh.objs.size + 1) :: us, []⟩ (Value.ref (hh.objs.size + 1) :: us) _ _ (fun _ _ _ => False) (hr.make C us []) (Iv2.env0.make C us []) b0 rl2 pr1) fun r s' hq' => ?_))
  cases r with
  | error er => exact hx pins σ _ _ er s' Iv2 hq'
  | ok fl =>
    cases fl with
    | ret u =>
      obtain ⟨v, H2, os2, bare2, un2, hok2, rv, ev, q2⟩ := hq'
      subst ev
      exact ⟨rv, .ref (hh.objs.size + 1), H2, Iv2.call' (ch := []) os2 un2 hok2 bare2 (fun b z => absurd z (by simp)), rfl, q2⟩
    | next => exact False.elim hq'
    | brk => exact False.elim hq'
    | cont => exact False.elim hq'
/-- err.f, err an error held as a value -/
def tXa (K : PySem.W.Frag) (f : Str) (te : TE) : TE := fun σ H Q => te σ H fun x H1 => ∃ (a C dx : Addr) (fs : List (Str × V)) (v : V), x = .ref a ∧ H1 a = some (exo a C (some dx)) ∧ H1 dx = some (exd dx fs) ∧ XfC K C ∧ PySem.W.findIn K (.ref C) f = some none ∧ fs.lookup f = some v ∧ Q v H1
theorem pe_xa {te : TE} {n : Str} (he : PE X e te) (hb : attributeBase e n X.env (eval e X.env) = eval e X.env := by rfl) : PE X (.Attribute e n pos) (tXa X.K n te) := by
  refine ⟨fun pins s σ H Q I h => ?_⟩
  refine attr_of hb (thn (he.run pins s σ H _ I h) fun u s1 hh => ?_)
  obtain ⟨x, H1, I1, rx, a, C, dx, fs, v, ex, ea, ed, T, hno, l, q⟩ := hh
  subst ex
  obtain rfl : u = Value.ref a := rx
  obtain ⟨t1, ho⟩ := exo_at I1.hok ea
  obtain ⟨mA, hns, hr⟩ := exd_at I1.hok ed
  obtain ⟨od, ho2, ln1⟩ := lookIn_ns hns
  obtain ⟨u, hu, ru⟩ := RelO.some_of (v := v) (o := mA n) (by rw [← l]; exact hr n)
  have J : PySem.W.InstAt s1.heap a _ C (some od) := ⟨ho, rfl, rfl, ho2⟩
  exact HandSPX.exc_get I1.kIn J T.ga T.gg T.exC (PySem.W.findObj_own T.hdC hno rfl (by rw [ln1, hu])) (handed_of ru) ⟨v, H1, I1.tok _, ru, q⟩
end
theorem ix_listK {X : Cx} {K : PySem.W.Frag} (h : X.K = K) : IxR X (rIxL K) := by
  subst h
  exact ix_list
theorem ix_tupK {X : Cx} {K : PySem.W.Frag} (h : X.K = K) : IxR X (rIxT K) := by
  subst h
  exact ix_tup
/-! several except clauses, some with names -/
/-- what is behind a suite with (slot i) or without a name -/
def goneD (oi : Option Nat) (D : Ends) : Ends := match oi with
  | none => D
  | some i => { nx := fun σ' H' => D.nx (σ'.set i none) H', rt := D.rt, bk := fun σ' H' => D.bk (σ'.set i none) H', ct := fun σ' H' => D.ct (σ'.set i none) H' }
def hadS (oi : Option Nat) (a : Addr) (σ : St) : St := match oi with
  | none => σ
  | some i => σ.set i (some (.ref a))
def wManyN (K : PySem.W.Frag) (Wout : WX) (D : Ends) : List (Value × Option Nat × (Addr → Value → Option Addr → TS)) → WX
  | [] => Wout
  | (c, oi, ts) :: r => fun cls d σ H => ∃ b, PySem.W.exmOne K cls c = some b ∧ (b = true → ∀ a, H a = none → ts a cls d (goneD oi D) (hadS oi a σ) H) ∧ (b = false → wManyN K Wout D r cls d σ H)
inductive HdsN (X : Cx) : List ExceptHandler → List (Value × Option Nat × (Addr → Value → Option Addr → TS)) → Prop
  | nil : HdsN X [] []
  | cons {x : Str} {c : Value} {ts : Addr → Value → Option Addr → TS} {b₀ : Stmt} {suite : List Stmt} {np pos' : Pos} {hds : List ExceptHandler} {l : List (Value × Option Nat × (Addr → Value → Option Addr → TS))} (hc : Names X x c)
      (hsu : ∀ (a : Addr) (oe : Obj) (cls : Value) (d : Option Addr) (pn : List (Addr × Obj)), Zc cls d oe → (∃ vs, oe.data = .fields vs) → PSs (X.suite a ((a, oe) :: pn)) (b₀ :: suite) (ts a cls d)) (r : HdsN X hds l) :
      HdsN X (.ExceptHandler (some (.Name x np)) none (b₀ :: suite) pos' :: hds) ((c, none, ts) :: l)
  | consN {x n : Str} {i : Nat} {c : Value} {ts : Addr → Value → Option Addr → TS} {b₀ : Stmt} {suite : List Stmt} {np pos' : Pos} {hds : List ExceptHandler} {l : List (Value × Option Nat × (Addr → Value → Option Addr → TS))} (hN : X.N.Nodup) (hi : X.N[i]? = some n) (hln : X.env.kindOf n = some .local) (hc : Names X x c)
      (hsu : ∀ (a : Addr) (oe : Obj) (cls : Value) (d : Option Addr) (pn : List (Addr × Obj)), Zc cls d oe → (∃ vs, oe.data = .fields vs) → PSs (X.suite a ((a, oe) :: pn)) (b₀ :: suite) (ts a cls d)) (r : HdsN X hds l) :
      HdsN X (.ExceptHandler (some (.Name x np)) (some n) (b₀ :: suite) pos' :: hds) ((c, some i, ts) :: l)
section
variable {X : Cx} {body : List Stmt} {h₀ : ExceptHandler} {hds : List ExceptHandler} {l : List (Value × Option Nat × (Addr → Value → Option Addr → TS))} {pos : Pos} {tb : WX → TS} {Wout : WX}
theorem ps_try_manyN (hs : X.stack = X.env :: X.outer) (hf : X.env.frame = some X.env.locals) (tk : Takes X Wout)
    (hb : ∀ (W : WX) (pn : List (Addr × Obj)) (xe : Value → Shared → Prop), Takes (X.tr pn xe) W → PassesOwn (model X.prog X.w) X.A X.env xe → PSs (X.tr pn xe) body (tb W))
    (hh : HdsN X (h₀ :: hds) l) : PS X (.Try body (h₀ :: hds) [] [] pos) (fun D σ H => tb (wManyN X.K Wout D l) D σ H) := by
  refine ⟨fun pins s σ H D I h => ?_⟩
  have ok := I.ok
  have frA : X.A.frames = some (X.env :: X.outer) := by rw [ok.frames, hs]
  refine wpAny_Try_except ?_
  refine wpAny_mono ((hb (wManyN X.K Wout D l) (X.pn ++ pins) (fun e s₁ => wpAny (model X.prog X.w) X.A (noteFrame e X.env) (fun _ s₂ => wpAny (model X.prog X.w) X.A (setFlight e none) (fun _ s₃ =>
    wpAny (model X.prog X.w) X.A (handleBy e X.env (h₀ :: hds)) (SP X pins D) X.xe s₃) X.xe s₂) X.xe s₁) (fun u s' xx => ?_) PassesOwn.looking).run [] s σ H D (I.toTry _) h) (fun f s1 back => ?_) (fun e s1 he => he)
  · -- the catch
    obtain ⟨a, B, sI, pins', σ', H', cls, d, rfl, J', nb, up, sky, na, os, ag, w⟩ := xx
    have J : Inv X pins σ' H' sI := J'.ofTry ok
    have skyE : Sky B (X.env :: X.outer) a (Zc cls d) X.env.locals s'.heap := by rw [← hs]; exact sky
    show wpAny (model X.prog X.w) X.A (noteFrame (.ref a) X.env) _ _ _
    refine Sky.land Zc.steady frA hf skyE fun h3 fz3 ut3 => ?_
    have Jn3 : Inv X pins σ' H' { s' with heap := h3 } := J.landed nb fz3.1 (up.trans ut3) os ag
    obtain ⟨ox3, xs3, ob3, zc3, dt3⟩ := fz3.there
    have aside : ∀ {h : Heap} {o : Obj} {vs : Array Value}, h.FunFrames B (X.env :: X.outer) → h.get? a = some o → o.data = .fields vs → a ∉ frs (X.env :: X.outer) := fun {h o vs} ff e dd hm => by
      obtain ⟨_, o', e', hnf⟩ := ff.mem hm
      rw [e] at e'; cases e'
      exact hnf _ dd
    have offF := aside fz3.2.2.1 ob3 dt3
    have offL : a ≠ X.env.locals := fun z => offF (List.mem_filterMap.mpr ⟨X.env, List.mem_cons_self, by rw [hf, z]⟩)
    have offS : a ∉ X.fs := fun hm => by
      obtain ⟨e, he, q⟩ := List.mem_filterMap.mp hm
      exact offF (List.mem_filterMap.mpr ⟨e, List.mem_cons_of_mem _ he, q⟩)
    have In3 := Jn3.suite ob3 dt3 na offL offS
    have go : ∀ {hds' : List ExceptHandler} {l' : List (Value × Option Nat × (Addr → Value → Option Addr → TS))}, HdsN X hds' l' → wManyN X.K Wout D l' cls d σ' H' →
        wpAny (model X.prog X.w) X.A (handleBy (.ref a) X.env hds') (SP X pins D) X.xe { s' with heap := h3 } := by
      intro hds' l' hk
      induction hk with
      | nil =>
        intro w
        refine wpAny_handleBy_nil ?_
        obtain ⟨k1, k2, k3, oe, vs, T, oT, ts', he, hz, hd, h1, hr⟩ := id fz3
        unfold PySem.passOn
        refine wpAny_bind (wpAny_field he hd h1 ?_)
        rw [if_neg (show ¬ ((Value.ref T == Value.none) = true) from by simp)]
        have fin : wpAny (model X.prog X.w) X.A (setFlight (.ref a) X.env.frame) (fun _ s4 => wpAny (model X.prog X.w) X.A (throw (.ref a) : Sem Flow) (SP X pins D) X.xe s4) X.xe { s' with heap := h3 } := by
          rw [hf]
          refine HandSPX.setFlight_upZ fz3 fun h4 hh4 ut4 => wpAny_throw (tk _ _ ?_)
          exact ⟨a, B, sI, pins, σ', H', cls, d, rfl, J, nb, (up.trans ut3).trans ut4, .inr (.inr (by rw [hs]; exact hh4)), na, os, ag, w⟩
        first
          | exact wpAny_bind (wpAny_pure (wpAny_bind fin))
          | exact wpAny_bind fin
      | @cons x c ts b₀ suite np pos' hds2 l2 hc hsu r ih =>
        intro w
        obtain ⟨b, hx1, yes, nay⟩ := w
        refine wpAny_handleBy_cons (codeAny_handlers_test ?_) (by intro q; cases q)
        have lkT : PySem.W.Looks (model X.prog X.w) h3 (typeOf (.ref a)) cls := fun A Q E s k q => wpAny_typeOf_ref (k _ _ ob3) (by rw [zc3.1]; exact q)
        have lkM := PySem.W.exm_one (M := model X.prog X.w) (Jn3.kIn) lkT hx1
        have test : ∀ {Q : Value → Shared → Prop} {E : Value → Shared → Prop}, Q c { s' with heap := h3 } → wpAny (model X.prog X.w) (X.A.mark (some (.ref a))) (eval (.Name x np) X.env) Q E { s' with heap := h3 } := fun {Q E} q => by
          obtain ⟨hg, hdbg, hm | ⟨hm, hv, hnn⟩⟩ := hc
          · exact ld_glob (X := X.suite a ((a, ox3) :: (X.pn ++ pins))) In3 hg hm q hdbg
          · exact ld_blt (X := X.suite a ((a, ox3) :: (X.pn ++ pins))) In3 hg hm hv q hnn hdbg
        refine test (lkM.here ?_)
        cases b with
        | true =>
          refine codeAny_handlers_suite ?_
          refine HandSPX.lands_againZ fz3 fun h4 fz4 ut4 => ?_
          have Jn4 : Inv X pins σ' H' { s' with heap := h4 } := J.landed nb fz4.1 ((up.trans ut3).trans ut4) os ag
          obtain ⟨ox4, xs4, ob4, zc4, dt4⟩ := fz4.there
          have In4 := Jn4.suite ob4 dt4 na offL offS
          refine wpAny_mono ((hsu a ox4 cls d (X.pn ++ pins) zc4 ⟨_, dt4⟩).run [] _ _ H' _ In4 (yes rfl a na)) (fun f t6 back => ?_) (fun _ _ z => False.elim z)
          cases f with
          | next =>
            obtain ⟨σb, Hb, Inb, qb⟩ := back
            exact ⟨_, _, Inb.unsuite ok, qb⟩
          | brk =>
            obtain ⟨σb, Hb, Inb, qb⟩ := back
            exact ⟨_, _, Inb.unsuite ok, qb⟩
          | cont =>
            obtain ⟨σb, Hb, Inb, qb⟩ := back
            exact ⟨_, _, Inb.unsuite ok, qb⟩
          | ret u =>
            obtain ⟨vb, σb, Hb, Inb, rb, qb⟩ := back
            exact ⟨_, _, _, Inb.unsuite ok, rb, qb⟩
        | false =>
          show wpAny _ X.A (handleBy (.ref a) X.env hds2) _ _ _
          exact ih (nay rfl)
      | @consN x n i c ts b₀ suite np pos' hds2 l2 hN hi hln hc hsu r ih =>
        intro w
        obtain ⟨b, hx1, yes, nay⟩ := w
        have hloc : Loc X.env.scope n := .inl hln
        refine wpAny_handleBy_cons (codeAny_handlers_test ?_) (by intro q; cases q)
        have lkT : PySem.W.Looks (model X.prog X.w) h3 (typeOf (.ref a)) cls := fun A Q E s k q => wpAny_typeOf_ref (k _ _ ob3) (by rw [zc3.1]; exact q)
        have lkM := PySem.W.exm_one (M := model X.prog X.w) (Jn3.kIn) lkT hx1
        have test : ∀ {Q : Value → Shared → Prop} {E : Value → Shared → Prop}, Q c { s' with heap := h3 } → wpAny (model X.prog X.w) (X.A.mark (some (.ref a))) (eval (.Name x np) X.env) Q E { s' with heap := h3 } := fun {Q E} q => by
          obtain ⟨hg, hdbg, hm | ⟨hm, hv, hnn⟩⟩ := hc
          · exact ld_glob (X := X.suite a ((a, ox3) :: (X.pn ++ pins))) In3 hg hm q hdbg
          · exact ld_blt (X := X.suite a ((a, ox3) :: (X.pn ++ pins))) In3 hg hm hv q hnn hdbg
        refine test (lkM.here ?_)
        cases b with
        | true =>
          refine codeAny_handlers_suite_as ?_
          refine HandSPX.lands_againZ fz3 fun h4 fz4 ut4 => ?_
          have Jn4 : Inv X pins σ' H' { s' with heap := h4 } := J.landed nb fz4.1 ((up.trans ut3).trans ut4) os ag
          obtain ⟨ox4, xs4, ob4, zc4, dt4⟩ := fz4.there
          have In4 := Jn4.suite ob4 dt4 na offL offS
          refine store_ok (X := X.suite a ((a, ox4) :: (X.pn ++ pins))) (v := .ref a) In4 hN hi hloc rfl (fun t5 In5 => ?_) (.inr hln)
          refine wpAny_mono ((hsu a ox4 cls d (X.pn ++ pins) zc4 ⟨_, dt4⟩).run [] t5 _ H' _ In5 (yes rfl a na)) (fun f t6 back => ?_) (fun _ _ z => False.elim z)
          have gone : ∀ {σb : St} {Hb : Hp} {Q : Shared → Prop}, Inv (X.suite a ((a, ox4) :: (X.pn ++ pins))) [] σb Hb t6 → (∀ s7, Inv X pins (σb.set i none) Hb s7 → Q s7) →
              wpAny (model X.prog X.w) X.A (do bindName X.env n .none; unbindBehindTheSuite X.env n pos') (fun _ s7 => Q s7) X.xe t6 := fun {σb Hb Q} Inb hq => gone_ok (Inb.unsuite ok) hN hi hln hq
          cases f with
          | next =>
            obtain ⟨σb, Hb, Inb, qb⟩ := back
            exact gone Inb fun s7 J7 => ⟨_, _, J7, qb⟩
          | brk =>
            obtain ⟨σb, Hb, Inb, qb⟩ := back
            exact gone Inb fun s7 J7 => ⟨_, _, J7, qb⟩
          | cont =>
            obtain ⟨σb, Hb, Inb, qb⟩ := back
            exact gone Inb fun s7 J7 => ⟨_, _, J7, qb⟩
          | ret u =>
            obtain ⟨vb, σb, Hb, Inb, rb, qb⟩ := back
            exact gone Inb fun s7 J7 => ⟨_, _, _, J7, rb, qb⟩
        | false =>
          show wpAny _ X.A (handleBy (.ref a) X.env hds2) _ _ _
          exact ih (nay rfl)
    exact go hh w
  · cases f with
    | next =>
      obtain ⟨σ', H', J', q⟩ := back
      exact wpAny_execs_nil ⟨σ', H', J'.ofTry ok, q⟩
    | brk =>
      obtain ⟨σ', H', J', q⟩ := back
      exact ⟨σ', H', J'.ofTry ok, q⟩
    | cont =>
      obtain ⟨σ', H', J', q⟩ := back
      exact ⟨σ', H', J'.ofTry ok, q⟩
    | ret u =>
      obtain ⟨v, σ', H', J', r, q⟩ := back
      exact ⟨v, σ', H', J'.ofTry ok, r, q⟩
end
end L2

namespace Pm
/-! ### forms and blocks -/
def form : Nat → List Nat
  | 0 => [0] | 1 => [1, 0] | 2 => [1, 1] | 3 => [1, 2, 1] | 4 => [1, 2, 2] | 5 => [1, 2, 1, 2] | 6 => [1, 2, 3, 2] | _ => [1, 2, 3, 0]
abbrev Bk := Nat × List Nat
structure Blk (ys : List Nat) (b : Bk) : Prop where
  w : b.1 < 8
  len : b.2.length = (form b.1).length
  sh : ∀ k, k < b.2.length → ys.getD (b.2.getD k 0) 0 = b.2.getD ((form b.1).getD k 0) 0
structure Built (ys : List Nat) (bs : List Bk) : Prop where
  blk : ∀ b ∈ bs, Blk ys b
  perm : (bs.flatMap (·.2)).Perm (List.range ys.length)
theorem form_len (w : Nat) : 0 < (form w).length := by
  unfold form
  split <;> decide
theorem form_lt (w k : Nat) (h : k < (form w).length) : (form w).getD k 0 < (form w).length := by
  unfold form at h ⊢
  split at h <;> (simp at h ⊢; rcases k with _ | _ | _ | _ | k <;> simp at h ⊢ <;> omega)
/-- the least of a list -/
def mn : List Nat → Nat
  | [] => 0
  | [a] => a
  | a :: b :: l => min a (mn (b :: l))
theorem mn_mem : ∀ {l : List Nat}, l ≠ [] → mn l ∈ l
  | [], h => absurd rfl h
  | [a], _ => by simp [mn]
  | a :: b :: l, _ => by
    have ih := mn_mem (l := b :: l) (by simp)
    unfold mn
    by_cases h : a ≤ mn (b :: l)
    · rw [Nat.min_eq_left h]; exact List.mem_cons_self ..
    · rw [Nat.min_eq_right (by omega)]; exact List.mem_cons_of_mem _ ih
theorem mn_le : ∀ {l : List Nat} {x : Nat}, x ∈ l → mn l ≤ x
  | [a], x, h => by
    rw [List.mem_singleton.mp h]
    exact Nat.le_refl _
  | a :: b :: l, x, h => by
    unfold mn
    rcases List.mem_cons.mp h with e | h
    · rw [e]; exact Nat.min_le_left _ _
    · exact Nat.le_trans (Nat.min_le_right _ _) (mn_le h)
theorem uniq : ∀ {bs : List Bk} {b c : Bk} {x : Nat}, (bs.flatMap (·.2)).Nodup → b ∈ bs → c ∈ bs → x ∈ b.2 → x ∈ c.2 → b = c
  | a :: bs, b, c, x, nd, hb, hc, xb, xc => by
    rw [List.flatMap_cons, List.nodup_append] at nd
    rcases List.mem_cons.mp hb with e1 | hb
    · rcases List.mem_cons.mp hc with e2 | hc
      · rw [e1, e2]
      · exact absurd rfl (nd.2.2 x (e1 ▸ xb) x (List.mem_flatMap.mpr ⟨c, hc, xc⟩))
    · rcases List.mem_cons.mp hc with e2 | hc
      · exact absurd rfl (nd.2.2 x (e2 ▸ xc) x (List.mem_flatMap.mpr ⟨b, hb, xb⟩))
      · exact uniq nd.2.1 hb hc xb xc
theorem nd_of : ∀ {bs : List Bk} {b : Bk}, (bs.flatMap (·.2)).Nodup → b ∈ bs → b.2.Nodup
  | a :: bs, b, nd, hb => by
    rw [List.flatMap_cons, List.nodup_append] at nd
    rcases List.mem_cons.mp hb with e1 | hb
    · rw [e1]; exact nd.1
    · exact nd_of nd.2.1 hb
def beta (bs : List Bk) (x : Nat) : Nat := match bs.find? (fun b => b.2.contains x) with
  | some b => mn b.2
  | none => x
section
variable {ys : List Nat} {bs : List Bk}
theorem Built.nd (B : Built ys bs) : (bs.flatMap (·.2)).Nodup := B.perm.nodup_iff.mpr List.nodup_range
theorem Built.lt (B : Built ys bs) {b : Bk} (hb : b ∈ bs) {x : Nat} (hx : x ∈ b.2) : x < ys.length :=
  List.mem_range.mp (B.perm.mem_iff.mp (List.mem_flatMap.mpr ⟨b, hb, hx⟩))
theorem Built.of (B : Built ys bs) {x : Nat} (hx : x < ys.length) : ∃ b ∈ bs, x ∈ b.2 := by
  obtain ⟨b, hb, h⟩ := List.mem_flatMap.mp (B.perm.mem_iff.mpr (List.mem_range.mpr hx))
  exact ⟨b, hb, h⟩
theorem Built.beta_of (B : Built ys bs) {b : Bk} (hb : b ∈ bs) {x : Nat} (hx : x ∈ b.2) : beta bs x = mn b.2 := by
  unfold beta
  cases h : bs.find? (fun b => b.2.contains x) with
  | none =>
    have := List.find?_eq_none.mp h b hb
    simp [hx] at this
  | some c =>
    have h1 := List.mem_of_find?_eq_some h
    have h2 := List.find?_some h
    have h3 : x ∈ c.2 := by simpa using h2
    rw [uniq B.nd hb h1 hx h3]
theorem Built.ne (B : Built ys bs) {b : Bk} (hb : b ∈ bs) : b.2 ≠ [] := fun z => by
  have h := (B.blk b hb).len
  have := form_len b.1
  rw [z] at h
  simp at h
  omega
theorem Built.mn_beta (B : Built ys bs) {b : Bk} (hb : b ∈ bs) : beta bs (mn b.2) = mn b.2 := B.beta_of hb (mn_mem (B.ne hb))
theorem Built.beta_le (B : Built ys bs) {x : Nat} (hx : x < ys.length) : beta bs x ≤ x := by
  obtain ⟨b, hb, h⟩ := B.of hx
  rw [B.beta_of hb h]
  exact mn_le h
theorem getD_mem {l : List Nat} {k : Nat} (h : k < l.length) : l.getD k 0 ∈ l := by
  rw [List.getD_eq_getElem?_getD, List.getElem?_eq_getElem h]
  exact List.getElem_mem h
theorem mem_getD {l : List Nat} {x : Nat} (h : x ∈ l) : ∃ k, k < l.length ∧ l.getD k 0 = x := by
  obtain ⟨k, hk, e⟩ := List.getElem_of_mem h
  exact ⟨k, hk, by rw [List.getD_eq_getElem?_getD, List.getElem?_eq_getElem hk]; exact e⟩
/-- what a record shows is of its block -/
theorem Built.shown (B : Built ys bs) {b : Bk} (hb : b ∈ bs) {x : Nat} (hx : x ∈ b.2) : ys.getD x 0 ∈ b.2 := by
  obtain ⟨k, hk, rfl⟩ := mem_getD hx
  have Q := B.blk b hb
  rw [Q.sh k hk]
  exact getD_mem (by rw [Q.len]; exact form_lt _ _ (by rw [← Q.len]; exact hk))
theorem Built.edge (B : Built ys bs) {x : Nat} (hx : x < ys.length) : ys.getD x 0 < ys.length ∧ beta bs (ys.getD x 0) = beta bs x := by
  obtain ⟨b, hb, h⟩ := B.of hx
  have h2 := B.shown hb h
  exact ⟨B.lt hb h2, by rw [B.beta_of hb h, B.beta_of hb h2]⟩
end
/-! ### the labels -/
def stepL (L : List Nat) (r nm : Nat) : List Nat := if min (L.getD r 0) (L.getD nm 0) = max (L.getD r 0) (L.getD nm 0) then L else L.map fun o => if o = max (L.getD r 0) (L.getD nm 0) then min (L.getD r 0) (L.getD nm 0) else o
def lab (ys : List Nat) : Nat → List Nat
  | 0 => List.range ys.length
  | i + 1 => stepL (lab ys i) i (ys.getD i 0)
structure Lab (ys : List Nat) (bs : List Bk) (i : Nat) (L : List Nat) : Prop where
  len : L.length = ys.length
  le : ∀ x, x < ys.length → L.getD x 0 ≤ x
  fx : ∀ x, x < ys.length → L.getD (L.getD x 0) 0 = L.getD x 0
  bl : ∀ x, x < ys.length → beta bs (L.getD x 0) = beta bs x
  ed : ∀ r, r < i → r < ys.length → L.getD r 0 = L.getD (ys.getD r 0) 0
theorem getD_map {L : List Nat} {f : Nat → Nat} {x : Nat} (h : x < L.length) : (L.map f).getD x 0 = f (L.getD x 0) := by
  rw [List.getD_eq_getElem?_getD, List.getElem?_map, List.getD_eq_getElem?_getD, List.getElem?_eq_getElem h]
  rfl
theorem getD_range {n x : Nat} (h : x < n) : (List.range n).getD x 0 = x := by
  rw [List.getD_eq_getElem?_getD, List.getElem?_range h]
  rfl
theorem lab_ok {ys : List Nat} {bs : List Bk} (B : Built ys bs) : ∀ i, i ≤ ys.length → Lab ys bs i (lab ys i)
  | 0, _ => ⟨List.length_range, fun x hx => by show (List.range _).getD x 0 ≤ x; rw [getD_range hx]; exact Nat.le_refl _,
      fun x hx => by show (List.range _).getD ((List.range _).getD x 0) 0 = (List.range _).getD x 0; rw [getD_range hx, getD_range hx],
      fun x hx => by show beta bs ((List.range _).getD x 0) = _; rw [getD_range hx], fun r h => absurd h (Nat.not_lt_zero _)⟩
  | i + 1, hi => by
    have ih := lab_ok B i (by omega)
    have hin : i < ys.length := by omega
    obtain ⟨hnm, hbe⟩ := B.edge hin
    show Lab ys bs (i + 1) (stepL (lab ys i) i (ys.getD i 0))
    generalize lab ys i = L at ih
    generalize hnmE : ys.getD i 0 = nm at hnm hbe
    unfold stepL
    have a1 := ih.fx i hin
    have b1 := ih.fx nm hnm
    have a2 := ih.le i hin
    have b2 := ih.le nm hnm
    have a3 := ih.bl i hin
    have b3 := ih.bl nm hnm
    generalize ha : L.getD i 0 = a at *
    generalize hb : L.getD nm 0 = b at *
    by_cases heq : min a b = max a b
    · rw [if_pos heq]
      refine ⟨ih.len, ih.le, ih.fx, ih.bl, fun r hr hrn => ?_⟩
      by_cases h : r = i
      · rw [h, ha, hnmE, hb]
        omega
      · exact ih.ed r (by omega) hrn
    · rw [if_neg heq]
      have hlow : L.getD (min a b) 0 = min a b := by
        by_cases h : a ≤ b
        · rw [Nat.min_eq_left h]; exact a1
        · rw [Nat.min_eq_right (by omega)]; exact b1
      have hbl : beta bs (min a b) = beta bs (max a b) := by
        by_cases h : a ≤ b
        · rw [Nat.min_eq_left h, Nat.max_eq_right h, a3, b3, hbe]
        · rw [Nat.min_eq_right (by omega), Nat.max_eq_left (by omega), a3, b3, hbe]
      have at_ : ∀ x, x < ys.length → (L.map fun o => if o = max a b then min a b else o).getD x 0 = if L.getD x 0 = max a b then min a b else L.getD x 0 := fun x hx => getD_map (by rw [ih.len]; exact hx)
      have hminlt : min a b < ys.length := by omega
      refine ⟨by rw [List.length_map]; exact ih.len, fun x hx => ?_, fun x hx => ?_, fun x hx => ?_, fun r hr hrn => ?_⟩
      · rw [at_ x hx]
        have := ih.le x hx
        split <;> omega
      · rw [at_ x hx]
        by_cases h : L.getD x 0 = max a b
        · rw [if_pos h, at_ _ hminlt, hlow, if_neg heq]
        · rw [if_neg h]
          have hl := ih.le x hx
          rw [at_ _ (by omega), ih.fx x hx, if_neg h]
      · rw [at_ x hx]
        by_cases h : L.getD x 0 = max a b
        · rw [if_pos h, hbl, ← h]; exact ih.bl x hx
        · rw [if_neg h]; exact ih.bl x hx
      · rw [at_ r hrn, at_ _ (B.edge hrn).1]
        by_cases h : r = i
        · rw [h, ha, hnmE, hb]
          by_cases hab : a ≤ b
          · rw [Nat.min_eq_left hab, Nat.max_eq_right hab]
            by_cases hq : a = b <;> simp [hq]
          · rw [Nat.min_eq_right (by omega), Nat.max_eq_left (by omega)]
            by_cases hq : b = a <;> simp [hq]
        · rw [ih.ed r (by omega) hrn]
theorem conn {w : Nat} {ms : List Nat} {f : Nat → Nat} (hl : ms.length = (form w).length) (h : ∀ k, k < ms.length → f (ms.getD k 0) = f (ms.getD ((form w).getD k 0) 0)) : ∀ k, k < ms.length → f (ms.getD k 0) = f (ms.getD 0 0) := by
  unfold form at hl h
  split at hl
  all_goals (simp only [List.length_cons, List.length_nil] at hl; intro k hk)
  all_goals (have h0 := h 0 (by omega); try have h1 := h 1 (by omega))
  all_goals (try have h2 := h 2 (by omega))
  all_goals (try have h3 := h 3 (by omega))
  all_goals (rcases k with _ | _ | _ | _ | k)
  all_goals first | omega | rfl | (simp at h0 h1 h2 h3 ⊢; omega) | (simp at h0 h1 h2 ⊢; omega) | (simp at h0 h1 ⊢; omega) | (simp at h0 ⊢; omega)
end Pm

namespace Pm
inductive Cs (g : Nat → Nat) : Nat → List Nat → Prop
  | free (a) : g a = a → Cs g 0 [a]
  | pair (a b) : g a = b → g b = a → Cs g 1 [a, b]
  | claim (a b) : g a = b → g b = b → Cs g 2 [a, b]
  | hook (c a b) : g c = a → g a = b → g b = a → Cs g 3 [c, a, b]
  | relay (c a b) : g c = a → g a = b → g b = b → Cs g 4 [c, a, b]
  | clamp (d a b c) : g d = a → g a = b → g b = a → g c = b → Cs g 5 [d, a, b, c]
  | trail (d c a b) : g d = c → g c = a → g a = b → g b = a → Cs g 6 [d, c, a, b]
  | wheel (a b c d) : g a = b → g b = c → g c = d → g d = a → Cs g 7 [a, b, c, d]
theorem Blk.cs {ys : List Nat} {b : Bk} (Q : Blk ys b) : Cs (fun x => ys.getD x 0) b.1 b.2 := by
  obtain ⟨w, ms⟩ := b
  obtain ⟨hw, hl, h⟩ := Q
  dsimp only at hw hl h
  match w, hw with
  | 0, _ => match ms, hl with | [a], _ => exact .free a (by simpa [form] using h 0 (by simp))
  | 1, _ => match ms, hl with | [a, b], _ => exact .pair a b (by simpa [form] using h 0 (by simp)) (by simpa [form] using h 1 (by simp))
  | 2, _ => match ms, hl with | [a, b], _ => exact .claim a b (by simpa [form] using h 0 (by simp)) (by simpa [form] using h 1 (by simp))
  | 3, _ => match ms, hl with | [a, b, c], _ => exact .hook a b c (by simpa [form] using h 0 (by simp)) (by simpa [form] using h 1 (by simp)) (by simpa [form] using h 2 (by simp))
  | 4, _ => match ms, hl with | [a, b, c], _ => exact .relay a b c (by simpa [form] using h 0 (by simp)) (by simpa [form] using h 1 (by simp)) (by simpa [form] using h 2 (by simp))
  | 5, _ => match ms, hl with | [a, b, c, d], _ => exact .clamp a b c d (by simpa [form] using h 0 (by simp)) (by simpa [form] using h 1 (by simp)) (by simpa [form] using h 2 (by simp)) (by simpa [form] using h 3 (by simp))
  | 6, _ => match ms, hl with | [a, b, c, d], _ => exact .trail a b c d (by simpa [form] using h 0 (by simp)) (by simpa [form] using h 1 (by simp)) (by simpa [form] using h 2 (by simp)) (by simpa [form] using h 3 (by simp))
  | 7, _ => match ms, hl with | [a, b, c, d], _ => exact .wheel a b c d (by simpa [form] using h 0 (by simp)) (by simpa [form] using h 1 (by simp)) (by simpa [form] using h 2 (by simp)) (by simpa [form] using h 3 (by simp))
structure Canon (b : Bk) : Prop where
  pair : b.1 = 1 → b.2.getD 0 0 < b.2.getD 1 0
  clamp : b.1 = 5 → b.2.getD 0 0 < b.2.getD 3 0
  wheel : b.1 = 7 → b.2.getD 0 0 = mn b.2
section
variable {ys : List Nat} {bs : List Bk}
theorem lab_end (B : Built ys bs) {x : Nat} (hx : x < ys.length) : (lab ys ys.length).getD x 0 = beta bs x := by
  have Q := lab_ok B ys.length (Nat.le_refl _)
  generalize lab ys ys.length = L at Q ⊢
  obtain ⟨b, hb, hxb⟩ := B.of hx
  have P := B.blk b hb
  have cn := conn (f := fun x => L.getD x 0) P.len fun k hk => by
    show L.getD (b.2.getD k 0) 0 = _
    have hm := B.lt hb (getD_mem hk)
    rw [Q.ed _ hm hm, P.sh k hk]
  have h0 : 0 < b.2.length := List.length_pos_iff.mpr (B.ne hb)
  have same : ∀ y, y ∈ b.2 → L.getD y 0 = L.getD (b.2.getD 0 0) 0 := fun y hy => by
    obtain ⟨k, hk, rfl⟩ := mem_getD hy
    exact cn k hk
  have hmn := mn_mem (B.ne hb)
  have e1 : L.getD x 0 = L.getD (mn b.2) 0 := by rw [same x hxb, same _ hmn]
  have h1 := Q.le (mn b.2) (B.lt hb hmn)
  have h2 := Q.bl x hx
  have h3 := Q.le x hx
  have h4 := B.beta_le (x := L.getD x 0) (by omega)
  have h5 := B.beta_of hb hxb
  omega
def grp (bs : List Bk) (n m : Nat) : List Nat := (List.range n).filter fun x => decide (beta bs x = m)
def roots (bs : List Bk) (n : Nat) : List Nat := (List.range n).filter fun x => decide (beta bs x = x)
theorem nodup_filter {l : List Nat} (p : Nat → Bool) (h : l.Nodup) : (l.filter p).Nodup := h.sublist List.filter_sublist
theorem grp_nd {n m : Nat} : (grp bs n m).Nodup := nodup_filter _ List.nodup_range
theorem grp_lt {n m : Nat} : (grp bs n m).Pairwise (· < ·) := List.Pairwise.filter _ List.pairwise_lt_range
theorem Built.mem_grp (B : Built ys bs) {b : Bk} (hb : b ∈ bs) {x : Nat} : x ∈ grp bs ys.length (mn b.2) ↔ x ∈ b.2 := by
  unfold grp
  rw [List.mem_filter, List.mem_range, decide_eq_true_eq]
  constructor
  · rintro ⟨h1, h2⟩
    obtain ⟨c, hc, hx⟩ := B.of h1
    rw [B.beta_of hc hx] at h2
    have e := uniq B.nd hc hb (x := mn b.2) (by rw [← h2]; exact mn_mem (B.ne hc)) (mn_mem (B.ne hb))
    exact e ▸ hx
  · exact fun h => ⟨B.lt hb h, B.beta_of hb h⟩
theorem Built.grp_perm (B : Built ys bs) {b : Bk} (hb : b ∈ bs) : (grp bs ys.length (mn b.2)).Perm b.2 :=
  (List.perm_ext_iff_of_nodup grp_nd (nd_of B.nd hb)).mpr fun x => B.mem_grp hb
theorem Built.roots_eq (B : Built ys bs) (hs : bs.Pairwise fun a b => mn a.2 < mn b.2) : roots bs ys.length = bs.map fun b => mn b.2 := by
  have s1 : (roots bs ys.length).Pairwise (· < ·) := List.Pairwise.filter _ List.pairwise_lt_range
  have s2 : (bs.map fun b => mn b.2).Pairwise (· < ·) := List.pairwise_map.mpr hs
  refine List.Perm.eq_of_pairwise (le := (· < ·)) (fun a b _ _ h1 h2 => by omega) s1 s2 ?_
  refine (List.perm_ext_iff_of_nodup (s1.imp fun h => by omega) (s2.imp fun h => by omega)).mpr fun x => ?_
  unfold roots
  rw [List.mem_filter, List.mem_range, decide_eq_true_eq, List.mem_map]
  constructor
  · rintro ⟨h1, h2⟩
    obtain ⟨b, hb, hx⟩ := B.of h1
    exact ⟨b, hb, by rw [← h2, B.beta_of hb hx]⟩
  · rintro ⟨b, hb, rfl⟩
    exact ⟨B.lt hb (mn_mem (B.ne hb)), B.mn_beta hb⟩
/-! ### one group's row -/
def path (b : Bk) : List Nat := if b.1 = 5 then b.2.take 3 else b.2
theorem filter_one {l : List Nat} {q : Nat → Bool} {x : Nat} (nd : l.Nodup) (hx : x ∈ l) (h1 : q x = true) (h2 : ∀ y ∈ l, q y = true → y = x) : l.filter q = [x] := by
  have nd2 := nodup_filter q nd
  have m : ∀ y, y ∈ l.filter q ↔ y = x := fun y => by
    rw [List.mem_filter]
    exact ⟨fun h => h2 y h.1 h.2, fun h => by rw [h]; exact ⟨hx, h1⟩⟩
  match hl : l.filter q with
  | [] => exact absurd ((m x).mpr rfl) (by rw [hl]; simp)
  | [a] => rw [(m a).mp (by rw [hl]; simp)]
  | a :: b :: r =>
    rw [hl] at nd2 m
    have ea := (m a).mp (by simp)
    have eb := (m b).mp (by simp)
    simp [ea, eb] at nd2
theorem mn_sing {a : Nat} : mn [a] = a := rfl
/-- the walk of a form -/
structure Walks (g : Nat → Nat) (p : List Nat) : Prop where
  pos : 0 < p.length
  nd : p.Nodup
  next : ∀ j, j + 1 < p.length → g (p.getD j 0) = p.getD (j + 1) 0
  back : g (p.getD (p.length - 1) 0) ∈ p
theorem Built.walks (B : Built ys bs) {b : Bk} (hb : b ∈ bs) : Walks (fun x => ys.getD x 0) (path b) := by
  have nd := nd_of B.nd hb
  have C := (B.blk b hb).cs
  obtain ⟨w, ms⟩ := b
  dsimp only at C nd
  unfold path
  dsimp only
  generalize (fun x => ys.getD x 0) = g at C
  cases C
  all_goals (simp at nd ⊢)
  all_goals (refine ⟨by simp, by simp; try simp [nd], fun j hj => ?_, by simp [*]⟩)
  all_goals (rcases j with _ | _ | _ | _ | j)
  all_goals first | (simp at hj; done) | (simp [*]; done) | (simp at hj ⊢; omega) | skip
theorem Built.left (B : Built ys bs) {b : Bk} (hb : b ∈ bs) : path b ++ (grp bs ys.length (mn b.2)).filter (fun x => !(path b).contains x) = b.2 := by
  have nd := nd_of B.nd hb
  have C := (B.blk b hb).cs
  have M : ∀ x, x ∈ grp bs ys.length (mn b.2) ↔ x ∈ b.2 := fun x => B.mem_grp hb
  have N : (grp bs ys.length (mn b.2)).Nodup := grp_nd
  generalize grp bs ys.length (mn b.2) = l at M N
  by_cases h5 : b.1 = 5
  · obtain ⟨w, ms⟩ := b
    dsimp only at h5 C nd M ⊢
    subst h5
    cases C
    rename_i d a b c h1 h2 h3 h4
    unfold path
    simp at nd ⊢
    rw [filter_one (x := c) N (by rw [M]; simp) (by simp; omega) fun y hy hq => ?_]
    rw [M] at hy
    simp at hy hq
    omega
  · unfold path
    rw [if_neg h5]
    have e : l.filter (fun x => !b.2.contains x) = [] := by
      rw [List.filter_eq_nil_iff]
      intro x hx
      have := (M x).mp hx
      simp [this]
    rw [e, List.append_nil]
/-- where the walk starts: at the first record that no other of the group shows, or at the first one -/
theorem Built.start (B : Built ys bs) {b : Bk} (hb : b ∈ bs) (K : Canon b) (T : List Nat)
    (hT : T = (grp bs ys.length (mn b.2)).filter (fun x => !((grp bs ys.length (mn b.2)).map fun y => ys.getD y 0).contains x)) :
    (T = [] → (grp bs ys.length (mn b.2)).head? = some (b.2.getD 0 0)) ∧ (T ≠ [] → T.head? = some (b.2.getD 0 0)) := by
  have nd := nd_of B.nd hb
  have C := (B.blk b hb).cs
  have M : ∀ x, x ∈ grp bs ys.length (mn b.2) ↔ x ∈ b.2 := fun x => B.mem_grp hb
  have sh : ∀ x, ((grp bs ys.length (mn b.2)).map fun y => ys.getD y 0).contains x = (b.2.map fun y => ys.getD y 0).contains x := fun x => by
    rw [Bool.eq_iff_iff, List.contains_iff_mem, List.contains_iff_mem, List.mem_map, List.mem_map]
    exact ⟨fun ⟨y, hy, e⟩ => ⟨y, (M y).mp hy, e⟩, fun ⟨y, hy, e⟩ => ⟨y, (M y).mpr hy, e⟩⟩
  have hT2 : T = (List.range ys.length).filter fun x => decide (beta bs x = mn b.2) && !(b.2.map fun y => ys.getD y 0).contains x := by
    rw [hT]
    unfold grp
    rw [List.filter_filter]
    refine List.filter_congr fun x hx => ?_
    have := sh x
    unfold grp at this
    rw [this, Bool.and_comm]
  have inB : ∀ x, x < ys.length → (decide (beta bs x = mn b.2) = true ↔ x ∈ b.2) := fun x hx => by
    rw [← M x]
    unfold grp
    rw [List.mem_filter, List.mem_range]
    exact ⟨fun h => ⟨hx, h⟩, fun h => h.2⟩
  have root : b.2.getD 0 0 = mn b.2 → (grp bs ys.length (mn b.2)).head? = some (b.2.getD 0 0) := fun e => by
    unfold grp
    rw [List.head?_filter, List.find?_range_eq_some, e]
    refine ⟨by rw [decide_eq_true_eq]; exact B.mn_beta hb, List.mem_range.mpr (B.lt hb (mn_mem (B.ne hb))), fun j hj => ?_⟩
    have hjn : j < ys.length := Nat.lt_trans hj (B.lt hb (mn_mem (B.ne hb)))
    have := B.beta_le hjn
    simp
    omega
  have tail : ∀ m0 : Nat, m0 ∈ b.2 → (b.2.map fun y => ys.getD y 0).contains m0 = false → (∀ j, j < m0 → j ∈ b.2 → (b.2.map fun y => ys.getD y 0).contains j = true) → T.head? = some m0 := fun m0 h1 h2 h3 => by
    rw [hT2, List.head?_filter, List.find?_range_eq_some]
    refine ⟨by rw [h2, (inB m0 (B.lt hb h1)).mpr h1]; rfl, List.mem_range.mpr (B.lt hb h1), fun j hj => ?_⟩
    have hjn : j < ys.length := Nat.lt_trans hj (B.lt hb h1)
    by_cases hjb : j ∈ b.2
    · rw [h3 j hj hjb]
      simp
    · have : decide (beta bs j = mn b.2) = false := by
        cases h : decide (beta bs j = mn b.2) with
        | false => rfl
        | true => exact absurd ((inB j hjn).mp h) hjb
      rw [this]
      rfl
  have none : (∀ x ∈ b.2, (b.2.map fun y => ys.getD y 0).contains x = true) → T = [] := fun h => by
    rw [hT2, List.filter_eq_nil_iff]
    intro x hx
    have hxn := List.mem_range.mp hx
    by_cases hxb : x ∈ b.2
    · rw [h x hxb]
      simp
    · intro z
      rw [Bool.and_eq_true] at z
      exact hxb ((inB x hxn).mp z.1)
  obtain ⟨w, ms⟩ := b
  dsimp only at *
  generalize hg : (fun y => ys.getD y 0) = g at C tail none
  clear hT hT2 sh
  cases C with
  | free a h1 =>
    have t := none (by simp [h1])
    exact ⟨fun _ => root rfl, fun h => absurd t h⟩
  | pair a b h1 h2 =>
    have t := none (by simp [h1, h2])
    have := K.pair rfl
    simp at this
    exact ⟨fun _ => root (by simp [mn]; omega), fun h => absurd t h⟩
  | wheel a b c d h1 h2 h3 h4 =>
    have t := none (by simp [h1, h2, h3, h4])
    exact ⟨fun _ => root (K.wheel rfl), fun h => absurd t h⟩
  | claim a b h1 h2 =>
    simp at nd
    have t := tail a (by simp) (by simp [h1, h2]; omega) (fun j hj hm => by simp at hm; simp [h1, h2]; omega)
    exact ⟨fun h => (by rw [h] at t; simp at t), fun _ => t⟩
  | hook c a b h1 h2 h3 =>
    simp at nd
    have t := tail c (by simp) (by simp [h1, h2, h3]; omega) (fun j hj hm => by simp at hm; simp [h1, h2, h3]; omega)
    exact ⟨fun h => (by rw [h] at t; simp at t), fun _ => t⟩
  | relay c a b h1 h2 h3 =>
    simp at nd
    have t := tail c (by simp) (by simp [h1, h2, h3]; omega) (fun j hj hm => by simp at hm; simp [h1, h2, h3]; omega)
    exact ⟨fun h => (by rw [h] at t; simp at t), fun _ => t⟩
  | clamp d a b c h1 h2 h3 h4 =>
    simp at nd
    have kk := K.clamp rfl
    simp at kk
    have t := tail d (by simp) (by simp [h1, h2, h3, h4]; omega) (fun j hj hm => by simp at hm; simp [h1, h2, h3, h4]; omega)
    exact ⟨fun h => (by rw [h] at t; simp at t), fun _ => t⟩
  | trail d c a b h1 h2 h3 h4 =>
    simp at nd
    have t := tail d (by simp) (by simp [h1, h2, h3, h4]; omega) (fun j hj hm => by simp at hm; simp [h1, h2, h3, h4]; omega)
    exact ⟨fun h => (by rw [h] at t; simp at t), fun _ => t⟩
end
end Pm

namespace L2
open PySem PySem.Spec PyProof.Rows
/-! ### a table of the text keyed by tuples of ints -/
def numK (ks : List Nat) : NestedKey := .tup (ks.map fun k : Nat => NestedKey.num (k : Int))
/-- at a, in the written part: a table of the given keys and texts -/
def TabK (P : Program) (w : World) (K : PySem.W.Frag) (a : Addr) (kvs : List (List Nat × Str)) : Prop := (a == sysModules) = false ∧
  ∃ ts : List Tok, ∀ h : Heap, K.In h → h.DictKeyed (nestedKind P w) a ((kvs.zip ts).map fun x => (numK x.1.1, Value.str x.1.2 x.2)) ∧ ts.length = kvs.length
theorem numK_depth : ∀ ks : List Nat, (numK ks).depth ≤ 8 := fun ks => by
  have h : ∀ l : List Nat, NestedKey.depthAll (l.map fun k : Nat => NestedKey.num (k : Int)) ≤ 1 := fun l => by
    induction l with
    | nil => simp [NestedKey.depthAll]
    | cons a l ih =>
      simp only [List.map_cons, NestedKey.depthAll, NestedKey.depth]
      omega
  have := h ks
  unfold numK
  simp only [NestedKey.depth]
  omega
theorem numAll_of {h : Heap} : ∀ {ks : List Nat} {us : List Value}, Vals (ks.map fun k : Nat => V.int (k : Int)) us → NestedAll h (ks.map fun k : Nat => NestedKey.num (k : Int)) us
  | [], _, r => by cases r; exact .nil
  | k :: ks, _, r => by
    cases r with
    | cons r1 r2 =>
      obtain ⟨t, e⟩ := r1
      rw [e]
      exact .cons (.int _ t) (numAll_of r2)
/-- d.get(t) of such a table, the key there -/
def tTabGet (P : Program) (w : World) (K : PySem.W.Frag) (td te : TE) : TE := fun σ H Q => td σ H fun x H1 => ∃ (a : Addr) (kvs : List (List Nat × Str)), x = .ref a ∧ TabK P w K a kvs ∧ te σ H1 fun y H2 => ∃ (p : Addr) (ks : List Nat) (z : Str), y = .ref p ∧ H2 p = some (.tup (ks.map fun k : Nat => V.int (k : Int))) ∧
  (∃ i, kvs[i]? = some (ks, z) ∧ ∀ (j : Nat) (q : List Nat × Str), j < i → kvs[j]? = some q → q.1 ≠ ks) ∧ Q (.str z) H2
theorem numK_inj {a b : List Nat} (h : numK a = numK b) : a = b := by
  unfold numK at h
  injection h with h
  have g : ∀ {l m : List Nat}, (l.map fun k : Nat => NestedKey.num (k : Int)) = (m.map fun k : Nat => NestedKey.num (k : Int)) → l = m := by
    intro l
    induction l with
    | nil =>
      intro m e
      cases m with
      | nil => rfl
      | cons _ _ => cases e
    | cons a l ih =>
      intro m e
      cases m with
      | nil => cases e
      | cons b m =>
        rw [List.map_cons, List.map_cons] at e
        injection e with e1 e2
        injection e1 with e1
        have : a = b := by omega
        rw [this, ih e2]
  exact g h
theorem tab_find {ks : List Nat} {z : Str} : ∀ {kvs : List (List Nat × Str)} {ts : List Tok} {i : Nat}, ts.length = kvs.length → kvs[i]? = some (ks, z) → (∀ (j : Nat) (q : List Nat × Str), j < i → kvs[j]? = some q → q.1 ≠ ks) →
    ∃ t : Tok, valueAt ((kvs.zip ts).map fun x => (numK x.1.1, Value.str x.1.2 x.2)) (numK ks) = some (Value.str z t)
  | [], _, i, _, h, _ => by simp at h
  | _ :: _, [], _, hl, _, _ => by simp at hl
  | (k0, z0) :: kvs, t0 :: ts, 0, _, h, _ => by
    have e := Option.some.inj h
    cases e
    exact ⟨t0, by simp [valueAt]⟩
  | (k0, z0) :: kvs, t0 :: ts, i + 1, hl, h, hn => by
    have ne : k0 ≠ ks := hn 0 (k0, z0) (Nat.succ_pos _) rfl
    have ne2 : ¬ numK k0 = numK ks := fun e => ne (numK_inj e)
    obtain ⟨t, e⟩ := tab_find (ks := ks) (z := z) (kvs := kvs) (ts := ts) (i := i) (by simpa using hl) (by simpa using h) fun j q hj hq => hn (j + 1) q (by omega) (by simpa using hq)
    refine ⟨t, ?_⟩
    unfold valueAt at e ⊢
    rw [List.zip_cons_cons, List.map_cons, List.find?_cons_of_neg (by simpa using ne2)]
    exact e
theorem pe_tabGet {X : Cx} {o e : Expr} {td te : TE} {apos cpos : Pos} (hu : X.A.units + 64 < cLine) (ho : PE X o td) (he : PE X e te) (m : M1 X o "get" apos e cpos) : PE X (.Call (.Attribute o "get" apos) [e] [] cpos) (tTabGet X.prog X.w X.K td te) := by
  refine ⟨fun pins s σ H Q I h => ?_⟩
  refine wpAny_Call_method m.base m.few m.line PySem.F.plainAttrs_dict PySem.F.slot_dict_get PySem.F.type_dict_get (thn (ho.run pins s σ H _ I h) fun u s1 ⟨x, H1, I1, rx, a, kvs, ex, ⟨hsm, ts, hT⟩, q1⟩ => ?_)
  subst ex
  obtain rfl : u = Value.ref a := rx
  obtain ⟨hD, _⟩ := hT _ I1.kIn
  have hD' := hD
  obtain ⟨xs, ⟨ob, es, ep, hob, hcl, hdat, _⟩, _⟩ := hD'
  refine ⟨hD.typeIs, fun b q => by cases q; exact ⟨ob, hob, hcl.2.1⟩, ?_⟩
  rw [m.trees]
  refine Calls.callWith_builtin rfl (Calls.evalArgs_plain (Calls.spliced_cons (thn (he.run pins s1 σ H1 _ I1 q1) fun iv s2 ⟨y, H2, I2, ry, p, ks, z, ey, hp, ⟨i, hi, hlt⟩, q2⟩ => Calls.spliced_nil ?_)))
  subst ey
  obtain rfl : iv = Value.ref p := ry
  obtain ⟨_, its, rv, ot, h1, h2, n, h3⟩ := (show ObjOk X.prog X.w H2 s2.heap p (.tup (ks.map fun k : Nat => V.int (k : Int))) from I2.hok p _ hp)
  obtain ⟨hD2, hlen⟩ := hT _ I2.kIn
  obtain ⟨t, ht⟩ := tab_find hlen hi hlt
  have hk : (nestedKind X.prog X.w).is s2.heap (numK ks) p := ⟨.tup h1 h2 h3 (by simpa using numAll_of (h := s2.heap) rv), numK_depth ks⟩
  refine get_keyed (knd := nestedKind X.prog X.w) (show X.A.in1.units + 8 < cLine by show X.A.units + 1 + 8 < cLine; omega) hk hsm hD2 ?_
  rw [ht]
  exact ⟨.str z, H2, I2.tok _, ⟨t, rfl⟩, q2⟩
/-! ### list(d.values()), list(d.keys()) -/
def tListVals (te : TE) : TE := fun σ H Q => te σ H fun x H1 => ∃ (d : Addr) (kvs : List (Key × V)), x = .ref d ∧ H1 d = some (.dK kvs) ∧ ∀ p, H1 p = none → Q (.ref p) (upd H1 p (.lst (kvs.map (·.2))))
def tListKeys (te : TE) : TE := fun σ H Q => te σ H fun x H1 => ∃ (d : Addr) (kvs : List (Key × V)), x = .ref d ∧ H1 d = some (.dK kvs) ∧ ∀ p, H1 p = none → Q (.ref p) (upd H1 p (.lst (kvs.map fun kv => kV kv.1)))
theorem vals_items {P : Nat → Value → Prop} : ∀ {xs : List V} {us : List Value} (k : Nat), us.length = xs.length → (∀ j v, us[j]? = some v → P (k + j) v) → (∀ j x v, xs[j]? = some x → P (k + j) v → RelV x v) → Vals xs us
  | [], [], _, _, _, _ => .nil
  | [], _ :: _, _, h, _, _ => by simp at h
  | _ :: _, [], _, h, _, _ => by simp at h
  | x :: xs, u :: us, k, h, h1, h2 => .cons (h2 0 x u rfl (h1 0 u rfl)) (vals_items (P := P) (k + 1) (by simpa using h) (fun j v e => by
      have := h1 (j + 1) v (by simpa using e)
      rw [show k + (j + 1) = k + 1 + j by omega] at this
      exact this) fun j y v e p => h2 (j + 1) y v (by simpa using e) (by rw [show k + (j + 1) = k + 1 + j by omega]; exact p))
section
variable {X : Cx} {e : Expr} {te : TE} {p apos cpos pos : Pos}
theorem pe_listVals (hc : X.calm = true) (he : PE X e te) (hg : Gl X "list") (hm : X.mg "list" = none) (hbase : attributeBase e "values" X.env (eval e X.env) = eval e X.env := by rfl) (hline : (apos.endLine == cpos.line) = true := by rfl)
    (hs : starEach [.Call (.Attribute e "values" apos) [] [] cpos] X.env = (false, eval (.Call (.Attribute e "values" apos) [] [] cpos) X.env) :: starEach [] X.env := by rfl) :
    PE X (.Call (.Name "list" p) [.Call (.Attribute e "values" apos) [] [] cpos] [] pos) (tListVals te) := by
  refine ⟨fun pins s σ H Q I hq => ?_⟩
  refine wpAny_Call_Name_kw (ld_blt I hg hm (by decide +kernel : bootBuiltins "list" = some (.type "list")) ?_)
  refine PyProof.Rows.callWith_type1 ?_ hs rfl
  rw [hs]
  show wpAny _ _ (spliced ((false, eval (.Call (.Attribute e "values" apos) [] [] cpos) X.env) :: backTo pos (starEach [] X.env))) _ _ s
  refine Calls.spliced_cons ?_
  refine wpAny_Call_method (T := "dict") (id := "dict.values") hbase rfl hline F.plainAttrs_dict F.slot_dict_values F.type_dict_values (thn (he.run pins s σ H _ I hq) fun u s1 ⟨x, H1, I1, rx, d, kvs, ex, hd, q⟩ => ?_)
  subst ex
  obtain rfl : u = Value.ref d := rx
  obtain ⟨hz, hs0, vs, kv, hdo⟩ := I1.hok d _ hd
  obtain ⟨ep, hat⟩ := hdo.dictAt
  have lk : kvs.length = vs.length := Paired.length kv
  refine ⟨hdo.typeIs, hdo.mapOf.noDict, ?_⟩
  show wpAny _ _ (callWith cpos (.builtin "dict.values") [.ref d] [] []) _ X.xe s1
  refine method_meetsIn F.slot_dict_values F.entry_dict_values rfl (PySem.evalArgs_none ⟨rfl, hdo.typeIs, F.args_dict_values_1 _, _, meets_dict_values (mixKind X.prog X.w) d hs0, ⟨vs, hdo⟩, ?_⟩)
  refine Calls.spliced_nil ?_
  refine PySem.W.kdl_call (PySem.W.kdl_values (knd := mixKind X.prog X.w) (kvs := vs) (ep := ep) (r := s1.heap.objs.size)) (I1.ok.hd hc) ⟨⟨_, Heap.get?_push_size _ rfl, rfl, rfl⟩, hat.push _⟩ (by omega) fun h' tk acc c hk hS hI => ?_
  have keep : ∀ b o, s1.heap.get? b = some o → h'.get? b = some o := fun b o z => hk b o (Heap.get?_push_of_some _ z)
  have hl : acc.toList.length = (kvs.map (·.2)).length := by rw [Array.length_toList, List.length_map, hI.1]; omega
  have rv : Vals (kvs.map (·.2)) acc.toList := vals_items (P := fun i v => ∃ k, vs[i]? = some (k, v)) 0 hl (fun j v z => by rw [Nat.zero_add]; exact hI.2 j v (by rw [← Array.getElem?_toList]; exact z)) fun j y v z ⟨k, w'⟩ => by
    rw [Nat.zero_add] at w'
    obtain ⟨q0, g1, g2⟩ : ∃ q0, kvs[j]? = some q0 ∧ y = q0.2 := by
      rw [List.getElem?_map] at z
      cases h : kvs[j]? with
      | none => rw [h] at z; cases z
      | some q0 => rw [h] at z; exact ⟨q0, rfl, (Option.some.inj z).symm⟩
    obtain ⟨pk, e2, e3⟩ := LiI.paired_get kv g1
    rw [w'] at e2
    cases e2
    rw [g2]
    exact e3.2
  refine ⟨.ref _, upd H1 _ (.lst (kvs.map (·.2))), I1.laid (t' := tk) keep (Nat.le_succ _ |> fun z => by rw [Heap.size_push]; exact z) ⟨by rw [List.length_map]; omega, acc.toList, c, rv, by simpa using hS⟩, rfl, q _ (I1.hok.fresh (by rw [Heap.size_push]; exact Nat.le_succ _))⟩
theorem pe_listKeys (hc : X.calm = true) (he : PE X e te) (hg : Gl X "list") (hm : X.mg "list" = none) (hbase : attributeBase e "keys" X.env (eval e X.env) = eval e X.env := by rfl) (hline : (apos.endLine == cpos.line) = true := by rfl)
    (hs : starEach [.Call (.Attribute e "keys" apos) [] [] cpos] X.env = (false, eval (.Call (.Attribute e "keys" apos) [] [] cpos) X.env) :: starEach [] X.env := by rfl) :
    PE X (.Call (.Name "list" p) [.Call (.Attribute e "keys" apos) [] [] cpos] [] pos) (tListKeys te) := by
  refine ⟨fun pins s σ H Q I hq => ?_⟩
  refine wpAny_Call_Name_kw (ld_blt I hg hm (by decide +kernel : bootBuiltins "list" = some (.type "list")) ?_)
  refine PyProof.Rows.callWith_type1 ?_ hs rfl
  rw [hs]
  show wpAny _ _ (spliced ((false, eval (.Call (.Attribute e "keys" apos) [] [] cpos) X.env) :: backTo pos (starEach [] X.env))) _ _ s
  refine Calls.spliced_cons ?_
  refine wpAny_Call_method (T := "dict") (id := "dict.keys") hbase rfl hline F.plainAttrs_dict F.slot_dict_keys F.type_dict_keys (thn (he.run pins s σ H _ I hq) fun u s1 ⟨x, H1, I1, rx, d, kvs, ex, hd, q⟩ => ?_)
  subst ex
  obtain rfl : u = Value.ref d := rx
  obtain ⟨hz, hs0, vs, kv, hdo⟩ := I1.hok d _ hd
  obtain ⟨ep, hat⟩ := hdo.dictAt
  have lk : kvs.length = vs.length := Paired.length kv
  refine ⟨hdo.typeIs, hdo.mapOf.noDict, ?_⟩
  show wpAny _ _ (callWith cpos (.builtin "dict.keys") [.ref d] [] []) _ X.xe s1
  refine method_meetsIn F.slot_dict_keys F.entry_dict_keys rfl (PySem.evalArgs_none ⟨rfl, hdo.typeIs, F.args_dict_keys_1 _, _, PySem.W.kdl_meets_keys (mixKind X.prog X.w) d hs0, ⟨vs, hdo⟩, ?_⟩)
  refine Calls.spliced_nil ?_
  refine PySem.W.kdl_call (PySem.W.kdl_keys (knd := mixKind X.prog X.w) (kvs := vs) (ep := ep) (r := s1.heap.objs.size)) (I1.ok.hd hc) ⟨⟨_, Heap.get?_push_size _ rfl, rfl, rfl⟩, hat.push _⟩ (by omega) fun h' tk acc c hk hS hI => ?_
  have keep : ∀ b o, s1.heap.get? b = some o → h'.get? b = some o := fun b o z => hk b o (Heap.get?_push_of_some _ z)
  have hl : acc.toList.length = (kvs.map fun kv => kV kv.1).length := by rw [Array.length_toList, List.length_map, hI.1]; omega
  have rv : Vals (kvs.map fun kv => kV kv.1) acc.toList := vals_items (P := fun i v => ∃ k x, vs[i]? = some (k, x) ∧ (mixKind X.prog X.w).is k v = true) 0 hl (fun j v z => by rw [Nat.zero_add]; exact hI.2 j v (by rw [← Array.getElem?_toList]; exact z)) fun j y v z ⟨k, x, w', w2⟩ => by
    rw [Nat.zero_add] at w'
    obtain ⟨q0, g1, g2⟩ : ∃ q0, kvs[j]? = some q0 ∧ y = kV q0.1 := by
      rw [List.getElem?_map] at z
      cases h : kvs[j]? with
      | none => rw [h] at z; cases z
      | some q0 => rw [h] at z; exact ⟨q0, rfl, (Option.some.inj z).symm⟩
    obtain ⟨pk, e2, e3⟩ := LiI.paired_get kv g1
    rw [w'] at e2
    cases e2
    rw [g2]
    rw [e3.1]
    exact relV_key (show keyIs k v = true from w2)
  refine ⟨.ref _, upd H1 _ (.lst (kvs.map fun kv => kV kv.1)), I1.laid (t' := tk) keep (Nat.le_succ _ |> fun z => by rw [Heap.size_push]; exact z) ⟨by rw [List.length_map]; omega, acc.toList, c, rv, by simpa using hS⟩, rfl, q _ (I1.hok.fresh (by rw [Heap.size_push]; exact Nat.le_succ _))⟩
end
end L2

namespace SrtO
open PySem PyProof.Rows PySem.W
/-- a tuple of two ints and an object -/
def IsRow (h : Heap) (v : Value) (x : Int) : Prop := ∃ a o t y u c n, v = .ref a ∧ h.get? a = some o ∧ o.cls = .type "tuple" ∧ o.data = .seq #[.int x t, .int y u, .ref c] n
theorem IsRow.keeps {h h' : Heap} {v : Value} {x : Int} (p : IsRow h v x) (k : ∀ b o, h.get? b = some o → o.cls = .type "tuple" → h'.get? b = some o) : IsRow h' v x := by
  obtain ⟨a, o, t, y, u, c, n, e, ho, hc, hd⟩ := p
  exact ⟨a, o, t, y, u, c, n, e, k _ _ ho hc, hc, hd⟩
theorem row_firsts {h : Heap} : ∀ {vs : List Value}, (∀ v ∈ vs, ∃ x, IsRow h v x) → ∃ fs : List Value, PySem.W.KatTups h vs fs ∧ fs.length = vs.length ∧ ∀ f ∈ fs, ∃ x t, f = Value.int x t
  | [], _ => ⟨[], PySem.W.KatTups.nil, rfl, fun _ hm => by simp at hm⟩
  | v :: vs, hv => by
    obtain ⟨fs, h1, h2, h3⟩ := row_firsts (h := h) (vs := vs) fun w hw => hv w (List.mem_cons_of_mem _ hw)
    obtain ⟨x, a, o, t, y, u, c, n, e, ho, hc, hd⟩ := hv v List.mem_cons_self
    subst e
    refine ⟨.int x t :: fs, .cons ho hc hd rfl h1, by simp [h2], fun f hf => ?_⟩
    rcases List.mem_cons.mp hf with e | hf
    · exact ⟨x, t, e⟩
    · exact h3 f hf
theorem swo_key (k : Value → Int) : Swo fun v u => decide (k v < k u) := by
  refine ⟨fun x y h => ?_, fun x y z h1 h2 => ?_⟩
  · have a := of_decide_eq_true h
    exact decide_eq_false (by omega)
  · have a := of_decide_eq_false h1
    have b := of_decide_eq_false h2
    exact decide_eq_false (by omega)
section
variable {prog : Program} {w : World} {A : Around} {E : Value → Shared → Prop} {s : Shared}
theorem row_cmp {vs : List Value} {k : Value → Int} (hp : ∀ v ∈ vs, IsRow s.heap v (k v)) (hi : ∀ v ∈ vs, ∀ u ∈ vs, k v = k u → v = u) : Cmp prog w A s (tuples' true) (fun p => p.1 ∈ vs) (lt2 fun v u => decide (k v < k u)) := by
  intro p q hm hm'
  have h1 := hp _ hm
  have h2 := hp _ hm'
  have h3 := hi _ hm _ hm'
  show wpAny (model prog w) A (keyLt' (tuples' true) p.1 q.1) (fun r s' => s' = s ∧ r = decide (k p.1 < k q.1)) (fun _ _ => False) s
  generalize k p.1 = x at h1 h3 ⊢
  generalize k q.1 = x' at h2 h3 ⊢
  obtain ⟨a, o, t, y, u, c, n, e, ho, hc, hd⟩ := h1
  obtain ⟨a', o', t', y', u', c', n', e', ho', hc', hd'⟩ := h2
  rw [e, e'] at h3 ⊢
  refine PySem.W.kat_lt ho hd ho' hd' ?_
  show PySem.W.KatLex prog w A true (decide (3 < 3)) _ [(.int x t, .int x' t'), (.int y u, .int y' u'), (.ref c, .ref c')] 0 s
  refine PySem.W.kat_cons (SeqAt.EqAt.int_int x t x' t' prog w _ _ ?_)
  refine PySem.W.kat_go (fun e1 => ?_) (fun e1 => ?_)
  · have ex : x = x' := by simpa using e1
    have ea : a = a' := Value.ref.inj (h3 ex)
    subst ea
    rw [ho] at ho'
    have eo := Option.some.inj ho'
    subst eo
    rw [hd] at hd'
    injection hd' with ed _
    have ey : y = y' := by
      have z := congrArg (fun a : Array Value => a[1]?) ed
      simp at z
      exact z.1
    have ec : c = c' := by
      have z := congrArg (fun a : Array Value => a[2]?) ed
      simpa using z
    subst ec
    refine PySem.W.kat_yes (PySem.W.kat_cons (SeqAt.EqAt.int_int y u y' u' prog w _ _ ?_))
    refine PySem.W.kat_go (fun e2 => ?_) (fun e2 => ?_)
    · refine PySem.W.kat_yes (PySem.W.kat_cons (SeqAt.EqAt.same (.ref c) prog w _ _ ?_))
      refine PySem.W.kat_go (fun _ => ?_) (fun z => nomatch z)
      refine PySem.W.kat_yes (PySem.W.kat_nil ⟨rfl, ?_⟩)
      rw [ex]
      exact (decide_eq_false (by omega)).symm
    · exact absurd ey (by simpa using e2)
  · have ex : ¬ x = x' := by simpa using e1
    exact PySem.W.kat_no (oneLt_int ⟨rfl, rfl⟩)
theorem rows_sortableO {a : Addr} {vs : List Value} {k : Value → Int} (h0 : 0 < vs.length) (hp : ∀ v ∈ vs, IsRow s.heap v (k v)) (hi : ∀ v ∈ vs, ∀ u ∈ vs, k v = k u → v = u) (ha : ∀ o, s.heap.get? a = some o → o.cls ≠ .type "tuple") : SortableO prog w A s a vs fun v u => decide (k v < k u) := by
  intro h' keep
  have hp' : ∀ v ∈ vs, IsRow h' v (k v) := fun v hm => (hp v hm).keeps fun b o e c => keep b o (fun z => by subst z; exact ha o e c) e
  obtain ⟨fs, h1, h2, h3⟩ := row_firsts fun v hm => ⟨_, hp' v hm⟩
  refine ⟨tuples' true, fun Q E hq => ?_, row_cmp hp' hi⟩
  refine PySem.W.kat_kind (T := .type "int") h1 (by omega) (fun f hm => ?_) (by rfl) ?_
  · obtain ⟨x, t, rfl⟩ := h3 f hm
    exact PySem.W.Looks.now
  · have e : (Value.type "int" != Value.type "tuple") = true := by first | decide +kernel | rfl | decide
    rw [e]
    exact hq
theorem sorted_rowsO {l : Addr} {vs : List Value} {k : Value → Int} {Q : Value → Shared → Prop} (hl : s.heap.IsList l vs.toArray) (hz : vs.length ≤ sizeLine) (hp : ∀ v ∈ vs, IsRow s.heap v (k v)) (hi : ∀ v ∈ vs, ∀ u ∈ vs, k v = k u → v = u)
    (h : ∀ (h' : Heap) (d : Addr) (out : List Value), Srtd (fun v u => decide (k v < k u)) out → Stb (fun v u => decide (k v < k u)) out vs → (∀ b o, s.heap.get? b = some o → h'.get? b = some o) → s.heap.objs.size ≤ d → (∃ n, h'.get? d = some (seqObj "list" out.toArray n)) → Q (.ref d) { s with heap := h' }) :
    wpAny (model prog w) A (call (.builtin "sorted") [.ref l]) Q E s := by
  refine sorted_ord (swo_key k) hl hz (fun h2 h₁ a ha kk => ?_) fun out hs hb => ?_
  · refine rows_sortableO (s := { s with heap := h₁ }) (by omega) (fun v hm => (hp v hm).keeps fun b o e _ => (kk b o e).2) hi fun o e => ?_
    have e' : some o = some (seqObj "list" vs.toArray 0) := e.symm.trans ha
    cases e'
    intro c
    exact absurd (Value.type.inj c) (by decide)
  · exact h _ _ out hs hb (fun b o e => sortedAll_old e) (Nat.le_succ _) (sortedAll_at s.heap vs out.toArray)
end
end SrtO
namespace L2
open PySem PySem.Spec PyProof.Rows
def rSortedR (K : PySem.W.Frag) : List V → Hp → VK → Prop := fun vs H Q => ∃ (a : Addr) (rs : List Addr) (k : Addr → Int), vs = [V.ref a] ∧ SqL K H a (rs.map V.ref) ∧ (∀ r ∈ rs, ∃ (y : Int) (c : Addr), H r = some (.tup [.int (k r), .int y, .ref c])) ∧
  (∀ r ∈ rs, ∀ r' ∈ rs, k r = k r' → r = r') ∧ ∀ (rs' : List Addr) (p : Addr), rs'.Perm rs → rs'.Pairwise (fun a b => k a ≤ k b) → H p = none → Q (.ref p) (upd H p (.lst (rs'.map V.ref)))
theorem vals_refs_eq : ∀ {rs : List Addr} {us : List Value}, Vals (rs.map V.ref) us → us = rs.map Value.ref
  | [], _, r => by cases r; rfl
  | a :: rs, _, r => by
    cases r with
    | cons r1 r2 =>
      rw [vals_refs_eq r2]
      cases r1
      rfl
def addrV : Value → Addr
  | .ref a => a
  | _ => 0
theorem cr_sortedR {X : Cx} : CallR X (.builtin "sorted") (rSortedR X.K) := by
  intro pins s σ H vs us Q I r h
  obtain ⟨a, rs, k, rfl, hs, hx, hi, q⟩ := h
  obtain ⟨its, rv, hl, hz⟩ := I.list hs
  obtain ⟨u, rfl, ru⟩ := vals1 r
  obtain rfl : u = Value.ref a := ru
  have ei := vals_refs_eq rv
  subst ei
  refine SrtO.sorted_rowsO (k := fun u => k (addrV u)) hl.isList (by rw [List.length_map] at *; exact hz) (fun v hv => ?_) (fun v hv u hu e => ?_) fun h' d out h1 h2 kp hd hn => ?_
  · obtain ⟨t, ht, rfl⟩ := List.mem_map.mp hv
    obtain ⟨y, c, e⟩ := hx t ht
    obtain ⟨_, its2, r2, o, ho, hc, n, hdt⟩ := (show ObjOk X.prog X.w H s.heap t (.tup [.int (k t), .int y, .ref c]) from I.hok _ _ e)
    cases r2 with
    | cons a1 r2 =>
      cases r2 with
      | cons a2 r2 =>
        cases r2 with
        | cons a3 r2 =>
          cases r2
          obtain ⟨t1, rfl⟩ := a1
          obtain ⟨t2, rfl⟩ := a2
          cases a3
          exact ⟨t, o, t1, y, t2, c, n, rfl, ho, hc, hdt⟩
  · obtain ⟨t, ht, rfl⟩ := List.mem_map.mp hv
    obtain ⟨t', ht', rfl⟩ := List.mem_map.mp hu
    rw [hi t ht t' ht' e]
  · obtain ⟨n, hn⟩ := hn
    have hp := h2.perm
    have eo : out = (out.map addrV).map Value.ref := by
      rw [List.map_map]
      have : ∀ u ∈ out, Value.ref (addrV u) = u := fun u hu => by
        obtain ⟨t, _, rfl⟩ := List.mem_map.mp (hp.mem_iff.mp hu)
        rfl
      conv => lhs; rw [← List.map_id out]
      exact List.map_congr_left fun u hu => (this u hu).symm
    have hp2 : (out.map addrV).Perm rs := by
      have z := hp.map addrV
      rw [List.map_map] at z
      have id : (rs.map (addrV ∘ Value.ref)) = rs := by
        conv => rhs; rw [← List.map_id rs]
        rfl
      rw [id] at z
      exact z
    have hs2 : (out.map addrV).Pairwise (fun a b => k a ≤ k b) := by
      rw [List.pairwise_map]
      refine List.Pairwise.imp (fun {a b} h => ?_) h1
      have := of_decide_eq_false h
      omega
    refine ⟨.ref d, upd H d (.lst ((out.map addrV).map V.ref)), I.laid (t' := s.toks) kp hd ⟨?_, out, n, ?_, hn⟩, rfl, q _ d hp2 hs2 (I.hok.fresh hd)⟩
    · rw [List.length_map, hp2.length_eq]
      rw [List.length_map] at hz
      exact hz
    · rw [eo]
      have g : ∀ l : List Addr, Vals (l.map V.ref) (l.map Value.ref) := fun l => by
        induction l with
        | nil => exact .nil
        | cons a l ih => exact .cons rfl ih
      rw [← eo]
      conv => arg 2; rw [eo]
      exact g _
/-- list.index within a comprehension -/
theorem pe_indexK {X : Cx} {K : PySem.W.Frag} (h : X.K = K) {o e : Expr} {to te : TE} {apos cpos : Pos} (p : PE X (.Call (.Attribute o "index" apos) [e] [] cpos) (tBM X.K "list" (rIndex X.K) to (tCons te tNil))) : PE X (.Call (.Attribute o "index" apos) [e] [] cpos) (tBM K "list" (rIndex K) to (tCons te tNil)) := by
  subst h
  exact p
theorem op_notInK {X : Cx} {K : PySem.W.Frag} (h : X.K = K) : OpR X (compareOp .NotIn) (rIn K true) := by
  subst h
  exact op_notIn_seq
end L2

namespace L2
open PySem PySem.Spec PyProof.Rows
section
variable {X : Cx}
/-- a name of the def's own, on the line of the comprehension: stored within its frame -/
theorem swd_true {kx vx : Expr} {gs : List Comprehension} {scope : Scope} {pos py : Pos} {y : Str} {l : Nat} {env : Env} (e1 : env.scope.kind = .function) (e2 : env.scope.names.lookup y = some .local) (e3 : (py.line == pos.line) = true)
    (e4 : (scope.names.any fun (n, k) => n == y && (k == .local || k == .cell)) = false) : swapsWith (.DictComp kx vx gs scope pos) (some (.Name y py)) l env = pure true := by
  have a1 : env.kindOf y = some .local := e2
  have a2 : env.blockKind = .function := (by unfold Env.blockKind; rw [e1]; rfl)
  unfold swapsWith
  simp only [a2, a1, e4, Expr.pos, e3]
  rfl
/-- y = {k: v for x in xs} -/
theorem ps_setDc {i : Nat} {y : Str} {py pos spos : Pos} {kx vx tg iter : Expr} {ifs : List Expr} {scope : Scope} {own : List (Str × Nat)} {wi : TI} {g : TG} {tt : TT} {tk tv : TE} (calm : X.calm = true) (nd : X.N.Nodup) (at_y : X.N[i]? = some y) (loc : X.env.scope.names.lookup y = some .local)
    (sw : swapsWith (.DictComp kx vx [⟨tg, iter, ifs, 0⟩] scope pos) (some (.Name y py)) spos.line X.env = pure true) (walk : PI X tg iter wi) (ok : BlkOk X.N X.env.scope scope own)
    (rg : ∀ (s : Shared) (H : Hp) (C : Addr) (cl : List (Str × Addr)) (fp : List Addr), PG (X.blk s H scope (compEnvC scope cl C X.env) fp) tg g)
    (rt : ∀ (s : Shared) (H : Hp) (C : Addr) (cl : List (Str × Addr)) (fp : List Addr), PTs (X.blk s H scope (compEnvC scope cl C X.env) fp) ifs tt)
    (rk : ∀ (s : Shared) (H : Hp) (C : Addr) (cl : List (Str × Addr)) (fp : List Addr), PE (X.blk s H scope (compEnvC scope cl C X.env) fp) kx tk)
    (rv : ∀ (s : Shared) (H : Hp) (C : Addr) (cl : List (Str × Addr)) (fp : List Addr), PE (X.blk s H scope (compEnvC scope cl C X.env) fp) vx tv)
    (fold : ∀ x, foldedSetIterable iter X.env x = pure x := by intro _; rfl) :
    PS X (.Assign [.Name y py] (.DictComp kx vx [⟨tg, iter, ifs, 0⟩] scope pos) spos) (tAsg (tDc wi g tt tk tv (own.map (·.2))) (gName i)) := by
  constructor
  intro pins s σ H D I q
  have q : tDc wi g tt tk tv (own.map (·.2)) σ H (fun x H1 => gName i x σ H1 D.nx) := q
  rw [exec_Assign_Name_used _ _ _ _ sw]
  apply wpAny_bind
  apply wpAny_standAt
  apply wpAny_bind
  show wpAny _ X.A (do let _ ← comprehension (.DictComp kx vx [⟨tg, iter, ifs, 0⟩] scope pos) scope X.env (firstIterPos [⟨tg, iter, ifs, 0⟩] pos) newDict false (eval iter X.env) (some (assign (.Name y py) X.env))) _ _ s
  apply wpAny_bind
  refine thn (dc_core (Qf := fun _ s' => SP X pins D .next s') calm nd I walk ok rg rt rk rv fold q ?_) fun _ _ z => wpAny_pure (wpAny_pure z)
  intro d c t n H2 J nx ns fr
  show wpAny _ _ (assign (.Name y py) X.env (.ref d)) _ _ _
  refine wpAny_assign_Name (store_ok2 (v := V.ref d) J nd at_y (.inl loc) rfl ?_ (.inr loc))
  rintro u JU ⟨b, same, which⟩
  obtain ⟨r0, r1, r2, r3, r4, r5⟩ := fr
  have far : c ≠ b := by
    cases which with
    | inl z => exact z ▸ r1
    | inr z => exact fun e => r4 y b z e.symm
  exact ⟨n, ns.sameBut same far, fun _ rest => ⟨_, H2, JU.turned (t' := u.toks) (fun a o ha e => (rest.2 a ha).trans e) r0 r1 r3 r4 r5, nx⟩⟩
end
end L2

namespace SrtO
open PySem PyProof.Rows Srt
section
variable {prog : Program} {w : World} {A : Around} {E : Value → Shared → Prop} {s : Shared}
/-- the heap with the items of a tuple in a new list -/
def gath (h : Heap) (its : List Value) : Heap := (h.push (seqObj "list" #[] 0)).update h.objs.size (Obj.mapSeq (· ++ its.toArray))
theorem gath_at (h : Heap) (its : List Value) : ∃ k, (gath h its).get? h.objs.size = some (seqObj "list" its.toArray k) := by
  have e := get?_update_seq (c := "list") (xs := #[]) (n := 0) (Heap.get?_push_size h rfl) (· ++ its.toArray)
  rw [Array.empty_append] at e
  exact ⟨_, e⟩
theorem gath_old {h : Heap} {its : List Value} {b : Addr} {o : Obj} (e : h.get? b = some o) : (gath h its).get? b = some o := by
  unfold gath
  rw [Heap.get?_update_ne _ _ _ _ (Nat.ne_of_lt (Heap.lt_size e))]
  exact Heap.get?_push_of_some _ e
theorem gath_size (h : Heap) (its : List Value) : (gath h its).objs.size = h.objs.size + 1 := by
  unfold gath
  rw [Heap.size_update, size_push']
theorem gather_tup {t : Addr} {o : Obj} {its : List Value} {k : Nat} {Q : List Value → Shared → Prop} (there : s.heap.get? t = some o) (cls : o.cls = .type "tuple") (dat : o.data = .seq its.toArray k) (few : its.length ≤ sizeLine)
    (next : Q its { s with heap := gath s.heap its }) : wpAny (model prog w) A (collect (.ref t)) Q E s := by
  have there' : (s.heap.push (seqObj "list" #[] 0)).get? t = some o := Heap.get?_push_of_some _ there
  have new0 : (s.heap.push (seqObj "list" #[] 0)).get? s.heap.objs.size = some (seqObj "list" #[] 0) := Heap.get?_push_size _ rfl
  unfold collect
  apply wpAny_bind
  refine wpAny_runValue (codeAny_builtin entry_proto_collect' ?_)
  show wpAny _ _ (newList [] >>= fun l => again (.builtin "list.__iadd__" ⟨[l, .ref t], []⟩)) _ _ s
  apply wpAny_bind
  refine wpAny_newList (wpAny_pure ⟨Code.quiet_builtin _ (by decide +kernel), codeAny_builtin entry_list_iadd' ?_⟩)
  show wpAny _ _ (Builtin.List.listExtendWith (.ref s.heap.objs.size) (.ref t) (.ref s.heap.objs.size)) _ _ { s with heap := s.heap.push (seqObj "list" #[] 0) }
  unfold Builtin.List.listExtendWith
  apply wpAny_bind
  refine wpAny_typeOf (T := "tuple") ⟨o, there', cls⟩ ?_
  have isT : (Value.type "tuple" == Value.type "tuple") = true := by rfl
  rw [if_pos (by rw [isT]; simp)]
  refine wpAny_bind (listItems_at there' dat ?_)
  refine wpAny_bind (listItems_at new0 rfl ?_)
  rw [if_neg (by simp)]
  refine wpAny_bind (listUpdate_at new0 rfl ?_ (Nat.zero_le _) (by show (#[] ++ its.toArray).size ≤ sizeLine + 1; simp only [Array.size_append, List.size_toArray, List.length_nil]; omega))
  refine wpAny_pure ?_
  obtain ⟨k2, e⟩ := gath_at s.heap its
  show wpAny (model prog w) A (do
      let o ← load s.heap.objs.size
      match o.data with
      | .seq xs _ => pure xs.toList
      | _ => unsupported "internal:collect") Q E { s with heap := gath s.heap its }
  exact wpAny_bind (wpAny_load e (wpAny_pure next))
/-- sorted(t), t a tuple of ints -/
theorem sorted_tupI {t : Addr} {o : Obj} {its : List Value} {ns : List Int} {k : Nat} {Q : Value → Shared → Prop} (I : IntsAre its ns) (there : s.heap.get? t = some o) (cls : o.cls = .type "tuple") (dat : o.data = .seq its.toArray k) (few : its.length ≤ sizeLine)
    (next : ∀ (out : List Value) (h' : Heap) (e : Nat), Srtd ltIv out → Stb ltIv out its → (∀ b u, s.heap.get? b = some u → h'.get? b = some u) → h'.get? (s.heap.objs.size + 1) = some (seqObj "list" out.toArray e) → Q (.ref (s.heap.objs.size + 1)) { s with heap := h' }) :
    wpAny (model prog w) A (call (.builtin "sorted") [.ref t]) Q E s := by
  refine Calls.call_function_entry kind_sorted plain_sorted entry_sorted (args_sorted1 _) ?_
  unfold Builtin.«sorted»
  refine wpAny_bind (m := checkCount "sorted" 1 1 _) (wpAny_pure ?_)
  refine wpAny_bind (gather_tup there cls dat few ?_)
  refine wpAny_bind (wpAny_newList ?_ few)
  show wpAny _ _ _ _ _ { s with heap := (gath s.heap its).push (seqObj "list" its.toArray 0) }
  have at_l : ((gath s.heap its).push (seqObj "list" its.toArray 0)).get? (gath s.heap its).objs.size = some (seqObj "list" its.toArray 0) := Heap.get?_push_size _ rfl
  refine wpAny_bind (wpAny_holding (wpAny_call_entry slot_list_sort ⟨_, at_l, rfl⟩ entry_list_sort (list_sort_ord swo_int at_l few (fun two => ints_sortable I two) fun out h1 h2 => ⟨_, rfl, ?_⟩) (args_list_sort _)))
  obtain ⟨e, he⟩ := sortedHeap_at (vs := its) (out := out.toArray) at_l
  rw [gath_size] at he ⊢
  refine wpAny_pure ⟨_, rfl, next out _ e h1 h2 (fun b u z => ?_) he⟩
  have lt : b < s.heap.objs.size := Heap.lt_size z
  rw [sortedHeap_old (Nat.ne_of_lt (Nat.lt_succ_of_lt lt)) (by rw [size_push', gath_size]; exact Nat.lt_succ_of_lt (Nat.lt_succ_of_lt lt))]
  exact Heap.get?_push_of_some _ (gath_old z)
end
end SrtO
namespace L2
open PySem PySem.Spec PyProof.Rows
def rSortedTI (K : PySem.W.Frag) : List V → Hp → VK → Prop := fun vs H Q => ∃ (a : Addr) (ns : List Int), vs = [V.ref a] ∧ SqT K H a (ns.map V.int) ∧ ∀ (ns' : List Int) (p : Addr), ns'.Perm ns → ns'.Pairwise (· ≤ ·) → H p = none → Q (.ref p) (upd H p (.lst (ns'.map V.int)))
theorem cr_sortedTI {X : Cx} : CallR X (.builtin "sorted") (rSortedTI X.K) := by
  intro pins s σ H vs us Q I r h
  obtain ⟨a, ns, rfl, hs, q⟩ := h
  obtain ⟨its, rv, ⟨o, ho, hc, k, hd⟩, hz⟩ := I.tuple hs
  rw [Vals.ref1 r]
  have hz' : ns.length ≤ sizeLine := by
    rw [List.length_map] at hz
    exact hz
  refine SrtO.sorted_tupI rv.ints ho hc hd (by rw [← rv.length]; exact hz) fun out h' e h1 h2 old new => ?_
  obtain ⟨k1, k2, k3⟩ := SrtO.ints_out rv.ints h1 h2
  exact ⟨.ref _, upd H (s.heap.objs.size + 1) (.lst ((out.map SrtO.iv).map V.int)), I.laid (t' := s.toks) old (Nat.le_succ _) ⟨by rw [List.length_map, k2.length_eq]; exact hz', out, e, vals_of_ints k1, new⟩, rfl, q _ _ k2 k3 (I.hok.fresh (Nat.le_succ _))⟩
end L2

namespace L2
open PySem PySem.Spec PyProof.Rows
section
variable {X : Cx} {st : Stmt} {rest : List Stmt} {t : TS}
/-- a statement behind which nothing is ever run -/
def tStop (t : TS) : TS := fun D σ H => t { D with nx := fun _ _ => False } σ H
theorem pss_stop (h1 : PS X st t) : PSs X (st :: rest) (tStop t) := by
  refine ⟨fun pins s σ H D I h => ?_⟩
  refine wpAny_execs_cons (thn (h1.run pins s σ H { D with nx := fun _ _ => False } I h) fun f s1 q => ?_)
  cases f with
  | next =>
    obtain ⟨σ', H', I', q⟩ := q
    exact False.elim q
  | ret v => exact q
  | brk => exact q
  | cont => exact q
end
end L2

namespace L2
open PySem PySem.Spec PyProof.Rows
/-- d.get(t) of a written table, whether the key is there or not -/
def tTabLook (P : Program) (w : World) (K : PySem.W.Frag) (td te : TE) : TE := fun σ H Q => td σ H fun x H1 => ∃ (a : Addr) (kvs : List (List Nat × Str)), x = .ref a ∧ TabK P w K a kvs ∧ te σ H1 fun y H2 => ∃ (p : Addr) (ks : List Nat), y = .ref p ∧ H2 p = some (.tup (ks.map fun k : Nat => V.int (k : Int))) ∧
  (∀ q, (kvs.find? fun q => decide (q.1 = ks)) = some q → Q (.str q.2) H2) ∧ ((kvs.find? fun q => decide (q.1 = ks)) = none → Q .non H2)
theorem tab_look {ks : List Nat} : ∀ {kvs : List (List Nat × Str)} {ts : List Tok}, ts.length = kvs.length →
    (∀ q, (kvs.find? fun q => decide (q.1 = ks)) = some q → ∃ t : Tok, valueAt ((kvs.zip ts).map fun x => (numK x.1.1, Value.str x.1.2 x.2)) (numK ks) = some (Value.str q.2 t)) ∧
    ((kvs.find? fun q => decide (q.1 = ks)) = none → valueAt ((kvs.zip ts).map fun x => (numK x.1.1, Value.str x.1.2 x.2)) (numK ks) = none)
  | [], ts, _ => ⟨fun q h => by simp at h, fun _ => by simp [valueAt]⟩
  | _ :: _, [], hl => by simp at hl
  | (k0, z0) :: kvs, t0 :: ts, hl => by
    have ih := tab_look (ks := ks) (kvs := kvs) (ts := ts) (by simpa using hl)
    by_cases c : k0 = ks
    · subst c
      refine ⟨fun q h => ?_, fun h => ?_⟩
      · rw [List.find?_cons_of_pos (by simp)] at h
        cases Option.some.inj h
        exact ⟨t0, by simp [valueAt]⟩
      · rw [List.find?_cons_of_pos (by simp)] at h
        cases h
    · have ne2 : ¬ numK k0 = numK ks := fun e => c (numK_inj e)
      rw [List.find?_cons_of_neg (by simpa using c)]
      unfold valueAt at ih ⊢
      rw [List.zip_cons_cons, List.map_cons, List.find?_cons_of_neg (by simpa using ne2)]
      exact ih
theorem pe_tabLook {X : Cx} {o e : Expr} {td te : TE} {apos cpos : Pos} (hu : X.A.units + 64 < cLine) (ho : PE X o td) (he : PE X e te) (m : M1 X o "get" apos e cpos) : PE X (.Call (.Attribute o "get" apos) [e] [] cpos) (tTabLook X.prog X.w X.K td te) := by
  refine ⟨fun pins s σ H Q I h => ?_⟩
  refine wpAny_Call_method m.base m.few m.line PySem.F.plainAttrs_dict PySem.F.slot_dict_get PySem.F.type_dict_get (thn (ho.run pins s σ H _ I h) fun u s1 ⟨x, H1, I1, rx, a, kvs, ex, ⟨hsm, ts, hT⟩, q1⟩ => ?_)
  subst ex
  obtain rfl : u = Value.ref a := rx
  obtain ⟨hD, _⟩ := hT _ I1.kIn
  have hD' := hD
  obtain ⟨xs, ⟨ob, es, ep, hob, hcl, hdat, _⟩, _⟩ := hD'
  refine ⟨hD.typeIs, fun b q => by cases q; exact ⟨ob, hob, hcl.2.1⟩, ?_⟩
  rw [m.trees]
  refine Calls.callWith_builtin rfl (Calls.evalArgs_plain (Calls.spliced_cons (thn (he.run pins s1 σ H1 _ I1 q1) fun iv s2 ⟨y, H2, I2, ry, p, ks, ey, hp, q2, q3⟩ => Calls.spliced_nil ?_)))
  subst ey
  obtain rfl : iv = Value.ref p := ry
  obtain ⟨_, its, rv, ot, h1, h2, n, h3⟩ := (show ObjOk X.prog X.w H2 s2.heap p (.tup (ks.map fun k : Nat => V.int (k : Int))) from I2.hok p _ hp)
  obtain ⟨hD2, hlen⟩ := hT _ I2.kIn
  obtain ⟨f1, f2⟩ := tab_look (ks := ks) hlen
  have hk : (nestedKind X.prog X.w).is s2.heap (numK ks) p := ⟨.tup h1 h2 h3 (by simpa using numAll_of (h := s2.heap) rv), numK_depth ks⟩
  refine get_keyed (knd := nestedKind X.prog X.w) (show X.A.in1.units + 8 < cLine by show X.A.units + 1 + 8 < cLine; omega) hk hsm hD2 ?_
  cases hf : kvs.find? fun q => decide (q.1 = ks) with
  | some q =>
    obtain ⟨t, ht⟩ := f1 q hf
    rw [ht]
    exact ⟨.str q.2, H2, I2.tok _, ⟨t, rfl⟩, q2 q hf⟩
  | none =>
    rw [f2 hf]
    exact ⟨.non, H2, I2.tok _, rfl, q3 hf⟩
end L2

/-! exceptions whose context is known to be None: raised by defs, caught where the suite calls defs -/
namespace L2N
open PySem PySem.Spec PyProof.Rows L2
theorem takes0N {X : Cx} : Takes X (fun _ _ _ _ => False) := fun _ _ x => by
  obtain ⟨a, B, sI, pins, σ, H, cls, d, e, I, nb, up, sky, na, os, ag, w⟩ := x
  exact False.elim w
section
variable {X : Cx} {e : Expr} {es : List Expr} {ta : TA} {p pos : Pos}
/-- raise X(e, ..), own __init__: the new exception has no context -/
theorem pmk_oexN {CX : CXT} {x : Str} {C fI : Addr} {k : Nat} {fd : FuncData} {ps : List Str} {sp : Sp} (T : OexC X.K C) (iC : PySem.W.findIn X.K (.ref C) "__init__" = some (some (.ref fI))) (tI : PySem.W.typeIn X.K (.ref fI) = some (.type "function"))
    (F1 : FnOk X.prog X.w X.K X.mg X.base CX k fI fd ps sp) (hr : Room (k + 1) X.A) (hb : Binds X.K fd ps []) (hx : Passes CX X (fun _ _ _ => False)) (hg : Gl X x) (hm : X.mg x = some (.ref C)) (ha : PA X (e :: es) ta)
    (hdb : (x == ("__debug__" : Str)) = false := by decide) (he : starEach (e :: es) X.env = (false, eval e X.env) :: starEach es X.env := by rfl) (hpl : (backTo pos (starEach es X.env)).any (·.1) = false := by rfl) :
    PMk X (.Call (.Name x p) (e :: es) [] pos) (tMkO C sp [] ta) := by
  intro pins s σ H Q I h
  obtain ⟨c1, c2, c3, c4, c5, c6, c7, c8, c9, d0, d1, d2, d3, d4, d5, hC, hbm⟩ := T.cls
  refine wpAny_Call_Name_kw (ld_glob I hg hm ?_ hdb)
  refine PySem.W.callWith_K (h₀ := X.base) I.ok.mod.kin T.kC (thn (ha.run pos pins s σ H _ I h) fun us s1 ⟨vs, H1, I1, r1, hz, q1⟩ => ⟨I1.kIn, ?_⟩) he hpl
  show wpAny _ _ (call (.ref C) us) _ _ _
  obtain ⟨h1, g1, w1, k1, o1⟩ := s1
  have up1 : h1.objs.size ≤ h1.objs.size + 1 := Nat.le_succ _
  have fr : H1 (h1.objs.size + 1) = none := I1.hok.fresh up1
  have pr := q1 (h1.objs.size + 1) fr
  rw [List.append_nil] at pr
  have kp : ∀ b o, h1.get? b = some o → ((h1.push (PySem.W.kdv_tup us)).push (PySem.HandSPX.excO C h1.objs.size)).get? b = some o := fun b o z => Heap.get?_push_of_some _ (Heap.get?_push_of_some _ z)
  have ob : ((h1.push (PySem.W.kdv_tup us)).push (PySem.HandSPX.excO C h1.objs.size)).get? (h1.objs.size + 1) = some (PySem.HandSPX.excO C h1.objs.size) := by heap_get
  have J : Inv X pins σ (upd H1 (h1.objs.size + 1) (exo (h1.objs.size + 1) C none)) ⟨(h1.push (PySem.W.kdv_tup us)).push (PySem.HandSPX.excO C h1.objs.size), g1, w1, k1, o1⟩ :=
    I1.laid (t' := k1) (a := h1.objs.size + 1) (o := exo (h1.objs.size + 1) C none) (h' := (h1.push (PySem.W.kdv_tup us)).push (PySem.HandSPX.excO C h1.objs.size)) kp up1 (exo_ok ob)
  have rl : Vals (V.ref (h1.objs.size + 1) :: vs) (Value.ref (h1.objs.size + 1) :: us) := .cons rfl r1
  have ln : (Value.ref (h1.objs.size + 1) :: us).length = ps.length := by
    have z := rl.length
    rw [F1.len _ _ _ _ pr] at z
    exact z.symm
  have few : us.length ≤ sizeLine := by
    rw [← Paired.length r1, sizeLine_eq]
    omega
  have bd := hb ⟨(h1.push (PySem.W.kdv_tup us)).push (PySem.HandSPX.excO C h1.objs.size), g1, w1, k1, o1⟩ (Value.ref (h1.objs.size + 1) :: us) J.kIn (by rw [List.append_nil]; exact ln)
  rw [List.append_nil] at bd
  refine wpAny_call (PySem.HandSPX.call_own F.excBase_ValueError (fun Y => PySem.HandSPX.refsVE_contains Y c5 hbm) (I1.kIn _ _ hC) (PySem.W.looks_findIn I1.kIn iC) (fun self => PySem.W.bind_fn I1.kIn self tI) few
    (codeAny_mono (F1.run _ X.stack _ _ ⟨Value.ref (h1.objs.size + 1) :: us, []⟩ (Value.ref (h1.objs.size + 1) :: us) _ _ (fun _ _ _ => False) (hr.make C us []) (J.env0.make C us []) bd rl pr) fun r s' hq => ?_))
  cases r with
  | error er => exact hx pins σ _ _ er s' J hq
  | ok fl =>
    cases fl with
    | ret u =>
      obtain ⟨v, H2, os2, bare2, un2, hok2, rv, ev, d, fs, ea, ed, hd1, q2⟩ := hq
      subst ev
      obtain ⟨h2, g2, w2, k2, o2⟩ := s'
      obtain ⟨t0, G, JG, kG, ge, hoe, na⟩ := mk_end0 (d2 := w2) (t2 := k2) I1 up1 kp un2 hok2 os2 bare2 ea ed hd1
      exact ⟨rv, h1.objs.size + 1, _, _, ⟨G, g2, w2, k2, o2⟩, _, .ref C, some d, rfl, JG, kG, ge, hoe, ⟨rfl, rfl, fun vs hv => by cases hv; rfl⟩, rfl, rfl, na, rfl, bare2, raises_own T.exC T.tyC, q2⟩
    | next => exact False.elim hq
    | brk => exact False.elim hq
    | cont => exact False.elim hq
variable {C : Addr} {bmB : List Value} {B newId initId : String} {x : Str}
/-- raise X(), no own __init__ -/
theorem pmk_own0N (F : ExcBaseFacts B newId initId bmB) (q : PySem.W.excIn X.K C bmB newId = true) (gC : X.mg x = some (.ref C)) (kC : PySem.W.keepIn X.K (.ref C) = true) (r : Raises X (.ref C)) (hg : Gl X x)
    (hdb : (x == ("__debug__" : Str)) = false := by decide) : PMk X (.Call (.Name x p) [] [] pos) (fun _ H Q => Q (.ref C) none H) := by
  intro pins s σ H Q I h
  refine wpAny_Call_Name_kw (ld_glob I hg gC ?_ hdb)
  refine PySem.W.callWith_K0 I.kIn kC ?_
  obtain ⟨bm, N, nm, qn, bs, hdct, sn, sub, ab, col, dd, k0, k1, k2, k3, k5, mN, hC, hN, hni, T⟩ := exc_obj I.kIn q
  refine wpAny_call_exc_subT F T hC hN hni (fun h' e hm => ?_) (Nat.zero_le _)
  exact mk_of I hm r h (I.hok.gone hm.new)
end
end L2N
namespace L2
open PySem PySem.Spec PyProof.Rows
section
variable {P : Program} {w : World} {K : PySem.W.Frag} {mg : Str → Option Value} {base : Heap}
/-- a def that may raise, what it raises has no context -/
theorem Fun.okN {x qual : Str} {st : Stmt} {f : Addr} {fd : FuncData} {N ps : List Str} {k : Nat} {sp : Sp} (F : Fun K x qual st f fd) (S : FnScope N ps (defScope st)) (len : ∀ vs H Q E, sp vs H Q E → vs.length = ps.length)
    (hbody : ∀ (cdv : Value) (A : Around) (outer : List Env) (s : Shared) (H : Hp) (vs : List V) (Q : VK) (E : XK), Room k (A.deeper (envOfC qual (defScope st) s.heap.objs.size f cdv)) → sp vs H Q E →
      ∃ t, PSs (cxOf (L2N.CX P w) P w K mg base N qual (defScope st) f cdv A outer s H E) (defBody st) t ∧ t { nx := fun _ H' => Q .non H', rt := Q } (start N vs) H) : FnOk P w K mg base (L2N.CX P w) (k + 1) f fd ps sp := by
  obtain ⟨oc, od, kV, doc, pm, an, cdv, ct, osl, rfl, lk, hcd⟩ := F.ex
  exact fn_of lk hcd S len fun A outer s H vs Q E hr hsp => hbody cdv A outer s H vs Q E hr hsp
/-- a def called where an exception is handled, lets none out -/
theorem Fun.okH {x qual : Str} {st : Stmt} {f : Addr} {fd : FuncData} {N ps : List Str} {k : Nat} {sp : Sp} (F : Fun K x qual st f fd) (S : FnScope N ps (defScope st)) (len : ∀ vs H Q E, sp vs H Q E → vs.length = ps.length)
    (hbody : ∀ (cdv : Value) (A : Around) (outer : List Env) (s : Shared) (H : Hp) (vs : List V) (Q : VK) (E : XK) (p : Addr × Obj), L2H.Hot1 A p → L2H.RoomH k (A.deeper (envOfC qual (defScope st) s.heap.objs.size f cdv)) → sp vs H Q E →
      ∃ t, PSs (L2H.cxH CX0 P w K mg base N qual (defScope st) f cdv A outer s H E p).nox (defBody st) t ∧ t { nx := fun _ H' => Q .non H', rt := Q } (start N vs) H) : L2H.FnH P w K mg base CX0 (k + 1) f fd ps sp := by
  obtain ⟨oc, od, kV, doc, pm, an, cdv, ct, osl, rfl, lk, hcd⟩ := F.ex
  refine L2H.fn_ofH lk hcd S len fun A outer s H vs Q E p hot hr hsp => ?_
  obtain ⟨t, h, q⟩ := hbody cdv A outer s H vs Q E p hot hr hsp
  exact ⟨t, h.nox, q⟩
end
/-- within a suite: the exception that is handled has no context -/
theorem hot_suite {X : Cx} {a : Addr} {oe : Obj} {cls : Value} {d : Option Addr} {pn : List (Addr × Obj)} (hz : L2N.Zn cls d oe) (hf : ∃ vs, oe.data = .fields vs) : L2H.HotC (X.suite a ((a, oe) :: pn)) := by
  obtain ⟨vs, hv⟩ := hf
  exact ⟨(a, oe), ⟨rfl, vs, hv, hz.2.2 vs hv⟩, List.mem_cons_self⟩
end L2
namespace L2
open PySem PySem.Spec PyProof.Rows
/-- nothing is let out -/
theorem passH0 {X : Cx} (E : St → XK) : ∀ σ, PassesAt CX0 X σ (E σ) := fun _ _ _ _ _ _ _ z => False.elim z
theorem call_isiQ {X : Cx} {K : PySem.W.Frag} (h : X.K = K) : CallR X (.builtin "isinstance") (rIsi K) := by
  subst h
  exact call_isi
theorem call_lenK {X : Cx} {K : PySem.W.Frag} (h : X.K = K) : CallR X (.builtin "len") (fun xs H Q => ∃ p ys, xs = [.ref p] ∧ (SqL K H p ys ∨ SqT K H p ys) ∧ Q (.int ys.length) H) := by
  subst h
  exact call_len_seq
end L2

/-! min, max, len(set(..)) of a tuple of ints -/
namespace MmT
open PySem PyProof.Rows
theorem keep_old {s : Shared} {o : Obj} {h' : Heap} (hk : ∀ b u, b ∉ [s.heap.objs.size] → (s.heap.push o).get? b = some u → h'.get? b = some u) : ∀ b u, s.heap.get? b = some u → h'.get? b = some u := fun b u e => by
  refine hk b u (fun hm => ?_) (Heap.get?_push_of_some _ e)
  have := Heap.lt_size e
  rw [List.mem_singleton.mp hm] at this
  exact Nat.lt_irrefl _ this
theorem ints_arr {its : List Value} {ns : List Int} (hi : IntsAre its ns) : ∃ xs : Array (Int × Tok), its.toArray = intItems xs ∧ (xs.toList.map (·.1)) = ns := by
  obtain ⟨xs, e⟩ := hi.allInts.items
  have hn : numsOf (intItems xs).toList = ns := by
    rw [← e]
    exact hi.numsOf
  rw [nums_intItems] at hn
  exact ⟨xs, e, hn⟩
section
variable {prog : Program} {w : World} {A : Around} {E : Value → Shared → Prop} {s : Shared}
theorem min_tup {t : Addr} {its : List Value} {ns : List Int} {Q : Value → Shared → Prop} (calm : A.handled = none) (there : s.heap.IsTuple t its.toArray) (hi : IntsAre its ns) (some_ : 0 < ns.length)
    (next : ∀ (h' : Heap) (tk : Nat) (m : Int) (u : Tok), (∀ b o, s.heap.get? b = some o → h'.get? b = some o) → m ∈ ns → (∀ y ∈ ns, m ≤ y) → Q (.int m u) { s with heap := h', toks := tk }) :
    wpAny (model prog w) A (call (.builtin "min") [.ref t]) Q E s := by
  obtain ⟨xs, e1, e2⟩ := ints_arr hi
  subst e2
  rw [e1] at there
  have pos : 0 < xs.size := by simpa using some_
  have tb : t < s.heap.objs.size := by
    obtain ⟨o, ho, _⟩ := there
    exact Heap.lt_size ho
  refine call_min_walk (wpAny_pyIter_tuple there ?_)
  refine ⟨_, [_, t], [_], _, _, _, _, rfl, Walks.tuple (A := A.in1) calm _ t (Nat.ne_of_lt tb) (intItems xs), ⟨⟨_, Heap.get?_push_size _ rfl, rfl, rfl⟩, there.push _⟩, fun c hc => ?_, by simpa [intItems] using pos, CmpOf.ints_lt (numAt xs) (fun _ _ => intItems_at), fun v h' tk hP hk => ?_⟩
  · show c < (s.heap.push _).objs.size
    rw [Heap.size_push]
    rcases List.mem_cons.mp hc with rfl | hc
    · exact Nat.lt_succ_self _
    · rw [List.mem_singleton.mp hc]
      exact Nat.lt_succ_of_lt tb
  · have hP' : (intItems xs)[argBest (fun i j => decide (numAt xs i < numAt xs j)) (xs.size - 1)]? = some v := by simpa [intItems] using hP
    obtain ⟨u, rfl⟩ := intItems_at hP'
    obtain ⟨b1, b2⟩ := argBest_lt (numAt xs) (xs.size - 1)
    refine next h' tk _ u (keep_old hk) ?_ fun y hy => ?_
    · rw [numAt_eq]
      exact PySem.getD_mem (by rw [List.length_map, Array.length_toList]; omega)
    · obtain ⟨j, hj, rfl⟩ := mem_getD hy
      rw [List.length_map, Array.length_toList] at hj
      rw [← numAt_eq]
      exact b2 j (by omega)
theorem max_tup {t : Addr} {its : List Value} {ns : List Int} {Q : Value → Shared → Prop} (calm : A.handled = none) (there : s.heap.IsTuple t its.toArray) (hi : IntsAre its ns) (some_ : 0 < ns.length)
    (next : ∀ (h' : Heap) (tk : Nat) (m : Int) (u : Tok), (∀ b o, s.heap.get? b = some o → h'.get? b = some o) → m ∈ ns → (∀ y ∈ ns, y ≤ m) → Q (.int m u) { s with heap := h', toks := tk }) :
    wpAny (model prog w) A (call (.builtin "max") [.ref t]) Q E s := by
  obtain ⟨xs, e1, e2⟩ := ints_arr hi
  subst e2
  rw [e1] at there
  have pos : 0 < xs.size := by simpa using some_
  have tb : t < s.heap.objs.size := by
    obtain ⟨o, ho, _⟩ := there
    exact Heap.lt_size ho
  refine call_max_walk (wpAny_pyIter_tuple there ?_)
  refine ⟨_, [_, t], [_], _, _, _, _, rfl, Walks.tuple (A := A.in1) calm _ t (Nat.ne_of_lt tb) (intItems xs), ⟨⟨_, Heap.get?_push_size _ rfl, rfl, rfl⟩, there.push _⟩, fun c hc => ?_, by simpa [intItems] using pos, CmpOf.ints_gt (numAt xs) (fun _ _ => intItems_at), fun v h' tk hP hk => ?_⟩
  · show c < (s.heap.push _).objs.size
    rw [Heap.size_push]
    rcases List.mem_cons.mp hc with rfl | hc
    · exact Nat.lt_succ_self _
    · rw [List.mem_singleton.mp hc]
      exact Nat.lt_succ_of_lt tb
  · have hP' : (intItems xs)[argBest (fun i j => decide (numAt xs i > numAt xs j)) (xs.size - 1)]? = some v := by simpa [intItems] using hP
    obtain ⟨u, rfl⟩ := intItems_at hP'
    obtain ⟨b1, b2⟩ := argBest_gt (numAt xs) (xs.size - 1)
    refine next h' tk _ u (keep_old hk) ?_ fun y hy => ?_
    · rw [numAt_eq]
      exact PySem.getD_mem (by rw [List.length_map, Array.length_toList]; omega)
    · obtain ⟨j, hj, rfl⟩ := mem_getD hy
      rw [List.length_map, Array.length_toList] at hj
      rw [← numAt_eq]
      exact b2 j (by omega)
end
/-- a list without doubles has as many members as another of the same members exactly if that one has no doubles -/
theorem sub_perm : ∀ {L ns : List Int}, L.Nodup → (∀ x ∈ L, x ∈ ns) → L.length = ns.length → L.Perm ns
  | [], ns, _, _, h => by
    rw [List.length_eq_zero_iff.mp h.symm]
  | x :: L, ns, nd, sub, h => by
    have hx := sub x (List.mem_cons_self ..)
    have nd' := List.nodup_cons.mp nd
    have ih := sub_perm (L := L) (ns := ns.erase x) nd'.2 (fun y hy => (List.mem_erase_of_ne (fun z => nd'.1 (by rw [← z]; exact hy))).mpr (sub y (List.mem_cons_of_mem _ hy))) (by
      rw [List.length_erase_of_mem hx]
      simp at h
      omega)
    exact (List.Perm.cons x ih).trans (List.perm_cons_erase hx).symm
theorem sub_len : ∀ {L ns : List Int}, L.Nodup → (∀ x ∈ L, x ∈ ns) → L.length ≤ ns.length
  | [], _, _, _ => Nat.zero_le _
  | x :: L, ns, nd, sub => by
    have hx := sub x (List.mem_cons_self ..)
    have nd' := List.nodup_cons.mp nd
    have ih := sub_len (L := L) (ns := ns.erase x) nd'.2 fun y hy => (List.mem_erase_of_ne (fun z => nd'.1 (by rw [← z]; exact hy))).mpr (sub y (List.mem_cons_of_mem _ hy))
    have := List.length_erase_of_mem hx
    have hp : 0 < ns.length := List.length_pos_of_mem hx
    show L.length + 1 ≤ ns.length
    omega
theorem count_nd {L ns : List Int} (nd : L.Nodup) (m : ∀ x, x ∈ L ↔ x ∈ ns) : L.length = ns.length ↔ ns.Nodup :=
  ⟨fun h => (sub_perm nd (fun x hx => (m x).mp hx) h).nodup_iff.mp nd, fun h => Nat.le_antisymm (sub_len nd fun x hx => (m x).mp hx) (sub_len h fun x hx => (m x).mpr hx)⟩
end MmT
namespace L2
open PySem PySem.Spec PyProof.Rows
section
variable {X : Cx}
def rMinT (K : PySem.W.Frag) : List V → Hp → VK → Prop := fun vs H Q => ∃ (a : Addr) (ns : List Int), vs = [V.ref a] ∧ SqT K H a (ns.map V.int) ∧ 0 < ns.length ∧ ∀ m, m ∈ ns → (∀ y ∈ ns, m ≤ y) → Q (.int m) H
def rMaxT (K : PySem.W.Frag) : List V → Hp → VK → Prop := fun vs H Q => ∃ (a : Addr) (ns : List Int), vs = [V.ref a] ∧ SqT K H a (ns.map V.int) ∧ 0 < ns.length ∧ ∀ m, m ∈ ns → (∀ y ∈ ns, y ≤ m) → Q (.int m) H
theorem tup_is {h : Heap} {t : Addr} {its : List Value} (p : ∃ o : Obj, h.get? t = some o ∧ o.cls = .type "tuple" ∧ ∃ k, o.data = .seq its.toArray k) : h.IsTuple t its.toArray := by
  obtain ⟨o, h1, h2, k, h3⟩ := p
  exact ⟨o, h1, h2, k, h3⟩
theorem cr_minT (calm : X.calm = true) : CallR X (.builtin "min") (rMinT X.K) := by
  intro pins s σ H vs us Q I r h
  obtain ⟨a, ns, rfl, hs, pos, q⟩ := h
  obtain ⟨its, rv, ⟨o, ho, hc, k, hd⟩, hz⟩ := I.tuple hs
  rw [Vals.ref1 r]
  exact MmT.min_tup (I.ok.hd calm) ⟨o, ho, hc, k, hd⟩ rv.ints pos fun h' tk m u keep hm hl => ⟨.int m, H, I.kept keep, ⟨u, rfl⟩, q m hm hl⟩
theorem cr_maxT (calm : X.calm = true) : CallR X (.builtin "max") (rMaxT X.K) := by
  intro pins s σ H vs us Q I r h
  obtain ⟨a, ns, rfl, hs, pos, q⟩ := h
  obtain ⟨its, rv, ⟨o, ho, hc, k, hd⟩, hz⟩ := I.tuple hs
  rw [Vals.ref1 r]
  exact MmT.max_tup (I.ok.hd calm) ⟨o, ho, hc, k, hd⟩ rv.ints pos fun h' tk m u keep hm hl => ⟨.int m, H, I.kept keep, ⟨u, rfl⟩, q m hm hl⟩
/-- len(set(t)), t a tuple of ints: how many there are tells whether there are doubles -/
def tLenSetT (K : PySem.W.Frag) (ta : TE) : TE := fun σ H Q => ta σ H fun x H1 => ∃ (l : Addr) (ns : List Int), x = .ref l ∧ SqT K H1 l (ns.map V.int) ∧ ns.length ≤ 1000 ∧ ∀ c : Nat, c ≤ ns.length → (c = ns.length ↔ ns.Nodup) → Q (.int (c : Int)) H1
theorem pe_lenSetT {a : Expr} {ta : TE} {p p2 q pos : Pos} (calm : X.calm = true) (g1 : Gl X "len") (m1 : X.mg "len" = none) (g2 : Gl X "set") (m2 : X.mg "set" = none) (ha : PE X a ta)
    (na : starEach [a] X.env = (false, eval a X.env) :: starEach [] X.env := by rfl) : PE X (.Call (.Name "len" p) [.Call (.Name "set" p2) [a] [] q] [] pos) (tLenSetT X.K ta) := by
  refine ⟨fun pins s σ H Q I hw => ?_⟩
  refine Call_ (ld_blt I g1 m1 PySem.boot_len ?_)
  refine PyProof.Rows.callWith_builtin1 (PyProof.Rows.args_cons ?_ rfl) rfl rfl
  refine Call_ (ld_blt I g2 m2 PyProof.Rows.boot_set ?_)
  refine PyProof.Rows.callWith_type1 (PyProof.Rows.args_cons (thn (ha.run pins s σ H _ I hw) fun v s1 ⟨x, H1, I1, r1, z1⟩ => PyProof.Rows.args_nil ?_) na) na rfl
  obtain ⟨l, ns, rfl, hq, few, z1⟩ := z1
  cases r1
  obtain ⟨its, rv, ⟨o, ho, hc, k, hd⟩, hz⟩ := I1.tuple hq
  refine call_set_tupI ns (I1.ok.hd calm) ⟨o, ho, hc, k, hd⟩ (by simpa using rv.ints) (by unfold scanBound; omega) fun h' tk c hS hc' keep => ?_
  refine PyProof.Rows.args_nil ?_
  obtain ⟨o2, es, ep, t2, h1, h2, h3, _, h5, h6, _, h8, h9, _⟩ := hS
  have I2 : Inv X pins σ H1 { s1 with heap := h', toks := tk } := I1.kept keep
  have m : ∀ x, x ∈ es.toList.map keyOf ↔ x ∈ ns := fun x => by
    rw [← h6 x]
    exact decide_eq_true_iff
  have cnt := MmT.count_nd h5 m
  rw [List.length_map, Array.length_toList, h9] at cnt
  exact call_len_set h1 h2 h3 h8 (by omega) ⟨.int (c : Int), H1, I2.tok _, ⟨_, by rw [h9]⟩, z1 c hc' cnt⟩
end
end L2

/-! enumerate of a tuple; calls in a try's body; isinstance of an exception without a dict -/
namespace EnT
open PySem
/-- the iterator of the tuple t, and the enumerate object over the iterator at i, both as they are made -/
def itO (t : Addr) : Obj := { cls := .type "tuple_iterator", data := .fields #[.ref t, .int 0 0] }
def enO (i : Addr) : Obj := { cls := .type "enumerate", data := .fields #[.none, .bool false, .ref i, rawInt 0, .none, .none] }
def made (g : Heap) (t : Addr) : Heap := (g.push (itO t)).push (enO g.objs.size)
theorem made_top (g : Heap) (t : Addr) : (g.push (itO t)).objs.size = g.objs.size + 1 := Heap.size_push ..
theorem made_en (g : Heap) (t : Addr) : (made g t).get? (g.objs.size + 1) = some (enO g.objs.size) :=
  made_top g t ▸ Heap.get?_push_size (g.push (itO t)) (o := enO g.objs.size) rfl
theorem made_it (g : Heap) (t : Addr) : (made g t).get? g.objs.size = some (itO t) := Heap.get?_push_of_some _ (Heap.get?_push_size _ rfl)
theorem made_old (g : Heap) (t b : Addr) (o : Obj) (h : g.get? b = some o) : (made g t).get? b = some o :=
  Heap.get?_push_of_some _ (Heap.get?_push_of_some _ h)
/-- what enumerate's __new__ does with a tuple -/
theorem new_does (t : Addr) (vs : Array Value) : Meets (Builtin.«enumerate.__new__» ⟨[.type "enumerate", .ref t], []⟩)
    (fun _ R s => s.heap.IsTuple t vs ∧ R (.ok (.ret (.ref (s.heap.objs.size + 1)))) { s with heap := made s.heap t }) :=
  Meets.of_wp fun P w A R s there => by
    cases s with
    | mk g gl dw tc ow =>
      obtain ⟨isT, goal⟩ := there
      rw [← made_top g t] at goal
      have sub1 := sub_enumerate
      have mk_it : ∀ {A1 : Around} {E1 Q1 : Value → Shared → Prop}, Q1 (.ref g.objs.size) ⟨g.push (itO t), gl, dw, tc, ow⟩ → wpAny (model P w) A1 (pyIter (.ref t)) Q1 E1 ⟨g, gl, dw, tc, ow⟩ :=
        fun q => wpAny_pyIter_tuple isT q
      wp_walk using mk_it
      refine wpAny_stack_any fun _ => wpAny_pure ?_
      split
      · next cls _ _ _ _ _ =>
        by_cases same : (cls == Value.type "enumerate") = true
        · rw [same]
          wp_walk using mk_it
          exact ⟨_, rfl, goal⟩
        · rw [Bool.eq_false_iff.mpr same]
          wp_walk using mk_it
          exact ⟨_, rfl, goal⟩
      · wp_walk using mk_it
        exact ⟨_, rfl, goal⟩
end EnT
namespace EnT
open PySem PySem.Spec PyProof.Rows L2
theorem call_does {P : Program} {w : World} {A : Around} {E Q : Value → Shared → Prop} {s : Shared} {t : Addr} {vs : Array Value} (isT : s.heap.IsTuple t vs) (goal : Q (.ref (s.heap.objs.size + 1)) { s with heap := made s.heap t }) :
    wpAny (model P w) A (call (.type "enumerate") [.ref t]) Q E s := by
  have top : Shared.TypeIs { s with heap := made s.heap t } (.ref (s.heap.objs.size + 1)) "enumerate" := ⟨_, made_en s.heap t, rfl⟩
  have done : (fun (_ : Around) (R : Result → Shared → Prop) (z : Shared) => z.heap.IsTuple t vs ∧ R (.ok (.ret (.ref (z.heap.objs.size + 1)))) { z with heap := made z.heap t }) A.in1
      (wants (fun obj z => z.TypeIs obj "enumerate" ∧ Q obj z) E) s := ⟨isT, top, goal⟩
  exact callType_new F.called_enumerate (by decide) (F.typeCall_enumerate_1 _) (F.newCall_enumerate_1 _) (fun o => F.args_object_init_2 o _)
    F.entry_enumerate_new (new_does t vs) done
theorem tup_ne {h : Heap} {i t : Addr} {n : Nat} {vs : Array Value} (a : h.IsTupleIter i t n) (b : h.IsTuple t vs) : t ≠ i := by
  intro same
  subst same
  obtain ⟨u, hu, cu, _⟩ := a
  obtain ⟨v, hv, cv, _⟩ := b
  cases hu.symm.trans hv
  exact absurd (Value.type.inj (cu.symm.trans cv)) (by decide)
theorem en_ne {h : Heap} {e i t : Addr} {c : Int} {old : Value} {vs : Array Value} (a : IsEnum h e i c old) (b : h.IsTuple t vs) : e ≠ t := by
  intro same
  subst same
  obtain ⟨v, hv, cv, _⟩ := b
  cases (show h.get? e = _ from a).symm.trans hv
  exact absurd (Value.type.inj cv) (by decide)
/-- what the enumerate object at e walks with: its tuple at t, the iterator at i -/
def Stands (e i t : Addr) (n : Nat) (h : Heap) : Prop := (∃ old, IsEnum h e i ((n : Nat) : Int) old) ∧ h.IsTupleIter i t n ∧ e ≠ i
/-- the tuple at t, each item behind its number in a new pair -/
def ItN (K : PySem.W.Frag) (t : Addr) : It where
  go := fun n H => ∃ xs x, SqT K H t xs ∧ xs[n]? = some x
  yld := fun n H v H2 => ∃ p x, v = .ref p ∧ H p = none ∧ H2 = upd H p (.tup [.int (n : Nat), x]) ∧ ∀ xs, SqT K H t xs → xs[n]? = some x
  stop := fun n H => ∃ xs : List V, SqT K H t xs ∧ xs.length = n
theorem turns {P : Program} {w : World} {K : PySem.W.Frag} {es : List Expr} {kk : Nat} {ps : Pos} (e i t : Addr) : Turn P w K (.Tuple es kk ps) (ItN K t) [e, i] e (Stands e i t) := by
  constructor
  · exact List.mem_cons_self
  · rintro n h ⟨⟨old, a⟩, ⟨u, hu, cu, du⟩, ne⟩ b hb
    rcases List.mem_cons.mp hb with rfl | hb
    · exact ⟨_, a, fun v q => by cases q⟩
    · rw [List.mem_singleton.mp hb]
      exact ⟨u, hu, fun v q => by rw [du] at q; cases q⟩
  · rintro n h h2 ⟨⟨old, a⟩, b, ne⟩ kp
    exact ⟨⟨old, kp e List.mem_cons_self _ a⟩, b.at fun o q => kp i (List.mem_cons_of_mem _ List.mem_cons_self) o q, ne⟩
  · rintro X rfl rfl rfl calm n pins s σ H E I apart ⟨⟨old, a⟩, b, ne⟩ ⟨xs, x, tx, hx⟩
    obtain ⟨vs, rel, isT, _⟩ := I.tuple tx
    have isT := tup_is isT
    obtain ⟨v, hv, rv⟩ := rel.get hx
    have hv2 : vs.toArray[n]? = some v := by rw [List.getElem?_toArray]; exact hv
    have lt := (Array.getElem?_eq_some_iff.mp hv2).1
    have away : e ∉ [i, t] := fun z => by
      rcases List.mem_cons.mp z with z | z
      · exact ne z
      · exact en_ne a isT (List.mem_singleton.mp z)
    have drawn := Draws.tuple (prog := X.prog) (w := X.w) (A := X.A.in1) (I.ok.hd calm) i t (tup_ne b isT) vs.toArray
    have W := WalksT.enumerateD drawn e ne away List.mem_cons_self
    refine W.item n s _ E lt ⟨⟨old, a⟩, b, isT⟩ ?_
    rintro p ws h1 tk ⟨tok, v2, g, rfl⟩ up there mid kp1
    cases hv2.symm.trans g
    refine ⟨_, rfl, W.go es kk ps n p { s with heap := h1, toks := tk } _ E mid ?_⟩
    rintro h2 ⟨⟨old2, a2⟩, b2, _⟩ kp2
    obtain ⟨op, hop, cp, c1, dp⟩ := there
    have free : H p = none := I.hok.fresh up
    have made : ObjOk X.prog X.w (upd H p (.tup [.int (n : Nat), x])) h2 p (.tup [.int (n : Nat), x]) := by
      refine ⟨?_, [.int n tok, v], .cons ⟨tok, rfl⟩ (.cons rv .nil), op, kp2 p op (W.apart n p h1 mid) hop, cp, c1, dp⟩
      show 2 ≤ sizeLine
      decide
    have I2 := I.turnedNew (t' := tk) (fun c o nc q => kp2 c o nc (kp1 c o nc q)) apart up made
    refine ⟨.ref p, _, I2, rfl, ⟨p, x, rfl, free, rfl, fun ys ty => by rw [I.tuple_inj ty tx]; exact hx⟩, ⟨⟨old2, a2⟩, b2, ne⟩, fun c hc => ?_⟩
    rw [upd_ne fun z => by
      obtain ⟨o, ho, _⟩ : ∃ o, s.heap.get? c = some o ∧ True := by
        rcases List.mem_cons.mp hc with rfl | hc
        · exact ⟨_, a, trivial⟩
        · rw [List.mem_singleton.mp hc]
          obtain ⟨o, ho, _⟩ := b
          exact ⟨o, ho, trivial⟩
      have := Heap.lt_size ho
      rw [z] at this
      exact absurd up (Nat.not_le.mpr this)]
    exact (apart c hc).1
  · rintro X rfl rfl rfl calm n pins s σ H E I apart ⟨⟨old, a⟩, b, ne⟩ ⟨xs, tx, len⟩
    obtain ⟨vs, rel, isT, _⟩ := I.tuple tx
    have isT := tup_is isT
    have away : e ∉ [i, t] := fun z => by
      rcases List.mem_cons.mp z with z | z
      · exact ne z
      · exact en_ne a isT (List.mem_singleton.mp z)
    have drawn := Draws.tuple (prog := X.prog) (w := X.w) (A := X.A.in1) (I.ok.hd calm) i t (tup_ne b isT) vs.toArray
    have W := WalksT.enumerateD drawn e ne away List.mem_cons_self
    have eq : n = vs.toArray.size := by rw [← len, rel.length, List.size_toArray]
    subst eq
    exact W.done s _ E ⟨⟨old, a⟩, b, isT⟩ fun h2 tk kp => ⟨rfl, I.turnedL kp apart⟩
  · rintro A n s Q E ⟨⟨old, a⟩, _⟩ goal
    exact wpAny_pyIter_enum a goal
def iNum (K : PySem.W.Frag) (ta : TA) : TI := fun σ H R => ta σ H fun vs H1 => ∃ t xs, vs = [.ref t] ∧ SqT K H1 t xs ∧ R (ItN K t) H1
theorem pi_enumT {X : Cx} {e : Expr} {ta : TA} {p pos tpos : Pos} {es : List Expr} {kk : Nat} (g : Gl X "enumerate") (free : X.mg "enumerate" = none) (arg : PA X [e] ta) (one : starEach [e] X.env = [(false, eval e X.env)] := by rfl) :
    PI X (.Tuple es kk tpos) (.Call (.Name "enumerate" p) [e] [] pos) (iNum X.K ta) := by
  constructor
  intro pins s σ H R I had
  refine Call_ (ld_blt I g free boot_enumerate ?_)
  refine PyProof.Rows.callWith_type1 ?_ one rfl
  refine thn (arg.run pos pins s σ H _ I had) ?_
  rintro us s1 ⟨vs, H1, I1, rel, t, xs, rfl, tx, goal⟩
  obtain ⟨u, rfl, ru⟩ := vals1 rel
  cases (show u = Value.ref t from ru)
  obtain ⟨ws, _, isT, _⟩ := I1.tuple tx
  refine call_does (tup_is isT) (wpAny_pyIter_enum (made_en s1.heap t) ?_)
  have I2 : Inv X pins σ H1 { s1 with heap := made s1.heap t } := I1.kept (t' := s1.toks) fun b o q => made_old s1.heap t b o q
  refine ⟨_, _, _, _, H1, rfl, I2, turns (s1.heap.objs.size + 1) s1.heap.objs.size t, ⟨⟨.none, made_en s1.heap t⟩, ⟨_, made_it s1.heap t, rfl, rfl⟩, Nat.succ_ne_self _⟩, fun b hb => ?_, goal⟩
  have up : s1.heap.objs.size ≤ b := by
    rcases List.mem_cons.mp hb with rfl | hb
    · exact Nat.le_succ _
    · rw [List.mem_singleton.mp hb]
      exact Nat.le_refl _
  exact I1.fpOk up (I1.hok.fresh up)
theorem walk_enumT {K : PySem.W.Frag} {t : Addr} {xs : List V} : Walk (ItN K t) xs.length (fun H => SqT K H t xs) (YPair (fun n => some (.int (n : Nat))) (fun n => xs[n]?)) where
  goes := fun n _ lt q => ⟨xs, xs[n], q, List.getElem?_eq_getElem lt⟩
  stops := fun _ q => ⟨xs, q, rfl⟩
  yields := fun n _ _ _ _ q y => by
    obtain ⟨p, x, a, b, c, d⟩ := y
    exact ⟨p, .int (n : Nat), x, a, b, c, rfl, d xs q⟩
end EnT
namespace L2
open PySem PySem.Spec PyProof.Rows
/-- isinstance(e, c), e the exception that the suite holds, with a dict or without -/
def rIsS2 (K : PySem.W.Frag) (a : Addr) (cls : Value) (d : Option Addr) : List V → Hp → VK → Prop := fun xs H Q => ∃ (C : Addr) (c : V) (u : Value) (b : Bool), xs = [.ref a, c] ∧ cls = .ref C ∧ (d = none ∨ ∃ dd fs, d = some dd ∧ H dd = some (.xd fs)) ∧
  ExcC K C ∧ ClsV c u ∧ PySem.W.kitOne K (.ref C) u = some b ∧ Q (.bl b) H
theorem call_isS2 {X : Cx} {K : PySem.W.Frag} {a : Addr} {cls : Value} {d : Option Addr} {oe : Obj} {pn : List (Addr × Obj)} (hK : X.K = K) (hz : Zc cls d oe) (hf : ∃ vs, oe.data = .fields vs) : CallR (X.suite a ((a, oe) :: pn)) (.builtin "isinstance") (rIsS2 K a cls d) := by
  rintro pins s σ H _ us Q I rel ⟨C, c, u, b, rfl, rfl, kind, D, isC, ans, goal⟩
  rcases kind with rfl | ⟨dd, fs, rfl, there⟩
  · have E : CallR (X.suite a ((a, oe) :: pn)) (.builtin "isinstance") (rIsE X.K C a) := call_isE (hK ▸ D) hz hf
    exact E pins s σ H _ us Q I rel ⟨c, u, b, rfl, fun v q => isC.eq q, hK ▸ ans, goal⟩
  · exact call_isS hK hz hf pins s σ H _ us Q I rel ⟨C, dd, fs, c, u, b, rfl, rfl, rfl, there, D, isC, ans, goal⟩
theorem call_tuple_ofK {X : Cx} {K : PySem.W.Frag} (h : X.K = K) : CallR X (.type "tuple") (fun xs H Q => ∃ p ys, xs = [.ref p] ∧ ((SqL K H p ys ∧ ∀ l, H l = none → Q (.ref l) (upd H l (.tup ys))) ∨ (SqT K H p ys ∧ Q (.ref p) H))) := by
  subst h
  exact call_tuple_of
theorem call_list_ofK {X : Cx} {K : PySem.W.Frag} (h : X.K = K) : CallR X (.type "list") (fun xs H Q => ∃ p ys, xs = [.ref p] ∧ (SqL K H p ys ∨ SqT K H p ys) ∧ ∀ l, H l = none → Q (.ref l) (upd H l (.lst ys))) := by
  subst h
  exact call_list_of
end L2
namespace RZ
open PySem PySem.Spec PyProof.Rows L2
theorem walk_zipT {K : PySem.W.Frag} {a b : Addr} {xs ys : List V} {n : Nat} (hn : n = min xs.length ys.length) : Walk (ItzT K a b) n (fun H => SqT K H a xs ∧ SqT K H b ys) (YPair (fun i => xs[i]?) (fun i => ys[i]?)) where
  goes := fun i _ lt q => ⟨xs, ys, xs[i]'(by omega), ys[i]'(by omega), q.1, q.2, List.getElem?_eq_getElem _, List.getElem?_eq_getElem _⟩
  stops := fun _ q => ⟨xs, ys, q.1, q.2, by omega⟩
  yields := fun i _ _ _ _ q y => by
    obtain ⟨p, x, z, a1, a2, a3, a4, a5⟩ := y
    exact ⟨p, x, z, a1, a2, a3, a4 xs q.1, a5 ys q.2⟩
end RZ

/-! an own object made within an except suite; a class that a local name holds, called with keywords -/
namespace MkH
open PySem PySem.Spec PyProof.Rows L2 L2H
section
variable {X : Cx} {CX : CXT} {k : Nat} {f C : Addr} {fd : FuncData} {ps : List Str} {sp : Sp} {x : Str} {p pos : Pos} {dvs : List V} {ds : List Value}
/-- C(): all that __init__ takes has defaults -/
theorem pe_make0H (M : Mk X.K C f) (F : FnH X.prog X.w X.K X.mg X.base CX k f fd ps sp) (room : RoomH (k + 1) X.A) (hot : HotC X) (b : Binds X.K fd ps ds) (d : Vals dvs ds) (pass : Passes CX X (fun _ _ _ => False)) (g : Gl X x) (m : X.mg x = some (.ref C))
    (nodebug : (x == ("__debug__" : Str)) = false := by decide) : PE X (.Call (.Name x p) [] [] pos) (tMake C sp dvs (fun _ _ _ => False) tNil) := by
  constructor
  intro pins s σ H Q I had
  obtain ⟨pn, h1, mem⟩ := hot
  refine wpAny_Call_Name_kw (ld_glob I g m ?_ nodebug)
  refine PySem.W.callWith_K0 I.kIn M.kp ?_
  have free : ∀ c, s.heap.objs.size ≤ c → H c = none := fun c le => I.hok.fresh le
  have had1 := had (s.heap.objs.size + 1) s.heap.objs.size (free _ (Nat.le_succ _)) (free _ (Nat.le_refl _)) (Nat.ne_of_lt (Nat.lt_succ_self _))
  have I2 := Inv.made I (C := C)
  have rel : Vals (V.ref (s.heap.objs.size + 1) :: ([] ++ dvs)) (Value.ref (s.heap.objs.size + 1) :: ([] ++ ds)) := .cons rfl d
  have len : ([Value.ref (s.heap.objs.size + 1)] ++ ds).length = ps.length := by
    rw [← F.len _ _ _ _ had1]
    exact rel.length.symm
  have at2 := I2.pin pn (List.mem_append_left _ mem)
  refine wpAny_call (make_map (f := f) I.kIn M.makes M.init (beq_iff_eq.mp M.fn) (codeAny_mono (F.run _ X.stack _ _ ⟨[Value.ref (s.heap.objs.size + 1)], []⟩ ([Value.ref (s.heap.objs.size + 1)] ++ ds) _ _ (fun _ _ _ => False) pn
    (RoomH.make room C [] []) ⟨h1.1, h1.2⟩ ⟨at2.1, at2.2.1, fun z => ?_, at2.2.2.2.2⟩ (I2.env0.make C [] []) (b _ [Value.ref (s.heap.objs.size + 1)] I2.kIn len) rel had1) fun r s2 told => ?_))
  · rcases List.mem_cons.mp (I2.stkSub pn.1 z) with z | z
    · exact at2.2.2.1 z
    · exact at2.2.2.2.1 z
  · match r, told with
    | .error e, told => exact pass pins σ _ _ e s2 I2 told
    | .ok (.ret u), told =>
      obtain ⟨v, H2, I3, ru, rfl, q⟩ := I2.after told
      exact ⟨ru, V.ref (s.heap.objs.size + 1), H2, I3, rfl, q⟩
    | .ok .next, told => exact told.elim
    | .ok .brk, told => exact told.elim
    | .ok .cont, told => exact told.elim
end
section
variable {X : Cx} {CX : CXT} {k i : Nat} {f C : Addr} {fd : FuncData} {ps ks : List Str} {sp : Sp} {E : XK} {x : Str} {p pos : Pos} {kws : List Keyword} {tk : TA} {gb : List Value → List Value → List Value} {gV : List V → List V → List V}
/-- the i-th slot holds the class C: name(k = v, ..) -/
def tMakeL (i : Nat) (C : Addr) (m : Nat) (sp : Sp) (gV : List V → List V → List V) (E : XK) (tk : TA) : TE := fun σ H Q => σ[i]? = some (some (.ref C)) ∧ tMakeK C 0 m sp gV E tNil tk σ H Q
theorem pe_makeL (M : Mk X.K C f) (F : FnOk X.prog X.w X.K X.mg X.base CX k f fd ps sp) (room : Room (k + 1) X.A) (at_ : X.N[i]? = some x) (vis : Vis X.env.scope x) (b : KBn X.K fd ps 1 ks gb gV) (pass : Passes CX X E) (kw : PK X kws tk)
    (hall : (backToKw pos (keywordEach kws X.env)).all (·.1.isSome) = true := by rfl) (hks : (backToKw pos (keywordEach kws X.env)).filterMap (·.1) = ks := by rfl) (d1 : (x == ("__debug__" : Str)) = false := by decide) (d2 : (x == ("__classdict__" : Str)) = false := by decide)
    (star : ((backTo pos (starEach [] X.env)).any (·.1) ||
      (backToKw pos (keywordEach kws X.env)).any (·.1.isNone)) = false := by rfl) :
    PE X (.Call (.Name x p) [] kws pos) (tMakeL i C ks.length sp gV E tk) := by
  constructor
  rintro pins s σ H Q I ⟨slot, had⟩
  refine wpAny_Call_Name_kw (thn ((pe_var (pos := p) at_ vis d1 d2).run pins s σ H (fun v G => v = .ref C ∧ G = H) I ⟨.ref C, slot, rfl, rfl⟩) ?_)
  rintro u s1 ⟨v, G, I1, rv, rfl, rfl⟩
  cases (show u = Value.ref C from rv)
  refine PySem.W.callWith_KW0 (h₀ := X.base)
    I.ok.mod.kin M.kp hall ?_ star
  refine thn (kw.run pos pins s1 σ G _ I1 had) ?_
  rintro ws s2 ⟨zs, G2, I2, rz, l1, l2, q⟩
  rw [hks]
  exact ⟨I2.kIn, run_makeK (us := []) (vs := []) M F room b pass I2 .nil rz rfl l2 q⟩
end
end MkH

/-! calls of methods that may raise: what they raise goes on -/
namespace MkS
open PySem PySem.Spec PyProof.Rows L2
section
variable {X : Cx} {CX : CXT} {k : Nat} {f C : Addr} {fd : FuncData} {ps : List Str} {sp : Sp} {E : L2.St → XK} {m : Str} {pos apos : Pos} {e o : Expr} {es : List Expr} {ta : TE} {t : TA} {pl : Sem Bool}
/-- o.m(e, ..) -/
theorem pe_methS (he : PE X o ta) (c : Cls X.K C) (hm : Meth X.K C m f) (F : FnOk X.prog X.w X.K X.mg X.base CX k f fd ps sp) (room : Room k X.A) (b : Binds X.K fd ps []) (pass : ∀ σ, PassesAt CX X σ (E σ)) (ha : PA X (e :: es) t)
    (one : starEach (e :: es) X.env = (false, eval e X.env) :: starEach es X.env := by rfl) (more : (backTo pos (starEach es X.env)).any (·.1) = false := by rfl)
    (road : eval (.Call (.Attribute o m apos) (e :: es) [] pos) X.env = (do
      let it ← eval o X.env
      standAt apos.atName
      let (fn, self) ← holding [it] (getMethod it m pl)
      callWith pos fn self (backTo pos (starEach (e :: es) X.env)) (backToKw pos (keywordEach [] X.env))) := by rfl) :
    PE X (.Call (.Attribute o m apos) (e :: es) [] pos) (L2H.tMethH C m sp E ta t) := by
  constructor
  intro pins s σ H Q I had
  refine PySem.W.methodCall_KW (pl := pl) (thn (he.run pins s σ H _ I had) ?_) road
  rintro u s1 ⟨x, H1, I1, ru, a, dx, fs, rfl, at_, no, q⟩
  cases (show u = Value.ref a from ru); skip
  refine getmeth_ok I1 at_ c hm no (PySem.W.callWith_K (first := [.ref a]) (h₀ := X.base) I.ok.mod.kin hm.kp (thn (ha.run pos pins s1 σ H1 _ I1 q) ?_) one more)
  rintro us s2 ⟨vs, H2, I2, r, q2⟩
  exact ⟨I2.kIn, run_fnS (us := .ref a :: us) (vs := .ref a :: vs) F room b (pass σ) I2 (.cons rfl r) q2⟩
end
section
variable {X : Cx} {CX : CXT} {k n : Nat} {f C : Addr} {fd : FuncData} {ps ks : List Str} {sp : Sp} {E : L2.St → XK} {x : Str} {p pos : Pos} {kws : List Keyword} {tk : TA} {gb : List Value → List Value → List Value} {gV : List V → List V → List V}
/-- a new object by keywords, its __init__ may raise -/
theorem run_makeS {pins : List (Addr × Obj)} {σ : L2.St} {H : Hp} {s : Shared} {Q : VK} {ws : List Value} {zs : List V} (M : Mk X.K C f) (F : FnOk X.prog X.w X.K X.mg X.base CX k f fd ps sp) (room : Room (k + 1) X.A) (b : KBn X.K fd ps 1 ks gb gV) (pass : PassesAt CX X σ (E σ))
    (I : Inv X pins σ H s) (rz : Vals zs ws) (lz : zs.length = ks.length)
    (had : ∀ c dx, H c = none → H dx = none → dx ≠ c → sp (gV [.ref c] zs) (upd (upd H dx (.own c)) c (.ins C dx [])) (fun v G => v = .non ∧ Q (.ref c) G) (E σ)) :
    wpAny (model X.prog X.w) X.A (call (.ref C) [] (ks.zip ws)) (EP X pins σ Q) X.xe s := by
  have free : ∀ c, s.heap.objs.size ≤ c → H c = none := fun c le => I.hok.fresh le
  have had1 := had (s.heap.objs.size + 1) s.heap.objs.size (free _ (Nat.le_succ _)) (free _ (Nat.le_refl _)) (Nat.ne_of_lt (Nat.lt_succ_self _))
  have I2 := Inv.made I (C := C)
  have self : Vals [V.ref (s.heap.objs.size + 1)] [Value.ref (s.heap.objs.size + 1)] := .cons rfl .nil
  refine wpAny_call (make_map (f := f) I.kIn M.makes M.init (beq_iff_eq.mp M.fn) (codeAny_mono (F.run _ X.stack _ _ ⟨[Value.ref (s.heap.objs.size + 1)], ks.zip ws⟩ (gb [Value.ref (s.heap.objs.size + 1)] ws) _ _ (E σ) (room.make C [] (ks.zip ws))
    (I2.env0.make C [] (ks.zip ws)) (b.to _ _ ws I2.kIn rfl (rz.length.symm.trans lz)) (b.rel self rz) had1) fun r s2 told => ?_))
  match r, told with
  | .error e, told => exact pass pins _ _ e s2 I2 told
  | .ok (.ret u), told =>
    obtain ⟨v, G, I3, ru, rfl, q⟩ := I2.after told
    exact ⟨ru, V.ref (s.heap.objs.size + 1), G, I3, rfl, q⟩
  | .ok .next, told => exact told.elim
  | .ok .brk, told => exact told.elim
  | .ok .cont, told => exact told.elim
/-- C(k = v, ..) -/
def tMakeS (C : Addr) (m : Nat) (sp : Sp) (gV : List V → List V → List V) (E : L2.St → XK) (tk : TA) : TE := fun σ H Q => tk σ H fun zs G => zs.length = m ∧ ∀ c dx, G c = none → G dx = none → dx ≠ c →
  sp (gV [.ref c] zs) (upd (upd G dx (.own c)) c (.ins C dx [])) (fun v G2 => v = .non ∧ Q (.ref c) G2) (E σ)
theorem pe_makeS (M : Mk X.K C f) (F : FnOk X.prog X.w X.K X.mg X.base CX k f fd ps sp) (room : Room (k + 1) X.A) (g : Gl X x) (m : X.mg x = some (.ref C)) (b : KBn X.K fd ps 1 ks gb gV) (pass : ∀ σ, PassesAt CX X σ (E σ)) (kw : PK X kws tk)
    (hall : (backToKw pos (keywordEach kws X.env)).all (·.1.isSome) = true := by rfl) (hks : (backToKw pos (keywordEach kws X.env)).filterMap (·.1) = ks := by rfl) (nodebug : (x == ("__debug__" : Str)) = false := by decide)
    (star : ((backTo pos (starEach [] X.env)).any (·.1) ||
      (backToKw pos (keywordEach kws X.env)).any (·.1.isNone)) = false := by rfl) :
    PE X (.Call (.Name x p) [] kws pos) (tMakeS C ks.length sp gV E tk) := by
  constructor
  intro pins s σ H Q I had
  refine wpAny_Call_Name_kw (ld_glob I g m ?_ nodebug)
  refine PySem.W.callWith_KW0 (h₀ := X.base) I.ok.mod.kin M.kp hall (thn (kw.run pos pins s σ H _ I had) ?_) star
  rintro ws s2 ⟨zs, G2, I2, rz, lz, q⟩
  rw [hks]
  exact ⟨I2.kIn, run_makeS M F room b (pass σ) I2 rz lz q⟩
end
end MkS

/-! a call of a class method that may raise -/
namespace MkS
open PySem PySem.Spec PyProof.Rows L2 ClX
section
variable {X : Cx} {CX : CXT} {k : Nat} {C p g : Addr} {mc : Value} {fd : FuncData} {ps : List Str} {sp : Sp} {E : L2.St → XK} {m : Str} {pos apos : Pos} {o e : Expr} {es : List Expr} {to : TE} {t : TA} {pl : Sem Bool}
def tCMethS (C : Addr) (sp : Sp) (E : L2.St → XK) (to : TE) (t : TA) : TE := fun σ H Q => to σ H fun x G => x = .ref C ∧ t σ G fun zs G2 => sp (.ref C :: zs) G2 Q (E σ)
/-- K.m(e, ..) -/
theorem pe_cmethS (he : PE X o to) (r : CRead X.K C mc) (c : CMet X.K C mc m p g) (F : FnOk X.prog X.w X.K X.mg X.base CX k g fd ps sp) (room : Room k X.A) (b : Binds X.K fd ps []) (pass : ∀ σ, PassesAt CX X σ (E σ)) (ha : PA X (e :: es) t)
    (one : starEach (e :: es) X.env = (false, eval e X.env) :: starEach es X.env := by rfl) (more : (backTo pos (starEach es X.env)).any (·.1) = false := by rfl)
    (road : eval (.Call (.Attribute o m apos) (e :: es) [] pos) X.env = (do
      let it ← eval o X.env
      standAt apos.atName
      let (fn, self) ← holding [it] (getMethod it m pl)
      callWith pos fn self (backTo pos (starEach (e :: es) X.env)) (backToKw pos (keywordEach [] X.env))) := by rfl) :
    PE X (.Call (.Attribute o m apos) (e :: es) [] pos) (tCMethS C sp E to t) := by
  constructor
  intro pins s σ H Q I had
  refine PySem.W.methodCall_KW (pl := pl) (thn (he.run pins s σ H _ I had) ?_) road
  rintro u s1 ⟨x, G, I1, ru, rfl, q⟩
  cases (show u = Value.ref C from ru)
  refine getmethcm_ok I1 r c ?_
  intro s2 I2
  refine callwith_cm I2 (base_none I1 (Nat.le_refl _)) c.fi (thn (ha.run pos _ s2 σ G _ I2 q) ?_) one more
  rintro us s3 ⟨zs, G2, I3, rz, q2⟩
  refine ⟨⟨pin_at I3, I3.kIn⟩, ?_⟩
  have both : Vals (V.ref C :: zs) (Value.ref C :: us) := .cons rfl rz
  have len : (Value.ref C :: us).length = ps.length := both.length.symm.trans (F.len _ _ _ _ q2)
  have args := b s3 (.ref C :: us) I3.kIn (by rw [List.append_nil]; exact len)
  rw [List.append_nil] at args
  have z : wpAny (model X.prog X.w) X.A (call (.ref s1.heap.objs.size) us) (EP X ((s1.heap.objs.size, PySem.W.methodObj (.ref g) (.ref C)) :: pins) σ Q) X.xe s3 := by
    refine wpAny_call (PySem.W.method_call (pin_at I3) (codeAny_mono (F.run X.A X.stack s3 G2 ⟨.ref C :: us, []⟩ (.ref C :: us) (.ref C :: zs) Q (E σ) room I3.env0 args both q2) ?_))
    intro r s4 told
    match r, told with
    | .error e, told => exact pass σ _ _ _ e s4 I3 told
    | .ok (.ret u), told => exact I3.after told
    | .ok .next, told => exact told.elim
    | .ok .brk, told => exact told.elim
    | .ok .cont, told => exact told.elim
  exact thn z fun _ _ told => unpinE told
end
end MkS

/-! more calls that may raise: a method without arguments, a class in a local name; a def with defaults where an exception is handled -/
namespace MkS
open PySem PySem.Spec PyProof.Rows L2
section
variable {X : Cx} {CX : CXT} {k : Nat} {f C : Addr} {fd : FuncData} {ps : List Str} {sp : Sp} {E : L2.St → XK} {m : Str} {pos apos : Pos} {o : Expr} {ta : TE} {pl : Sem Bool}
/-- o.m() -/
def tMethS0 (C : Addr) (m : Str) (sp : Sp) (E : L2.St → XK) (ta : TE) : TE := fun σ H Q => ta σ H fun x H1 => ∃ a dx fs, x = .ref a ∧ H1 a = some (.ins C dx fs) ∧ fs.lookup m = none ∧ sp [.ref a] H1 Q (E σ)
theorem pe_methS0 (he : PE X o ta) (c : Cls X.K C) (hm : Meth X.K C m f) (F : FnOk X.prog X.w X.K X.mg X.base CX k f fd ps sp) (room : Room k X.A) (b : Binds X.K fd ps []) (pass : ∀ σ, PassesAt CX X σ (E σ))
    (road : eval (.Call (.Attribute o m apos) [] [] pos) X.env = (do
      let it ← eval o X.env
      standAt apos.atName
      let (fn, self) ← holding [it] (getMethod it m pl)
      callWith pos fn self (backTo pos (starEach [] X.env)) (backToKw pos (keywordEach [] X.env))) := by rfl) :
    PE X (.Call (.Attribute o m apos) [] [] pos) (tMethS0 C m sp E ta) := by
  constructor
  intro pins s σ H Q I had
  refine PySem.W.methodCall_KW (pl := pl) (thn (he.run pins s σ H _ I had) ?_) road
  rintro u s1 ⟨x, H1, I1, ru, a, dx, fs, rfl, at_, no, q⟩
  cases (show u = Value.ref a from ru); skip
  refine getmeth_ok I1 at_ c hm no (PySem.W.callWith_K0 (first := [.ref a]) I1.kIn hm.kp ?_)
  exact run_fnS (us := [.ref a]) (vs := [.ref a]) F room b (pass σ) I1 (.cons rfl .nil) q
end
section
variable {X : Cx} {CX : CXT} {k i : Nat} {f C : Addr} {fd : FuncData} {ps ks : List Str} {sp : Sp} {E : L2.St → XK} {x : Str} {p pos : Pos} {kws : List Keyword} {tk : TA} {gb : List Value → List Value → List Value} {gV : List V → List V → List V}
/-- the i-th slot holds the class C: name(k = v, ..), its __init__ may raise -/
def tMakeLS (i : Nat) (C : Addr) (m : Nat) (sp : Sp) (gV : List V → List V → List V) (E : L2.St → XK) (tk : TA) : TE := fun σ H Q => σ[i]? = some (some (.ref C)) ∧ tMakeS C m sp gV E tk σ H Q
theorem pe_makeLS (M : Mk X.K C f) (F : FnOk X.prog X.w X.K X.mg X.base CX k f fd ps sp) (room : Room (k + 1) X.A) (at_ : X.N[i]? = some x) (vis : Vis X.env.scope x) (b : KBn X.K fd ps 1 ks gb gV) (pass : ∀ σ, PassesAt CX X σ (E σ)) (kw : PK X kws tk)
    (hall : (backToKw pos (keywordEach kws X.env)).all (·.1.isSome) = true := by rfl) (hks : (backToKw pos (keywordEach kws X.env)).filterMap (·.1) = ks := by rfl) (d1 : (x == ("__debug__" : Str)) = false := by decide) (d2 : (x == ("__classdict__" : Str)) = false := by decide)
    (star : ((backTo pos (starEach [] X.env)).any (·.1) ||
      (backToKw pos (keywordEach kws X.env)).any (·.1.isNone)) = false := by rfl) :
    PE X (.Call (.Name x p) [] kws pos) (tMakeLS i C ks.length sp gV E tk) := by
  constructor
  rintro pins s σ H Q I ⟨slot, had⟩
  refine wpAny_Call_Name_kw (thn ((pe_var (pos := p) at_ vis d1 d2).run pins s σ H (fun v G => v = .ref C ∧ G = H) I ⟨.ref C, slot, rfl, rfl⟩) ?_)
  rintro u s1 ⟨v, G, I1, rv, rfl, rfl⟩
  cases (show u = Value.ref C from rv)
  refine PySem.W.callWith_KW0 (h₀ := X.base)
    I.ok.mod.kin M.kp hall ?_ star
  refine thn (kw.run pos pins s1 σ G _ I1 had) ?_
  rintro ws s2 ⟨zs, G2, I2, rz, lz, q⟩
  rw [hks]
  exact ⟨I2.kIn, run_makeS M F room b (pass σ) I2 rz lz q⟩
end
end MkS
namespace L2
open PySem PySem.Spec PyProof.Rows
section
variable {P : Program} {w : World} {K : PySem.W.Frag} {mg : Str → Option Value} {base : Heap}
/-- a def with defaults called where an exception is handled, lets none out -/
theorem FunD.okH {x qual : Str} {params : Arguments} {body : List Stmt} {scope : Scope} {dvs : List V} {kws : List (Str × V)} {f : Addr} {fd : FuncData} {N ps : List Str} {k : Nat} {sp : Sp} (F : FunD K x qual params body scope dvs kws f fd) (S : FnScope N ps scope) (len : ∀ vs H Q E, sp vs H Q E → vs.length = ps.length)
    (walk : ∀ (cdv : Value) (A : Around) (outer : List Env) (s : Shared) (H : Hp) (vs : List V) (Q : VK) (E : XK) (p : Addr × Obj), L2H.Hot1 A p → L2H.RoomH k (A.deeper (envOfC qual scope s.heap.objs.size f cdv)) → sp vs H Q E →
      ∃ t, PSs (L2H.cxH CX0 P w K mg base N qual scope f cdv A outer s H E p).nox body t ∧ t { nx := fun _ H' => Q .non H', rt := Q } (start N vs) H) : L2H.FnH P w K mg base CX0 (k + 1) f fd ps sp := by
  obtain ⟨oc, od, dV, kV, doc, pm, an, cdv, ct, osl, rfl, lk, hcd, _, _⟩ := F.ex
  refine L2H.fn_ofH lk hcd S len fun A outer s H vs Q E p hot hr hsp => ?_
  obtain ⟨t, h, q⟩ := walk cdv A outer s H vs Q E p hot hr hsp
  exact ⟨t, h.nox, q⟩
/-- no keyword written: as if called by position with the defaults -/
theorem KBn.binds {fd : FuncData} {ps : List Str} {gb : List Value → List Value → List Value} {gV : List V → List V → List V} {ds : List Value} (b : KBn K fd ps 1 [] gb gV) (h : ∀ u, gb [u] [] = u :: ds) (hl : ps.length = ds.length + 1) : Binds K fd ps ds := by
  intro s us X l
  have e : us.length = 1 := by
    rw [List.length_append] at l
    omega
  match us, e with
  | [u], _ =>
    have z := b.to s [u] [] X rfl rfl
    rw [h u] at z
    exact z
end
end L2
namespace L2
open PySem PySem.Spec PyProof.Rows
theorem ix_kdictK {X : Cx} {K : PySem.W.Frag} {w : World} (h : X.K = K) (hw : X.w = w) : IxR X (rIxD K w) := by
  subst h
  subst hw
  exact ix_kdict
end L2
namespace L2
open PySem PySem.Spec PyProof.Rows
theorem pe_fldK {X : Cx} {K : PySem.W.Frag} {e : Expr} {f : Str} {pos : Pos} {ta : TE} (h : X.K = K) (it : PE X e ta) (hb : attributeBase e f X.env (eval e X.env) = eval e X.env) : PE X (.Attribute e f pos) (tFld K ta f) := by
  subst h
  exact pe_fld it hb
end L2

/-! == and repr of an instance with its own __eq__, __repr__ -/
namespace OwI
open PySem PySem.Spec PyProof.Rows L2
theorem stands {X : Cx} {pins : List (Addr × Obj)} {σ : L2.St} {H : Hp} {s : Shared} {a C dx : Addr} {fs : List (Str × V)} (I : Inv X pins σ H s) (e : H a = some (.ins C dx fs)) : ∃ o od, PySem.W.InstAt s.heap a o C (some od) := by
  obtain ⟨mA, O, _⟩ := ins_get I.hok e
  obtain ⟨od, J, _⟩ := O.look
  exact ⟨_, od, J⟩
/-- x op y, x an instance of the class at C whose def for op is at g, y an instance of the same class -/
def rOwnI (K : PySem.W.Frag) (C : Addr) (sp : Sp) (E : XK) : R2 := fun x y H Q => ∃ a dx fs b dy gs, x = .ref a ∧ y = .ref b ∧ H a = some (.ins C dx fs) ∧ H b = some (.ins C dy gs) ∧ PySem.W.notFirst K C (.ref C) = true ∧ sp [x, y] H Q E
section
variable {X : Cx} {CX : CXT} {C g : Addr} {n : Nat} {sp : Sp} {E : XK}
theorem op_ownI {op : CmpOp} (road : ∀ a b, compareOp op a b = richCompare op a b) (own : PySem.W.findIn X.K (.ref C) (cmpInfo op).2.1 = some (some (.ref g))) (isf : PySem.W.isFn X.K (.ref g) = true) (F : FnR X.prog X.w X.K X.mg X.base CX n g sp)
    (room : Room n X.A) (pass : Passes CX X E) : OpR X (compareOp op) (rOwnI X.K C sp E) := by
  rintro pins s σ H _ _ v u Q I rv ru ⟨a, dx, fs, b, dy, gs, rfl, rfl, ha, hb, nf, had⟩
  cases (show v = Value.ref a from rv)
  cases (show u = Value.ref b from ru)
  obtain ⟨o, od, J⟩ := stands I ha
  obtain ⟨o2, od2, J2⟩ := stands I hb
  obtain ⟨m, fr⟩ := I.fr
  rw [road]
  refine PySem.W.cmp_K (op := op) (tb := .ref C) room.units0 fr I.ok.mod.kin J J2.type nf own isf ?_
  refine wpAny_mono (wpAny_call (run_fnR (us := [.ref a, .ref b]) (vs := [.ref a, .ref b]) F room pass I (.cons rfl (.cons rfl .nil)) had)) ?_ fun _ _ z => z
  rintro w z ⟨y, G, I2, ry, q⟩
  exact SlX.cmpback ry ⟨y, G, I2, ry, q⟩
/-- repr(x), x an instance of the class at C with its own __repr__ at g -/
def rReprI (C : Addr) (sp : Sp) (E : XK) : List V → Hp → VK → Prop := fun xs H Q => ∃ a dx fs, xs = [.ref a] ∧ H a = some (.ins C dx fs) ∧ sp [.ref a] H (fun y G => ∃ t : Str, y = .str t ∧ Q y G) E
theorem call_reprI (own : PySem.W.findIn X.K (.ref C) "__repr__" = some (some (.ref g))) (isf : PySem.W.isFn X.K (.ref g) = true) (F : FnR X.prog X.w X.K X.mg X.base CX n g sp) (room : Room (n + 1) X.A) (pass : Passes CX X E) : CallR X (.builtin "repr") (rReprI C sp E) := by
  rintro pins s σ H _ us Q I rel ⟨a, dx, fs, rfl, ha, had⟩
  obtain ⟨u, rfl, ru⟩ := vals1 rel
  cases (show u = Value.ref a from ru); skip
  obtain ⟨o, od, J⟩ := stands I ha
  obtain ⟨m, fr⟩ := I.fr
  have room1 : Room n X.A.in1 := Room.in1 room
  refine PySem.W.repr_K room1.units0 fr I.ok.mod.kin J own isf ?_
  refine wpAny_mono (wpAny_call (SlX.run_at (us := [.ref a]) (ws := [.ref a]) F room1 I.env0.in1 pass I (.cons rfl .nil) had)) ?_ fun _ _ z => z
  rintro w z ⟨y, G, I2, ry, t, rfl, q⟩
  obtain ⟨tk, rfl⟩ := (show ∃ tk, w = Value.str t tk from ry)
  exact ⟨.str t, G, I2, ⟨tk, rfl⟩, q⟩
end
end OwI

namespace Pv
open PySem L2
/-! ### error classes -/
def veM (M : Addr) : List Value := [.ref M, .type "ValueError", .type "Exception", .type "BaseException", .type "object"]
structure ErrK (K : PySem.W.Frag) (mg : Str → Option Value) (M C : Addr) (x : Str) : Prop where
  g : mg x = some (.ref C)
  k : PySem.W.keepIn K (.ref C) = true
  l : ∃ nm q N bs sn sub ab col dd k0 k1 k2 k3 k5, K.lookup C = some (excClassObj nm q C N bs (veM M) true sn sub ab col dd k0 k1 k2 k3 k5 "ValueError.__new__")
  sa : PySem.W.findIn K (.ref C) "__setattr__" = some (some (.builtin "object.__setattr__"))
  ga : PySem.W.findIn K (.ref C) "__getattribute__" = some (some (.builtin "BaseException.__getattribute__"))
  gg : PySem.W.findIn K (.ref C) "__getattr__" = some none
  ca : PySem.W.findIn K (.ref C) "__class__" = some (some (.builtin "object.__class__"))
structure ErrM (K : PySem.W.Frag) (mg : Str → Option Value) (M : Addr) : Prop where
  g : mg "MendError" = some (.ref M)
  l : ∃ nm q N bs bm sn sub ab col dd k0 k1 k2 k3 k5, K.lookup M = some (excClassObj nm q M N bs bm true sn sub ab col dd k0 k1 k2 k3 k5 "ValueError.__new__")
structure ErrF (K : PySem.W.Frag) (C I : Addr) (qual f : Str) (st : Stmt) : Prop where
  i : PySem.W.findIn K (.ref C) "__init__" = some (some (.ref I))
  t : PySem.W.typeIn K (.ref I) = some (.type "function")
  nf : PySem.W.findIn K (.ref C) f = some none
  fn : ∃ fd, Fun K "__init__" qual st I fd
section
variable {K : PySem.W.Frag} {mg : Str → Option Value} {M C D : Addr} {x : Str}
theorem ErrK.ty (E : ErrK K mg M C x) : PySem.W.typeIn K (.ref C) = some (.type "type") := by
  obtain ⟨nm, q, N, bs, sn, sub, ab, col, dd, k0, k1, k2, k3, k5, h⟩ := E.l
  show (K.lookup C).map (·.cls) = _
  rw [h]
  rfl
theorem ErrM.ty (E : ErrM K mg M) : PySem.W.typeIn K (.ref M) = some (.type "type") := by
  obtain ⟨nm, q, N, bs, bm, sn, sub, ab, col, dd, k0, k1, k2, k3, k5, h⟩ := E.l
  show (K.lookup M).map (·.cls) = _
  rw [h]
  rfl
theorem ErrM.cls (E : ErrM K mg M) : (PySem.W.clsIn K M).isSome = true := by
  obtain ⟨nm, q, N, bs, bm, sn, sub, ab, col, dd, k0, k1, k2, k3, k5, h⟩ := E.l
  unfold PySem.W.clsIn
  rw [h]
  rfl
theorem ErrK.mro (E : ErrK K mg M C x) (v : Value) : PySem.W.mroIn K C v = some ((Value.ref C :: veM M).contains v) := by
  obtain ⟨nm, q, N, bs, sn, sub, ab, col, dd, k0, k1, k2, k3, k5, h⟩ := E.l
  unfold PySem.W.mroIn PySem.W.clsIn
  rw [h]
  rfl
theorem ErrK.cls (E : ErrK K mg M C x) : (PySem.W.clsIn K C).isSome = true := by
  obtain ⟨nm, q, N, bs, sn, sub, ab, col, dd, k0, k1, k2, k3, k5, h⟩ := E.l
  unfold PySem.W.clsIn
  rw [h]
  rfl
theorem ErrK.hd (E : ErrK K mg M C x) : PySem.W.hasDictIn K C = true := by
  obtain ⟨nm, q, N, bs, sn, sub, ab, col, dd, k0, k1, k2, k3, k5, h⟩ := E.l
  unfold PySem.W.hasDictIn PySem.W.clsIn
  rw [h]
  rfl
theorem ErrK.sub (E : ErrK K mg M C x) : PySem.W.subIn K (.ref C) (.type "BaseException") = some true := by
  show PySem.W.mroIn K C _ = _
  rw [E.mro]
  simp [veM]
theorem ErrK.xfc (E : ErrK K mg M C x) : XfC K C := ⟨E.ga, E.gg, E.sub, E.hd⟩
theorem ErrK.oex (E : ErrK K mg M C x) : OexC K C := by
  obtain ⟨nm, q, N, bs, sn, sub, ab, col, dd, k0, k1, k2, k3, k5, h⟩ := E.l
  exact ⟨⟨nm, q, N, bs, veM M, sn, sub, ab, col, dd, k0, k1, k2, k3, k5, h, rfl⟩, E.sa, E.sub, E.ty, E.k⟩
theorem ErrK.exc (E : ErrK K mg M C x) (cn : PySem.W.specialIn K (.builtin "object.__class__") "__get__" = some (some (.builtin "getset_descriptor.__get__"))) (ct : PySem.W.takesIn K (.builtin "object.__class__") = some true) : ExcC K C :=
  ⟨E.ga, E.gg, E.sub, E.hd, E.ca, cn, ct, by rw [E.mro]; simp [veM]⟩
theorem kitCls_ref {t : Value} (h1 : (PySem.W.clsIn K D).isSome = true) (h2 : PySem.W.typeIn K (.ref D) = some (.type "type")) : PySem.W.kitCls K t (.ref D) = PySem.W.subIn K t (.ref D) := by
  show (if ((PySem.W.clsIn K D).isSome && PySem.W.typeIn K (.ref D) == some (.type "type")) = true then PySem.W.subIn K t (.ref D) else none) = _
  rw [h1, h2, if_pos (by simp)]
/-- isinstance against the class itself, its base, ValueError, another class -/
theorem kit_self : PySem.W.kitOne K (.ref C) (.ref C) = some true := by
  unfold PySem.W.kitOne
  rw [if_pos (by simp)]
theorem ErrK.kit_ne {y : Str} (E : ErrK K mg M C x) (F : ErrK K mg M D y) (h : C ≠ D) (hM : M ≠ D) : PySem.W.kitOne K (.ref C) (.ref D) = some false := by
  unfold PySem.W.kitOne
  rw [if_neg (by simp [h])]
  rw [kitCls_ref F.cls F.ty]
  show PySem.W.mroIn K C _ = _
  rw [E.mro]
  have h1 : D ≠ C := fun z => h z.symm
  have h2 : D ≠ M := fun z => hM z.symm
  simp [veM, h1, h2]
theorem ErrK.kit_base (E : ErrK K mg M C x) (F : ErrM K mg M) (h : C ≠ M) : PySem.W.kitOne K (.ref C) (.ref M) = some true := by
  unfold PySem.W.kitOne
  rw [if_neg (by simp [h])]
  rw [kitCls_ref F.cls F.ty]
  show PySem.W.mroIn K C _ = _
  rw [E.mro]
  simp [veM]
theorem ErrK.kit_ve (E : ErrK K mg M C x) : PySem.W.kitOne K (.ref C) (.type "ValueError") = some true := by
  unfold PySem.W.kitOne
  rw [if_neg (by simp)]
  unfold PySem.W.kitCls
  show (if PySem.W.kitMeta "ValueError" = true then PySem.W.mroIn K C (.type "ValueError") else none) = _
  rw [if_pos (by decide +kernel), E.mro]
  simp [veM]
theorem ErrK.exm (E : ErrK K mg M C x) : PySem.W.exmOne K (.ref C) (.ref C) = some true := by
  unfold PySem.W.exmOne
  rw [E.sub, if_pos (by simp)]
  rw [kitCls_ref E.cls E.ty]
  show PySem.W.mroIn K C _ = _
  rw [E.mro]
  simp
theorem ErrK.exm_ne {y : Str} (E : ErrK K mg M C x) (F : ErrK K mg M D y) (h : C ≠ D) (hM : M ≠ D) : PySem.W.exmOne K (.ref C) (.ref D) = some false := by
  unfold PySem.W.exmOne
  rw [F.sub, if_pos (by simp)]
  rw [kitCls_ref F.cls F.ty]
  show PySem.W.mroIn K C _ = _
  rw [E.mro]
  have h1 : D ≠ C := fun z => h z.symm
  have h2 : D ≠ M := fun z => hM z.symm
  simp [veM, h1, h2]
end
def word : Nat → Str
  | 0 => "free" | 1 => "pair" | 2 => "claim" | 3 => "hook" | 4 => "relay" | 5 => "clamp" | 6 => "trail" | _ => "wheel"
def wordsV : List V := [.str "free", .str "pair", .str "claim", .str "hook", .str "relay", .str "clamp", .str "trail", .str "wheel"]
def formsT : List (List Nat × Str) := [([0], "free"), ([1, 0], "pair"), ([1, 1], "claim"), ([1, 2, 1], "hook"), ([1, 2, 2], "relay"), ([1, 2, 1, 2], "clamp"), ([1, 2, 3, 2], "trail"), ([1, 2, 3, 0], "wheel")]
/-- a def with its promise: how it binds, too -/
def Okd (P : Program) (w : World) (K : PySem.W.Frag) (mg : Str → Option Value) (base : Heap) (CX : CXT) (k : Nat) (f : Addr) (ps : List Str) (sp : Sp) : Prop := ∃ fd, FnOk P w K mg base CX k f fd ps sp ∧ Binds K fd ps []
/-- a def called where an exception is handled, with its promise -/
def Okh (P : Program) (w : World) (K : PySem.W.Frag) (mg : Str → Option Value) (base : Heap) (CX : CXT) (k : Nat) (f : Addr) (ps : List Str) (sp : Sp) : Prop := ∃ fd, L2H.FnH P w K mg base CX k f fd ps sp ∧ Binds K fd ps []
/-! ### the text -/
def top (i : Nat) : Stmt := PySem.Challenge.pw_peermend_k12_rules_kept_right.main.body.getD i (.Pass ⟨0, 0, 0, 0⟩)
abbrev s_m_init : Stmt := inClass (top 6) 2
abbrev s_m_hook : Stmt := inClass (top 6) 3
abbrev s_m_relay : Stmt := inClass (top 6) 5
abbrev s_m_clamp : Stmt := inClass (top 6) 7
abbrev s_m_trail : Stmt := inClass (top 6) 9
abbrev s_m_wheel : Stmt := inClass (top 6) 11
abbrev s_m_number : Stmt := inClass (top 6) 13
abbrev s_m_change : Stmt := inClass (top 6) 14
abbrev s_m_choice : Stmt := inClass (top 6) 15
abbrev s_m_copy : Stmt := inClass (top 6) 16
abbrev s_m_numbered : Stmt := inClass (top 6) 17
abbrev s_m_eq : Stmt := inClass (top 6) 18
abbrev s_m_repr : Stmt := inClass (top 6) 19
abbrev s_law_integer : Stmt := top 8
abbrev s_law_cell : Stmt := top 9
abbrev s_law_stream : Stmt := top 10
abbrev s_law_draw : Stmt := top 11
abbrev s_law_names : Stmt := top 12
abbrev s_law_choices : Stmt := top 13
abbrev s_law_good : Stmt := top 14
abbrev s_law_pick_name : Stmt := top 15
abbrev s_law_pick_word : Stmt := top 16
abbrev s_law_called : Stmt := top 17
abbrev s_law_due : Stmt := top 18
abbrev s_law_made : Stmt := top 19
abbrev s_law_changed : Stmt := top 20
abbrev s_law_chosen : Stmt := top 21
abbrev s_law_numbered : Stmt := top 22
abbrev s_law_value : Stmt := top 23
abbrev s_law_kept : Stmt := top 24
abbrev s_law_both : Stmt := top 25
abbrev s_law_constants : Stmt := top 26
abbrev s_law_round : Stmt := top 27
abbrev s_law_every : Stmt := top 28
abbrev s_law : Stmt := top 29
abbrev s_InvalidNumber : Stmt := inClass (top 2) 0
abbrev s_InvalidRules : Stmt := inClass (top 3) 0
structure Ad where
  m_init : Addr
  m_hook : Addr
  m_relay : Addr
  m_clamp : Addr
  m_trail : Addr
  m_wheel : Addr
  m_number : Addr
  m_change : Addr
  m_choice : Addr
  m_copy : Addr
  m_numbered : Addr
  m_eq : Addr
  m_repr : Addr
  law_integer : Addr
  law_cell : Addr
  law_stream : Addr
  law_draw : Addr
  law_names : Addr
  law_choices : Addr
  law_good : Addr
  law_pick_name : Addr
  law_pick_word : Addr
  law_called : Addr
  law_due : Addr
  law_made : Addr
  law_changed : Addr
  law_chosen : Addr
  law_numbered : Addr
  law_value : Addr
  law_kept : Addr
  law_both : Addr
  law_constants : Addr
  law_round : Addr
  law_every : Addr
  law : Addr
  WORDS : Addr
  MendError : Addr
  InvalidNumber : Addr
  InvalidRules : Addr
  i_InvalidNumber : Addr
  i_InvalidRules : Addr
  Rules : Addr
  NAMES : Addr
  p_hook : Addr
  p_relay : Addr
  p_clamp : Addr
  p_trail : Addr
  p_wheel : Addr
  p_number : Addr
  p_numbered : Addr
abbrev N_m_init : List Str := ["self", "hook", "relay", "clamp", "trail", "wheel"]
abbrev P_m_init : List Str := ["self", "hook", "relay", "clamp", "trail", "wheel"]
theorem sc_m_init : FnScope N_m_init P_m_init (defScope s_m_init) := ⟨rfl, rfl, rfl, by decide +kernel, rfl, by decide +kernel, by decide +kernel⟩
abbrev N_m_hook : List Str := ["self"]
abbrev P_m_hook : List Str := ["self"]
theorem sc_m_hook : FnScope N_m_hook P_m_hook (defScope s_m_hook) := ⟨rfl, rfl, rfl, by decide +kernel, rfl, by decide +kernel, by decide +kernel⟩
abbrev N_m_relay : List Str := ["self"]
abbrev P_m_relay : List Str := ["self"]
theorem sc_m_relay : FnScope N_m_relay P_m_relay (defScope s_m_relay) := ⟨rfl, rfl, rfl, by decide +kernel, rfl, by decide +kernel, by decide +kernel⟩
abbrev N_m_clamp : List Str := ["self"]
abbrev P_m_clamp : List Str := ["self"]
theorem sc_m_clamp : FnScope N_m_clamp P_m_clamp (defScope s_m_clamp) := ⟨rfl, rfl, rfl, by decide +kernel, rfl, by decide +kernel, by decide +kernel⟩
abbrev N_m_trail : List Str := ["self"]
abbrev P_m_trail : List Str := ["self"]
theorem sc_m_trail : FnScope N_m_trail P_m_trail (defScope s_m_trail) := ⟨rfl, rfl, rfl, by decide +kernel, rfl, by decide +kernel, by decide +kernel⟩
abbrev N_m_wheel : List Str := ["self"]
abbrev P_m_wheel : List Str := ["self"]
theorem sc_m_wheel : FnScope N_m_wheel P_m_wheel (defScope s_m_wheel) := ⟨rfl, rfl, rfl, by decide +kernel, rfl, by decide +kernel, by decide +kernel⟩
abbrev N_m_number : List Str := ["self", "seconds", "name", "at", "second"]
abbrev P_m_number : List Str := ["self"]
theorem sc_m_number : FnScope N_m_number P_m_number (defScope s_m_number) := ⟨rfl, rfl, rfl, by decide +kernel, rfl, by decide +kernel, by decide +kernel⟩
abbrev N_m_change : List Str := ["self", "name", "choice"]
abbrev P_m_change : List Str := ["self", "name", "choice"]
theorem sc_m_change : FnScope N_m_change P_m_change (defScope s_m_change) := ⟨rfl, rfl, rfl, by decide +kernel, rfl, by decide +kernel, by decide +kernel⟩
abbrev N_m_choice : List Str := ["self", "name"]
abbrev P_m_choice : List Str := ["self", "name"]
theorem sc_m_choice : FnScope N_m_choice P_m_choice (defScope s_m_choice) := ⟨rfl, rfl, rfl, by decide +kernel, rfl, by decide +kernel, by decide +kernel⟩
abbrev N_m_copy : List Str := ["self"]
abbrev P_m_copy : List Str := ["self"]
theorem sc_m_copy : FnScope N_m_copy P_m_copy (defScope s_m_copy) := ⟨rfl, rfl, rfl, by decide +kernel, rfl, by decide +kernel, by decide +kernel⟩
abbrev N_m_numbered : List Str := ["cls", "number", "words", "at", "name"]
abbrev P_m_numbered : List Str := ["cls", "number"]
theorem sc_m_numbered : FnScope N_m_numbered P_m_numbered (defScope s_m_numbered) := ⟨rfl, rfl, rfl, by decide +kernel, rfl, by decide +kernel, by decide +kernel⟩
abbrev N_m_eq : List Str := ["self", "other"]
abbrev P_m_eq : List Str := ["self", "other"]
theorem sc_m_eq : FnScope N_m_eq P_m_eq (defScope s_m_eq) := ⟨rfl, rfl, rfl, by decide +kernel, rfl, by decide +kernel, by decide +kernel⟩
abbrev N_m_repr : List Str := ["self"]
abbrev P_m_repr : List Str := ["self"]
theorem sc_m_repr : FnScope N_m_repr P_m_repr (defScope s_m_repr) := ⟨rfl, rfl, rfl, by decide +kernel, rfl, by decide +kernel, by decide +kernel⟩
abbrev N_law_integer : List Str := ["value"]
abbrev P_law_integer : List Str := ["value"]
theorem sc_law_integer : FnScope N_law_integer P_law_integer (defScope s_law_integer) := ⟨rfl, rfl, rfl, by decide +kernel, rfl, by decide +kernel, by decide +kernel⟩
abbrev N_law_cell : List Str := ["script", "k", "spare", "cell"]
abbrev P_law_cell : List Str := ["script", "k"]
theorem sc_law_cell : FnScope N_law_cell P_law_cell (defScope s_law_cell) := ⟨rfl, rfl, rfl, by decide +kernel, rfl, by decide +kernel, by decide +kernel⟩
abbrev N_law_stream : List Str := ["script", "k", "cell", "rest"]
abbrev P_law_stream : List Str := ["script", "k"]
theorem sc_law_stream : FnScope N_law_stream P_law_stream (defScope s_law_stream) := ⟨rfl, rfl, rfl, by decide +kernel, rfl, by decide +kernel, by decide +kernel⟩
abbrev N_law_draw : List Str := ["stream", "size", "digit", "first", "second"]
abbrev P_law_draw : List Str := ["stream", "size"]
theorem sc_law_draw : FnScope N_law_draw P_law_draw (defScope s_law_draw) := ⟨rfl, rfl, rfl, by decide +kernel, rfl, by decide +kernel, by decide +kernel⟩
abbrev N_law_names : List Str := []
abbrev P_law_names : List Str := []
theorem sc_law_names : FnScope N_law_names P_law_names (defScope s_law_names) := ⟨rfl, rfl, rfl, by decide +kernel, rfl, by decide +kernel, by decide +kernel⟩
abbrev N_law_choices : List Str := ["name"]
abbrev P_law_choices : List Str := ["name"]
theorem sc_law_choices : FnScope N_law_choices P_law_choices (defScope s_law_choices) := ⟨rfl, rfl, rfl, by decide +kernel, rfl, by decide +kernel, by decide +kernel⟩
abbrev N_law_good : List Str := ["name", "word"]
abbrev P_law_good : List Str := ["name", "word"]
theorem sc_law_good : FnScope N_law_good P_law_good (defScope s_law_good) := ⟨rfl, rfl, rfl, by decide +kernel, rfl, by decide +kernel, by decide +kernel⟩
abbrev N_law_pick_name : List Str := ["stream", "strange"]
abbrev P_law_pick_name : List Str := ["stream"]
theorem sc_law_pick_name : FnScope N_law_pick_name P_law_pick_name (defScope s_law_pick_name) := ⟨rfl, rfl, rfl, by decide +kernel, rfl, by decide +kernel, by decide +kernel⟩
abbrev N_law_pick_word : List Str := ["stream", "name", "clean", "every", "wild"]
abbrev P_law_pick_word : List Str := ["stream", "name", "clean"]
theorem sc_law_pick_word : FnScope N_law_pick_word P_law_pick_word (defScope s_law_pick_word) := ⟨rfl, rfl, rfl, by decide +kernel, rfl, by decide +kernel, by decide +kernel⟩
abbrev N_law_called : List Str := ["way", "words"]
abbrev P_law_called : List Str := ["way", "words"]
theorem sc_law_called : FnScope N_law_called P_law_called (defScope s_law_called) := ⟨rfl, rfl, rfl, by decide +kernel, rfl, by decide +kernel, by decide +kernel⟩
abbrev N_law_due : List Str := ["way", "words", "passed", "bits", "k", "name"]
abbrev P_law_due : List Str := ["way", "words"]
theorem sc_law_due : FnScope N_law_due P_law_due (defScope s_law_due) := ⟨rfl, rfl, rfl, by decide +kernel, rfl, by decide +kernel, by decide +kernel⟩
abbrev N_law_made : List Str := ["way", "words", "bad", "held", "e", "right"]
abbrev P_law_made : List Str := ["way", "words", "bad"]
theorem sc_law_made : FnScope N_law_made P_law_made (defScope s_law_made) := ⟨rfl, rfl, rfl, by decide +kernel, rfl, by decide +kernel, by decide +kernel⟩
abbrev N_law_changed : List Str := ["held", "bits", "name", "word", "good", "told", "e", "right"]
abbrev P_law_changed : List Str := ["held", "bits", "name", "word"]
theorem sc_law_changed : FnScope N_law_changed P_law_changed (defScope s_law_changed) := ⟨rfl, rfl, rfl, by decide +kernel, rfl, by decide +kernel, by decide +kernel⟩
abbrev N_law_chosen : List Str := ["held", "bits", "name", "known", "told", "e"]
abbrev P_law_chosen : List Str := ["held", "bits", "name"]
theorem sc_law_chosen : FnScope N_law_chosen P_law_chosen (defScope s_law_chosen) := ⟨rfl, rfl, rfl, by decide +kernel, rfl, by decide +kernel, by decide +kernel⟩
abbrev N_law_numbered : List Str := ["value", "good", "bits", "held", "e", "right", "by"]
abbrev P_law_numbered : List Str := ["value"]
theorem sc_law_numbered : FnScope N_law_numbered P_law_numbered (defScope s_law_numbered) := ⟨rfl, rfl, rfl, by decide +kernel, rfl, by decide +kernel, by decide +kernel⟩
abbrev N_law_value : List Str := ["stream", "way"]
abbrev P_law_value : List Str := ["stream"]
theorem sc_law_value : FnScope N_law_value P_law_value (defScope s_law_value) := ⟨rfl, rfl, rfl, by decide +kernel, rfl, by decide +kernel, by decide +kernel⟩
abbrev N_law_kept : List Str := ["held", "bits", "number", "told", "words", "k", "name", "due", "again", "text"]
abbrev P_law_kept : List Str := ["held", "bits"]
theorem sc_law_kept : FnScope N_law_kept P_law_kept (defScope s_law_kept) := ⟨rfl, rfl, rfl, by decide +kernel, rfl, by decide +kernel, by decide +kernel⟩
abbrev N_law_both : List Str := ["held", "rows", "same", "back", "due"]
abbrev P_law_both : List Str := ["held", "rows"]
theorem sc_law_both : FnScope N_law_both P_law_both (defScope s_law_both) := ⟨rfl, rfl, rfl, by decide +kernel, rfl, by decide +kernel, by decide +kernel⟩
abbrev N_law_constants : List Str := ["names", "k"]
abbrev P_law_constants : List Str := []
theorem sc_law_constants : FnScope N_law_constants P_law_constants (defScope s_law_constants) := ⟨rfl, rfl, rfl, by decide +kernel, rfl, by decide +kernel, by decide +kernel⟩
abbrev N_law_round : List Str := ["stream", "held", "rows", "one", "deed", "value", "right", "made", "bits", "name"]
abbrev P_law_round : List Str := ["stream", "held", "rows"]
theorem sc_law_round : FnScope N_law_round P_law_round (defScope s_law_round) := ⟨rfl, rfl, rfl, by decide +kernel, rfl, by decide +kernel, by decide +kernel⟩
abbrev N_law_every : List Str := ["value", "right", "made", "bits"]
abbrev P_law_every : List Str := []
theorem sc_law_every : FnScope N_law_every P_law_every (defScope s_law_every) := ⟨rfl, rfl, rfl, by decide +kernel, rfl, by decide +kernel, by decide +kernel⟩
abbrev N_law : List Str := ["script", "start", "way", "clean", "every", "turns", "words", "bad", "bits", "right", "made", "held", "rows", "turn", "stream", "look", "name"]
abbrev P_law : List Str := ["script"]
theorem sc_law : FnScope N_law P_law (defScope s_law) := ⟨rfl, rfl, rfl, by decide +kernel, rfl, by decide +kernel, by decide +kernel⟩
abbrev N_InvalidNumber : List Str := ["self", "value"]
abbrev P_InvalidNumber : List Str := ["self", "value"]
theorem sc_InvalidNumber : FnScope N_InvalidNumber P_InvalidNumber (defScope s_InvalidNumber) := ⟨rfl, rfl, rfl, by decide +kernel, rfl, by decide +kernel, by decide +kernel⟩
abbrev N_InvalidRules : List Str := ["self", "name"]
abbrev P_InvalidRules : List Str := ["self", "name"]
theorem sc_InvalidRules : FnScope N_InvalidRules P_InvalidRules (defScope s_InvalidRules) := ⟨rfl, rfl, rfl, by decide +kernel, rfl, by decide +kernel, by decide +kernel⟩
def kwsR : List (Str × V) := [("hook", .str "back"), ("relay", .str "near"), ("clamp", .str "inner"), ("trail", .str "near"), ("wheel", .str "even")]
structure Txt (K : PySem.W.Frag) (mg : Str → Option Value) (A : Ad) : Prop where
  d_m_init : ∃ fd, FunD K "__init__" "Rules.__init__" (defArgs s_m_init) (defBody s_m_init) (defScope s_m_init) [] kwsR A.m_init fd
  d_m_hook : ∃ fd, Fun K "hook" "Rules.hook" s_m_hook A.m_hook fd
  d_m_relay : ∃ fd, Fun K "relay" "Rules.relay" s_m_relay A.m_relay fd
  d_m_clamp : ∃ fd, Fun K "clamp" "Rules.clamp" s_m_clamp A.m_clamp fd
  d_m_trail : ∃ fd, Fun K "trail" "Rules.trail" s_m_trail A.m_trail fd
  d_m_wheel : ∃ fd, Fun K "wheel" "Rules.wheel" s_m_wheel A.m_wheel fd
  d_m_number : ∃ fd, Fun K "number" "Rules.number" s_m_number A.m_number fd
  d_m_change : ∃ fd, Fun K "change" "Rules.change" s_m_change A.m_change fd
  d_m_choice : ∃ fd, Fun K "choice" "Rules.choice" s_m_choice A.m_choice fd
  d_m_copy : ∃ fd, Fun K "copy" "Rules.copy" s_m_copy A.m_copy fd
  d_m_numbered : ∃ fd, Fun K "numbered" "Rules.numbered" s_m_numbered A.m_numbered fd
  d_m_eq : ∃ fd, Fun K "__eq__" "Rules.__eq__" s_m_eq A.m_eq fd
  d_m_repr : ∃ fd, Fun K "__repr__" "Rules.__repr__" s_m_repr A.m_repr fd
  g_law_integer : mg "_law_integer" = some (.ref A.law_integer)
  k_law_integer : PySem.W.keepIn K (.ref A.law_integer) = true
  d_law_integer : ∃ fd, Fun K "_law_integer" "_law_integer" s_law_integer A.law_integer fd
  g_law_cell : mg "_law_cell" = some (.ref A.law_cell)
  k_law_cell : PySem.W.keepIn K (.ref A.law_cell) = true
  d_law_cell : ∃ fd, Fun K "_law_cell" "_law_cell" s_law_cell A.law_cell fd
  g_law_stream : mg "_law_stream" = some (.ref A.law_stream)
  k_law_stream : PySem.W.keepIn K (.ref A.law_stream) = true
  d_law_stream : ∃ fd, Fun K "_law_stream" "_law_stream" s_law_stream A.law_stream fd
  g_law_draw : mg "_law_draw" = some (.ref A.law_draw)
  k_law_draw : PySem.W.keepIn K (.ref A.law_draw) = true
  d_law_draw : ∃ fd, Fun K "_law_draw" "_law_draw" s_law_draw A.law_draw fd
  g_law_names : mg "_law_names" = some (.ref A.law_names)
  k_law_names : PySem.W.keepIn K (.ref A.law_names) = true
  d_law_names : ∃ fd, Fun K "_law_names" "_law_names" s_law_names A.law_names fd
  g_law_choices : mg "_law_choices" = some (.ref A.law_choices)
  k_law_choices : PySem.W.keepIn K (.ref A.law_choices) = true
  d_law_choices : ∃ fd, Fun K "_law_choices" "_law_choices" s_law_choices A.law_choices fd
  g_law_good : mg "_law_good" = some (.ref A.law_good)
  k_law_good : PySem.W.keepIn K (.ref A.law_good) = true
  d_law_good : ∃ fd, Fun K "_law_good" "_law_good" s_law_good A.law_good fd
  g_law_pick_name : mg "_law_pick_name" = some (.ref A.law_pick_name)
  k_law_pick_name : PySem.W.keepIn K (.ref A.law_pick_name) = true
  d_law_pick_name : ∃ fd, Fun K "_law_pick_name" "_law_pick_name" s_law_pick_name A.law_pick_name fd
  g_law_pick_word : mg "_law_pick_word" = some (.ref A.law_pick_word)
  k_law_pick_word : PySem.W.keepIn K (.ref A.law_pick_word) = true
  d_law_pick_word : ∃ fd, Fun K "_law_pick_word" "_law_pick_word" s_law_pick_word A.law_pick_word fd
  g_law_called : mg "_law_called" = some (.ref A.law_called)
  k_law_called : PySem.W.keepIn K (.ref A.law_called) = true
  d_law_called : ∃ fd, Fun K "_law_called" "_law_called" s_law_called A.law_called fd
  g_law_due : mg "_law_due" = some (.ref A.law_due)
  k_law_due : PySem.W.keepIn K (.ref A.law_due) = true
  d_law_due : ∃ fd, Fun K "_law_due" "_law_due" s_law_due A.law_due fd
  g_law_made : mg "_law_made" = some (.ref A.law_made)
  k_law_made : PySem.W.keepIn K (.ref A.law_made) = true
  d_law_made : ∃ fd, Fun K "_law_made" "_law_made" s_law_made A.law_made fd
  g_law_changed : mg "_law_changed" = some (.ref A.law_changed)
  k_law_changed : PySem.W.keepIn K (.ref A.law_changed) = true
  d_law_changed : ∃ fd, Fun K "_law_changed" "_law_changed" s_law_changed A.law_changed fd
  g_law_chosen : mg "_law_chosen" = some (.ref A.law_chosen)
  k_law_chosen : PySem.W.keepIn K (.ref A.law_chosen) = true
  d_law_chosen : ∃ fd, Fun K "_law_chosen" "_law_chosen" s_law_chosen A.law_chosen fd
  g_law_numbered : mg "_law_numbered" = some (.ref A.law_numbered)
  k_law_numbered : PySem.W.keepIn K (.ref A.law_numbered) = true
  d_law_numbered : ∃ fd, Fun K "_law_numbered" "_law_numbered" s_law_numbered A.law_numbered fd
  g_law_value : mg "_law_value" = some (.ref A.law_value)
  k_law_value : PySem.W.keepIn K (.ref A.law_value) = true
  d_law_value : ∃ fd, Fun K "_law_value" "_law_value" s_law_value A.law_value fd
  g_law_kept : mg "_law_kept" = some (.ref A.law_kept)
  k_law_kept : PySem.W.keepIn K (.ref A.law_kept) = true
  d_law_kept : ∃ fd, Fun K "_law_kept" "_law_kept" s_law_kept A.law_kept fd
  g_law_both : mg "_law_both" = some (.ref A.law_both)
  k_law_both : PySem.W.keepIn K (.ref A.law_both) = true
  d_law_both : ∃ fd, Fun K "_law_both" "_law_both" s_law_both A.law_both fd
  g_law_constants : mg "_law_constants" = some (.ref A.law_constants)
  k_law_constants : PySem.W.keepIn K (.ref A.law_constants) = true
  d_law_constants : ∃ fd, Fun K "_law_constants" "_law_constants" s_law_constants A.law_constants fd
  g_law_round : mg "_law_round" = some (.ref A.law_round)
  k_law_round : PySem.W.keepIn K (.ref A.law_round) = true
  d_law_round : ∃ fd, Fun K "_law_round" "_law_round" s_law_round A.law_round fd
  g_law_every : mg "_law_every" = some (.ref A.law_every)
  k_law_every : PySem.W.keepIn K (.ref A.law_every) = true
  d_law_every : ∃ fd, Fun K "_law_every" "_law_every" s_law_every A.law_every fd
  g_law : mg "law" = some (.ref A.law)
  k_law : PySem.W.keepIn K (.ref A.law) = true
  d_law : ∃ fd, Fun K "law" "law" s_law A.law fd
  e_MendError : ErrM K mg A.MendError
  e_InvalidNumber : ErrK K mg A.MendError A.InvalidNumber "InvalidNumber"
  e_InvalidRules : ErrK K mg A.MendError A.InvalidRules "InvalidRules"
  f_InvalidNumber : ErrF K A.InvalidNumber A.i_InvalidNumber "InvalidNumber.__init__" "value" s_InvalidNumber
  f_InvalidRules : ErrF K A.InvalidRules A.i_InvalidRules "InvalidRules.__init__" "name" s_InvalidRules
  g_WORDS : mg "_WORDS" = some (.ref A.WORDS)
  g_Rules : mg "Rules" = some (.ref A.Rules)
  cR : Cls K A.Rules
  mkR : Mk K A.Rules A.m_init
  mt_change : Meth K A.Rules "change" A.m_change
  mt_choice : Meth K A.Rules "choice" A.m_choice
  mt_copy : Meth K A.Rules "copy" A.m_copy
  pp_hook : PropOf K A.Rules "hook" A.p_hook A.m_hook
  pp_relay : PropOf K A.Rules "relay" A.p_relay A.m_relay
  pp_clamp : PropOf K A.Rules "clamp" A.p_clamp A.m_clamp
  pp_trail : PropOf K A.Rules "trail" A.p_trail A.m_trail
  pp_wheel : PropOf K A.Rules "wheel" A.p_wheel A.m_wheel
  pp_number : PropOf K A.Rules "number" A.p_number A.m_number
  nc : NoAttr K A.Rules "_choices"
  rd : ClX.CRead K A.Rules (.type "type")
  cv_NAMES : ClX.CVal K A.Rules (.type "type") "NAMES" (.ref A.NAMES) (.ref A.NAMES)
  tN : ∀ H, SqT K H A.NAMES [.str "hook", .str "relay", .str "clamp", .str "trail", .str "wheel"]
  cv_COUNT : ∃ u, ClX.CVal K A.Rules (.type "type") "COUNT" (.int 32) u
  cm : ClX.CMet K A.Rules (.type "type") "numbered" A.p_numbered A.m_numbered
  o_eq : PySem.W.findIn K (.ref A.Rules) "__eq__" = some (some (.ref A.m_eq)) ∧ PySem.W.isFn K (.ref A.m_eq) = true
  o_nf : PySem.W.notFirst K A.Rules (.ref A.Rules) = true
  o_repr : PySem.W.findIn K (.ref A.Rules) "__repr__" = some (some (.ref A.m_repr)) ∧ PySem.W.isFn K (.ref A.m_repr) = true
  cc : PySem.W.findIn K (.ref A.Rules) "__class__" = some (some (.builtin "object.__class__"))
  co : PySem.W.mroIn K A.Rules (.type "object") = some true
  lN : ∃ o, K.lookup A.NAMES = some o ∧ o.cls = .type "tuple"
  n_int : mg "int" = none
  n_bool : mg "bool" = none
  n_str : mg "str" = none
  n_list : mg "list" = none
  n_tuple : mg "tuple" = none
  n_len : mg "len" = none
  n_range : mg "range" = none
  n_enumerate : mg "enumerate" = none
  n_isinstance : mg "isinstance" = none
  n_sum : mg "sum" = none
  n_repr : mg "repr" = none
  n_ValueError : mg "ValueError" = none
  cn : PySem.W.specialIn K (.builtin "object.__class__") "__get__" = some (some (.builtin "getset_descriptor.__get__"))
  ct : PySem.W.takesIn K (.builtin "object.__class__") = some true
  nd : [A.MendError, A.InvalidNumber, A.InvalidRules].Nodup
end Pv

namespace Pv
open PySem L2
/-- all but what stands at b is as it was -/
def Mut (b : Addr) (H H' : Hp) : Prop := ∀ a o, a ≠ b → H a = some o → H' a = some o
theorem Mut.refl (b : Addr) (H : Hp) : Mut b H H := fun _ _ _ e => e
theorem Mut.trans {b : Addr} {H H1 H2 : Hp} (x : Mut b H H1) (y : Mut b H1 H2) : Mut b H H2 := fun a o n e => y a o n (x a o n e)
theorem Mut.upd {b : Addr} {H H1 : Hp} {o : HO} (x : Mut b H H1) : Mut b H (L2.upd H1 b o) := fun a u n e => by
  rw [upd_ne n]
  exact x a u n e
theorem Mut.new {b p : Addr} {H H1 : Hp} {o : HO} (x : Mut b H H1) (hp : H1 p = none) : Mut b H (L2.upd H1 p o) := fun a u n e => by
  have e1 := x a u n e
  rw [upd_ne (ne_of_none e1 hp)]
  exact e1
theorem Mut.free {b p : Addr} {H H1 : Hp} (x : Mut b H H1) (h : p ≠ b) (hp : H1 p = none) : H p = none := by
  cases e : H p with
  | none => rfl
  | some o =>
    rw [x p o h e] at hp
    cases hp
/-- the bag of the draws -/
def bagL (g f s : Int) : List V := [.int g, .int f, .int s]
structure BagOk (g f s : Int) : Prop where
  g0 : 0 ≤ g
  f0 : 0 ≤ f
  f1 : f < 2147483647
  s0 : 0 ≤ s
  s1 : s < 2147483647
def Bag (H : Hp) (b : Addr) : Prop := ∃ g f s : Int, H b = some (.lst (bagL g f s)) ∧ BagOk g f s
def spBag (K : PySem.W.Frag) : Sp := fun vs H Q _ => ∃ (a : Addr) (ns : List Int), vs = [.ref a] ∧ SqL K H a (ns.map V.int) ∧ ∀ b g f s, H b = none → BagOk g f s → Q (.ref b) (upd H b (.lst (bagL g f s)))
def spTake : Sp := fun vs H Q _ => ∃ (b : Addr) (n : Int), vs = [.ref b, .int n] ∧ 0 < n ∧ n < 1152921504606846976 ∧ Bag H b ∧ ∀ d H', 0 ≤ d → d < n → Bag H' b → Mut b H H' → Q (.int d) H'
/-- ints from 0 to below n -/
def Below (n : Int) (xs : List Int) : Prop := ∀ x ∈ xs, 0 ≤ x ∧ x < n
def ListI (H : Hp) (p : Addr) (xs : List Int) : Prop := H p = some (.lst (xs.map V.int))
def spOrder : Sp := fun vs H Q _ => ∃ (b : Addr) (n : Nat), vs = [.ref b, .int (n : Int)] ∧ n ≤ 64 ∧ Bag H b ∧ ∀ p xs H', H p = none → p ≠ b → xs.length = n → Below n xs → ListI H' p xs → Bag H' b → Mut b H H' → Q (.ref p) H'
def spSize : Sp := fun vs H Q _ => ∃ b : Addr, vs = [.ref b] ∧ Bag H b ∧ ∀ (d : Int) H', 0 ≤ d → d ≤ 64 → Bag H' b → Mut b H H' → Q (.int d) H'
def spEntry : Sp := fun vs H Q _ => ∃ (b : Addr) (n : Nat), vs = [.ref b, .int (n : Int)] ∧ 0 < n ∧ n ≤ 64 ∧ Bag H b ∧ ∀ (d : Int) H', Bag H' b → Mut b H H' → Q (.int d) H'
def spDrawn : Sp := fun vs H Q _ => ∃ (b : Addr) (n : Nat), vs = [.ref b, .int (n : Int)] ∧ n ≤ 64 ∧ Bag H b ∧ ∀ p xs H', H p = none → p ≠ b → xs.length = n → ListI H' p xs → Bag H' b → Mut b H H' → Q (.ref p) H'
theorem Bag.ne {H : Hp} {b p : Addr} (B : Bag H b) (h : H p = none) : p ≠ b := fun e => by
  obtain ⟨g, f, s, hb, _⟩ := B
  rw [e, hb] at h
  cases h
theorem Bag.keep {H H' : Hp} {b : Addr} (B : Bag H b) (h : ∀ o, H b = some o → H' b = some o) : Bag H' b := by
  obtain ⟨g, f, s, hb, ok⟩ := B
  exact ⟨g, f, s, h _ hb, ok⟩
theorem map_erase {α β : Type} (f : α → β) : ∀ (l : List α) (i : Nat), (l.map f).eraseIdx i = (l.eraseIdx i).map f
  | [], _ => rfl
  | _ :: _, 0 => rfl
  | a :: l, i + 1 => by
    show f a :: (l.map f).eraseIdx i = f a :: (l.eraseIdx i).map f
    rw [map_erase f l i]
theorem rgV_map (n : Nat) : rgV 0 (n : Int) = ((List.range n).map fun i : Nat => (i : Int)).map V.int := by
  unfold rgV
  have e : ((n : Int) - 0).toNat = n := by omega
  rw [e, List.map_map]
  refine List.map_congr_left fun i _ => ?_
  show V.int (0 + (i : Int)) = V.int (i : Int)
  rw [Int.zero_add]
theorem below_rg (n : Nat) : Below (n : Int) ((List.range n).map fun i : Nat => (i : Int)) := fun x hx => by
  obtain ⟨i, hi, rfl⟩ := List.mem_map.mp hx
  have := List.mem_range.mp hi
  omega
theorem ListI.sz {K : PySem.W.Frag} {H : Hp} {p : Addr} {xs : List Int} (h : ListI H p xs) : SqL K H p (xs.map V.int) := SqL.of h
theorem ix_map {xs : List Int} {j : Nat} (h : j < xs.length) : (xs.map V.int)[j]? = some (V.int xs[j]) := by
  rw [List.getElem?_map, List.getElem?_eq_getElem h]
  rfl
theorem at_map {xs : List Int} {j : Nat} (h : j < xs.length) : atI (xs.map V.int) (j : Int) = some (V.int xs[j]) := atI_nat (ix_map h)
theorem set_map {xs : List Int} {j : Nat} {v : Int} : (xs.map V.int).set j (V.int v) = (xs.set j v).map V.int := List.map_set.symm
theorem ite_b {b : Bool} {X Y : Prop} (h1 : b = true → X) (h2 : b = false → Y) : if b = true then X else Y := by
  cases b with
  | true => exact h1 rfl
  | false => exact h2 rfl
theorem int_at {ns : List Int} {i : Nat} {y : V} (h : (ns.map V.int)[i]? = some y) : ∃ z, ns[i]? = some z ∧ y = V.int z := by
  rw [List.getElem?_map] at h
  cases e : ns[i]? with
  | none =>
    rw [e] at h
    cases h
  | some z =>
    rw [e] at h
    exact ⟨z, rfl, (Option.some.inj h).symm⟩
end Pv

namespace Pv
open PySem L2 Evl
def nI (xs : List Nat) : List V := xs.map fun x : Nat => V.int (x : Int)
def ListN (H : Hp) (p : Addr) (xs : List Nat) : Prop := H p = some (.lst (nI xs))
theorem nI_len (xs : List Nat) : (nI xs).length = xs.length := List.length_map ..
theorem ListN.sz {K : PySem.W.Frag} {H : Hp} {p : Addr} {xs : List Nat} (h : ListN H p xs) : SqL K H p (nI xs) := SqL.of h
theorem ListN.ex {H H1 : Hp} {a : Addr} {xs : List Nat} (e : Ex H H1) (h : ListN H a xs) : ListN H1 a xs := e a _ h
theorem nat_at {ns : List Nat} {i : Nat} {y : V} (h : (nI ns)[i]? = some y) : i < ns.length ∧ y = V.int ((ns.getD i 0 : Nat) : Int) := by
  unfold nI at h
  rw [List.getElem?_map] at h
  cases e : ns[i]? with
  | none =>
    rw [e] at h
    cases h
  | some z =>
    rw [e] at h
    refine ⟨(List.getElem?_eq_some_iff.mp e).1, ?_⟩
    rw [List.getD_eq_getElem?_getD, e]
    exact (Option.some.inj h).symm
theorem ixN_ {xs : List Nat} {j : Nat} (h : j < xs.length) : (nI xs)[j]? = some (V.int ((xs.getD j 0 : Nat) : Int)) := by
  unfold nI
  rw [List.getElem?_map, List.getD_eq_getElem?_getD, List.getElem?_eq_getElem h]
  rfl
theorem atN {xs : List Nat} {j : Nat} (h : j < xs.length) : atI (nI xs) (j : Int) = some (V.int ((xs.getD j 0 : Nat) : Int)) := atI_nat (ixN_ h)
theorem ex_new {H H1 : Hp} {p : Addr} {o : HO} (e : Ex H H1) (h : H1 p = none) : Ex H (upd H1 p o) := e.trans (Ex.new h)
theorem nI_app {xs : List Nat} {v : Nat} : nI (xs ++ [v]) = nI xs ++ [V.int (v : Int)] := by
  unfold nI
  rw [List.map_append]
  rfl
theorem acc_step {G H' : Hp} {D : Addr} {ls : List Nat} {v : Nat} (hD : G D = none) (e : Ex G H') : Ex G (upd H' D (.lst (nI ls ++ [V.int (v : Int)]))) ∧ ListN (upd H' D (.lst (nI ls ++ [V.int (v : Int)]))) D (ls ++ [v]) := by
  refine ⟨fun b o hb => ?_, ?_⟩
  · rw [upd_ne (ne_of_none hb hD)]
    exact e b o hb
  · show upd H' D _ D = _
    rw [upd_same, nI_app]
theorem take_map_succ {xs : List Nat} {j : Nat} (h : j < xs.length) (f : Nat → Nat) : (xs.take (j + 1)).map f = (xs.take j).map f ++ [f (xs.getD j 0)] := by
  rw [List.take_add_one, List.getElem?_eq_getElem h, List.map_append, List.getD_eq_getElem?_getD, List.getElem?_eq_getElem h]
  rfl
theorem take_succ {xs : List Nat} {j : Nat} (h : j < xs.length) : xs.take (j + 1) = xs.take j ++ [xs.getD j 0] := by
  rw [List.take_add_one, List.getElem?_eq_getElem h, List.getD_eq_getElem?_getD, List.getElem?_eq_getElem h]
  rfl
theorem take_filter_pos {xs : List Nat} {j : Nat} (h : j < xs.length) {q : Nat → Bool} (c : q (xs.getD j 0) = true) : (xs.take (j + 1)).filter q = (xs.take j).filter q ++ [xs.getD j 0] := by
  rw [take_succ h, List.filter_append, List.filter_cons, if_pos c]
  rfl
theorem take_filter_neg {xs : List Nat} {j : Nat} (h : j < xs.length) {q : Nat → Bool} (c : q (xs.getD j 0) = false) : (xs.take (j + 1)).filter q = (xs.take j).filter q := by
  rw [take_succ h, List.filter_append, List.filter_cons, if_neg (by rw [c]; decide)]
  exact List.append_nil _
theorem flat_nI : ∀ xs : List Nat, (nI xs).all flatV = true
  | [] => rfl
  | _ :: xs => flat_nI xs
theorem inV_nI {x : Nat} : ∀ xs : List Nat, inV (V.int (x : Int)) (nI xs) = xs.contains x
  | [] => rfl
  | y :: xs => by
    show (eqV (V.int (y : Int)) (V.int (x : Int)) || inV (V.int (x : Int)) (nI xs)) = _
    rw [inV_nI xs, List.contains_cons]
    congr 1
    show ((y : Int) == (x : Int)) = (x == y)
    rw [Bool.eq_iff_iff, beq_iff_eq, beq_iff_eq]
    omega
theorem eqV_nat {x y : Nat} : eqV (V.int (x : Int)) (V.int (y : Int)) = true ↔ x = y := by
  show ((x : Int) == (y : Int)) = true ↔ _
  rw [beq_iff_eq]
  omega
/-! ### images of any integers -/
def ListI' (H : Hp) (p : Addr) (xs : List Int) : Prop := H p = some (.lst (xs.map V.int))
def badN (xs : List Int) (k : Nat) : Bool := decide (xs.getD k 0 < 0) || decide ((xs.length : Int) ≤ xs.getD k 0)
def firstOf (p : Nat → Bool) (n : Nat) : Option Nat := (List.range n).find? p
theorem firstOf_some {p : Nat → Bool} {n i : Nat} (hi : i < n) (hp : p i = true) (h : ∀ j, j < i → p j = false) : firstOf p n = some i := by
  unfold firstOf
  rw [List.find?_range_eq_some]
  exact ⟨hp, List.mem_range.mpr hi, fun j hj => by rw [h j hj]; rfl⟩
theorem firstOf_none {p : Nat → Bool} {n : Nat} (h : ∀ j, j < n → p j = false) : firstOf p n = none := by
  unfold firstOf
  rw [List.find?_range_eq_none]
  exact fun j hj => by rw [h j hj]; rfl
theorem firstOf_no {p : Nat → Bool} {n : Nat} (h : firstOf p n = none) : ∀ j, j < n → p j = false := by
  unfold firstOf at h
  rw [List.find?_range_eq_none] at h
  intro j hj
  have := h j hj
  simpa using this
theorem firstOf_is {p : Nat → Bool} {n i : Nat} (h : firstOf p n = some i) : i < n ∧ p i = true ∧ ∀ j, j < i → p j = false := by
  unfold firstOf at h
  rw [List.find?_range_eq_some] at h
  exact ⟨List.mem_range.mp h.2.1, h.1, fun j hj => by have := h.2.2 j hj; simpa using this⟩
/-- the first entry that is no record -/
def strayI (xs : List Int) : Option Nat := firstOf (badN xs) xs.length
def spInit (C : Addr) (f : Str) : Sp := fun vs H Q _ => ∃ (a : Addr) (v : V), vs = [.ref a, v] ∧ H a = some (exo a C none) ∧ ∀ dx, H dx = none → dx ≠ a → Q .non (upd (upd H dx (exd dx [(f, v)])) a (exo a C (some dx)))
theorem mkO_go {C : Addr} {f : Str} {v : V} {H1 : Hp} {Q : XK} (k : ∀ d H', Ex H1 H' → H' d = some (.xd [(f, v)]) → Q (.ref C) (some d) H') (e : Addr) (he : H1 e = none) :
    spInit C f (.ref e :: ([v] ++ [])) (upd H1 e (exo e C none)) (fun v H2 => v = .non ∧ ∃ (d : Addr) (fs : List (Str × V)), H2 e = some (exo e C (some d)) ∧ H2 d = some (exd d fs) ∧ H1 d = none ∧ Q (.ref C) (some d) (upd (L2.del H2 e) d (.xd fs))) (fun _ _ _ => False) := by
  refine ⟨e, v, rfl, upd_same, fun dx hdx ne => ⟨rfl, dx, _, upd_same, (by rw [upd_ne ne, upd_same]), ?_, k dx _ ?_ upd_same⟩⟩
  · rw [upd_ne ne] at hdx
    exact hdx
  · rw [upd_ne ne] at hdx
    intro b o hb
    have n1 : b ≠ dx := ne_of_none hb hdx
    have n2 : b ≠ e := ne_of_none hb he
    rw [upd_ne n1, del_ne n2, upd_ne n2, upd_ne n1, upd_ne n2]
    exact hb
theorem units65R {k : Nat} {A : Around} (r : Room k A) : A.units + 65 < cLine := by have := r.un; omega
theorem huH {k : Nat} {A : Around} (r : L2H.RoomH k A) : A.units + 1 < cLine := by have := r.un; omega
theorem units65H {k : Nat} {A : Around} (r : L2H.RoomH k A) : A.units + 65 < cLine := by have := r.un; omega
theorem rd_ex {H H' : Hp} {a : Addr} {u : HO} (e : Ex H H') (h : Rd H a u) : Rd H' a u := h.elim (fun z => .inl (e _ _ z)) fun ⟨o, z⟩ => .inr ⟨o, e _ _ z⟩
theorem sqL_ex {K : PySem.W.Frag} {H H' : Hp} {a : Addr} {xs : List V} (e : Ex H H') (h : SqL K H a xs) : SqL K H' a xs := h.elim (fun z => .inl (rd_ex e z)) .inr
theorem back_none {H H1 : Hp} {p : Addr} (e : Ex H H1) (h : H1 p = none) : H p = none := by
  cases q : H p with
  | none => rfl
  | some o =>
    rw [e p o q] at h
    cases h
/-! ### names and words -/
def nm5 : List Str := ["hook", "relay", "clamp", "trail", "wheel"]
def nms : List Str := ["hook", "relay", "clamp", "trail", "wheel", "", "Hook", "relays", "clamp ", " trail", "whee", "pair", "claim", "free", "number", "choice", "change", "copy", "NAMES", "COUNT", "near", "hook relay"]
def wds : List Str := ["back", "forward", "near", "far", "inner", "outer", "even", "odd", "", "Back", "nearer", "inne", "far ", "hook", "0", "None"]
def two : Str → List Str := fun n => if n = "hook" then ["back", "forward"] else if n = "clamp" then ["inner", "outer"] else if n = "wheel" then ["even", "odd"] else ["near", "far"]
def goodF (n w : Str) : Bool := nm5.contains n && (two n).contains w
def pl (n : Str) : Nat := nm5.idxOf n
def bitF (n w : Str) : Nat := (two n).idxOf w
def wordF (n : Str) (b : Nat) : Str := (two n).getD b ""
theorem inV_str {x : Str} : ∀ xs : List Str, inV (V.str x) (xs.map V.str) = xs.contains x
  | [] => rfl
  | y :: xs => by
    show (eqV (V.str y) (V.str x) || inV (V.str x) (xs.map V.str)) = _
    rw [inV_str xs, List.contains_cons]
    congr 1
    show (y == x) = (x == y)
    rw [Bool.eq_iff_iff, beq_iff_eq, beq_iff_eq]
    exact ⟨Eq.symm, Eq.symm⟩
theorem flat_str : ∀ xs : List Str, (xs.map V.str).all flatV = true
  | [] => rfl
  | _ :: xs => flat_str xs
/-- the written table of the words -/
structure WdK (w : World) (K : PySem.W.Frag) (c : Addr) where
  es : Array DictEntry
  n : Nat
  kd : KDict K w c es n
  no : ∀ z ∈ nms, z ∉ nm5 → PySem.W.nsIn K c z = some none
  yes : ∀ z ∈ nm5, ∃ p : Addr, PySem.W.nsIn K c z = some (some (.ref p)) ∧ ∀ H, SqT K H p ((two z).map V.str)
/-! ### rules -/
/-- a bit for each name -/
structure Bits (bs : List Nat) : Prop where
  len : bs.length = 5
  two : ∀ b ∈ bs, b < 2
/-- rules at a, their choices in the dict at c -/
def Ru (A : Ad) (H : Hp) (a c : Addr) (bs : List Nat) : Prop := ∃ (dx : Addr) (kvs : List (Key × V)), H a = some (.ins A.Rules dx [("_choices", .ref c)]) ∧ H c = some (.dK kvs) ∧ kvs.length ≤ 5 ∧ Bits bs ∧
  ∀ i, i < 5 → valV kvs (Sum.inr (nm5.getD i "")) = some (.str (wordF (nm5.getD i "") (bs.getD i 0)))
theorem Ru.keep {A : Ad} {H H' : Hp} {a c : Addr} {bs : List Nat} (R : Ru A H a c bs) (h1 : ∀ o, H a = some o → H' a = some o) (h2 : ∀ o, H c = some o → H' c = some o) : Ru A H' a c bs := by
  obtain ⟨dx, kvs, ha, hc, r⟩ := R
  exact ⟨dx, kvs, h1 _ ha, h2 _ hc, r⟩
theorem Ru.ex {A : Ad} {H H' : Hp} {a c : Addr} {bs : List Nat} (e : Ex H H') (R : Ru A H a c bs) : Ru A H' a c bs := R.keep (e a) (e c)
theorem Ru.ne {A : Ad} {H : Hp} {a c : Addr} {bs : List Nat} (R : Ru A H a c bs) : a ≠ c := fun e => by
  obtain ⟨dx, kvs, ha, hc, r⟩ := R
  rw [e, hc] at ha
  cases ha
/-- the number of rules -/
def numF (bs : List Nat) : Nat := bs.getD 0 0 * 1 + bs.getD 1 0 * 2 + bs.getD 2 0 * 4 + bs.getD 3 0 * 8 + bs.getD 4 0 * 16
def bitsOf (v : Nat) : List Nat := [v % 2, v / 2 % 2, v / 4 % 2, v / 8 % 2, v / 16 % 2]
theorem Bits.ex5 {bs : List Nat} (h : Bits bs) : ∃ b0 b1 b2 b3 b4 : Nat, bs = [b0, b1, b2, b3, b4] ∧ b0 < 2 ∧ b1 < 2 ∧ b2 < 2 ∧ b3 < 2 ∧ b4 < 2 := by
  obtain ⟨hl, h2⟩ := h
  match bs, hl with
  | [b0, b1, b2, b3, b4], _ => exact ⟨b0, b1, b2, b3, b4, rfl, h2 _ (by simp), h2 _ (by simp), h2 _ (by simp), h2 _ (by simp), h2 _ (by simp)⟩
theorem bits_of (v : Nat) : Bits (bitsOf v) := ⟨rfl, fun b hb => by
  unfold bitsOf at hb
  simp only [List.mem_cons, List.not_mem_nil, or_false] at hb
  omega⟩
theorem bitsOf_num {bs : List Nat} (h : Bits bs) : bitsOf (numF bs) = bs := by
  obtain ⟨b0, b1, b2, b3, b4, rfl, h0, h1, h2, h3, h4⟩ := h.ex5
  show [(b0 * 1 + b1 * 2 + b2 * 4 + b3 * 8 + b4 * 16) % 2, (b0 * 1 + b1 * 2 + b2 * 4 + b3 * 8 + b4 * 16) / 2 % 2, (b0 * 1 + b1 * 2 + b2 * 4 + b3 * 8 + b4 * 16) / 4 % 2, (b0 * 1 + b1 * 2 + b2 * 4 + b3 * 8 + b4 * 16) / 8 % 2, (b0 * 1 + b1 * 2 + b2 * 4 + b3 * 8 + b4 * 16) / 16 % 2] = _
  congr 1
  · omega
  congr 1
  · omega
  congr 1
  · omega
  congr 1
  · omega
  congr 1
  omega
theorem num_lt {bs : List Nat} (h : Bits bs) : numF bs < 32 := by
  obtain ⟨b0, b1, b2, b3, b4, rfl, h0, h1, h2, h3, h4⟩ := h.ex5
  show b0 * 1 + b1 * 2 + b2 * 4 + b3 * 8 + b4 * 16 < 32
  omega
/-! ### what raises -/
def RzR (A : Ad) (n : Str) (H : Hp) (E : XK) : Prop := ∀ d H', Ex H H' → H' d = some (.xd [("name", .str n)]) → E (.ref A.InvalidRules) (some d) H'
def RzN (A : Ad) (v : Int) (H : Hp) (E : XK) : Prop := ∀ d H', Ex H H' → H' d = some (.xd [("value", .int v)]) → E (.ref A.InvalidNumber) (some d) H'
theorem RzR.mono {A : Ad} {n : Str} {H H1 : Hp} {E : XK} (e : Ex H H1) (h : RzR A n H E) : RzR A n H1 E := fun d H' e' hd => h d H' (e.trans e') hd
theorem RzN.mono {A : Ad} {v : Int} {H H1 : Hp} {E : XK} (e : Ex H H1) (h : RzN A v H E) : RzN A v H1 E := fun d H' e' hd => h d H' (e.trans e') hd
theorem raw0 {P : Program} {w : World} {K : PySem.W.Frag} {mg : Str → Option Value} {base : Heap} {CX : CXT} {k : Nat} {f : Addr} {fd : FuncData} {ps : List Str} {sp : Sp} (F : FnOk P w K mg base CX k f fd ps sp) (b : Binds K fd ps []) : FnR P w K mg base CX k f sp := (F.raw b .nil).imp fun vs H Q E h => by
  rw [List.append_nil]
  exact h
/-! ### promises -/
def spCh (A : Ad) : Sp := fun vs H Q E => ∃ (a c dx : Addr) (kvs : List (Key × V)) (n w : Str), vs = [.ref a, .str n, .str w] ∧ n ∈ nms ∧ w ∈ wds ∧ H a = some (.ins A.Rules dx [("_choices", .ref c)]) ∧ H c = some (.dK kvs) ∧ kvs.length < 1000 ∧
  (goodF n w = true → Q .non (upd H c (.dK (putK kvs (Sum.inr n) (.str w))))) ∧ (goodF n w = false → RzR A n H E)
def spChG (A : Ad) : Sp := fun vs H Q _ => ∃ (a c dx : Addr) (kvs : List (Key × V)) (n w : Str), vs = [.ref a, .str n, .str w] ∧ n ∈ nms ∧ w ∈ wds ∧ H a = some (.ins A.Rules dx [("_choices", .ref c)]) ∧ H c = some (.dK kvs) ∧ kvs.length < 1000 ∧
  goodF n w = true ∧ Q .non (upd H c (.dK (putK kvs (Sum.inr n) (.str w))))
/-- the first name with a word that is none of its two, among the names from the k-th on -/
def badF (ws : List Str) : Option Nat := (List.range 5).find? fun i => !goodF (nm5.getD i "") (ws.getD i "")
def bitsF (ws : List Str) : List Nat := (List.range 5).map fun i => bitF (nm5.getD i "") (ws.getD i "")
def spIn (A : Ad) : Sp := fun vs H Q E => ∃ (a dx : Addr) (w0 w1 w2 w3 w4 : Str), vs = [.ref a, .str w0, .str w1, .str w2, .str w3, .str w4] ∧ (∀ w ∈ [w0, w1, w2, w3, w4], w ∈ wds) ∧ H a = some (.ins A.Rules dx []) ∧
  (badF [w0, w1, w2, w3, w4] = none → ∀ c H', H c = none → c ≠ a → (∀ b o, b ≠ a → H b = some o → H' b = some o) → Ru A H' a c (bitsF [w0, w1, w2, w3, w4]) → Q .non H') ∧
  (∀ i, badF [w0, w1, w2, w3, w4] = some i → ∀ d H', (∀ b o, b ≠ a → H b = some o → H' b = some o) → H' d = some (.xd [("name", .str (nm5.getD i ""))]) → E (.ref A.InvalidRules) (some d) H')
def spInG (A : Ad) : Sp := fun vs H Q _ => ∃ (a dx : Addr) (w0 w1 w2 w3 w4 : Str), vs = [.ref a, .str w0, .str w1, .str w2, .str w3, .str w4] ∧ (∀ w ∈ [w0, w1, w2, w3, w4], w ∈ wds) ∧ H a = some (.ins A.Rules dx []) ∧ badF [w0, w1, w2, w3, w4] = none ∧
  ∀ c H', H c = none → c ≠ a → (∀ b o, b ≠ a → H b = some o → H' b = some o) → Ru A H' a c (bitsF [w0, w1, w2, w3, w4]) → Q .non H'
def spGet (A : Ad) (i : Nat) : Sp := fun vs H Q _ => ∃ (a c : Addr) (bs : List Nat), vs = [.ref a] ∧ Ru A H a c bs ∧ Q (.str (wordF (nm5.getD i "") (bs.getD i 0))) H
def spNum (A : Ad) : Sp := fun vs H Q _ => ∃ (a c : Addr) (bs : List Nat), vs = [.ref a] ∧ Ru A H a c bs ∧ ∀ H', Ex H H' → Q (.int (numF bs : Nat)) H'
def spCo (A : Ad) : Sp := fun vs H Q E => ∃ (a c : Addr) (bs : List Nat) (n : Str), vs = [.ref a, .str n] ∧ n ∈ nms ∧ Ru A H a c bs ∧ (n ∈ nm5 → Q (.str (wordF n (bs.getD (pl n) 0))) H) ∧ (n ∉ nm5 → RzR A n H E)
/-- rules made anew -/
def New (A : Ad) (H : Hp) (bs : List Nat) (Q : VK) : Prop := ∀ a c H', H a = none → H c = none → Ex H H' → Ru A H' a c bs → Q (.ref a) H'
theorem New.mono {A : Ad} {H H1 : Hp} {bs : List Nat} {Q : VK} (e : Ex H H1) (h : New A H bs Q) : New A H1 bs Q := fun a c H' ha hc e1 r => h a c H' (back_none e ha) (back_none e hc) (e.trans e1) r
def spNd (A : Ad) : Sp := fun vs H Q E => ∃ v : Int, vs = [.ref A.Rules, .int v] ∧ (0 ≤ v → v < 32 → New A H (bitsOf v.toNat) Q) ∧ (¬ (0 ≤ v ∧ v < 32) → RzN A v H E)
def spCp (A : Ad) : Sp := fun vs H Q _ => ∃ (a c : Addr) (bs : List Nat), vs = [.ref a] ∧ Ru A H a c bs ∧ New A H bs Q
def spEq (A : Ad) : Sp := fun vs H Q _ => ∃ (a c b d : Addr) (bs cs : List Nat), vs = [.ref a, .ref b] ∧ Ru A H a c bs ∧ Ru A H b d cs ∧ ∀ H', Ex H H' → Q (.bl (decide (bs = cs))) H'
def repF (n : Nat) : Str := ("Rules(" : Str) ++ toString (n : Int) ++ (")" : Str)
def spRp (A : Ad) : Sp := fun vs H Q _ => ∃ (a c : Addr) (bs : List Nat), vs = [.ref a] ∧ Ru A H a c bs ∧ ∀ H', Ex H H' → Q (.str (repF (numF bs))) H'
/-! ### the law's own -/
def spInt : Sp := fun vs H Q _ => ∃ i : Int, vs = [.int i] ∧ Q (.bl true) H
def spCell (K : PySem.W.Frag) : Sp := fun vs H Q _ => ∃ (a : Addr) (ns : List Int) (k : Nat), vs = [.ref a, .int (k : Int)] ∧ k ≤ 100 ∧ SqL K H a (ns.map V.int) ∧ ∀ z : Int, Q (.int z) H
/-- the stream of the draws -/
def Strm (H : Hp) (b : Addr) : Prop := ∃ r s t : Int, H b = some (.lst [.int r, .int s, .int t]) ∧ 0 ≤ r ∧ 0 ≤ s ∧ s < 2147483647 ∧ 0 ≤ t
theorem Strm.ne {H : Hp} {b p : Addr} (B : Strm H b) (h : H p = none) : p ≠ b := fun e => by
  obtain ⟨r, s, t, hb, _⟩ := B
  rw [e, hb] at h
  cases h
theorem Strm.keep {H H' : Hp} {b : Addr} (B : Strm H b) (h1 : ∀ o, H b = some o → H' b = some o) : Strm H' b := by
  obtain ⟨r, s, t, hb, q⟩ := B
  exact ⟨r, s, t, h1 _ hb, q⟩
theorem Strm.ex {H H' : Hp} {b : Addr} (e : Ex H H') (B : Strm H b) : Strm H' b := B.keep (e b)
theorem Mut.of_ex {b : Addr} {H H1 : Hp} (e : Ex H H1) : Mut b H H1 := fun a o _ h => e a o h
def spStrm (K : PySem.W.Frag) : Sp := fun vs H Q _ => ∃ (a : Addr) (ns : List Int) (k : Nat), vs = [.ref a, .int (k : Int)] ∧ k ≤ 100 ∧ SqL K H a (ns.map V.int) ∧ ∀ b H', H b = none → Ex H H' → Strm H' b → Q (.ref b) H'
def spDraw : Sp := fun vs H Q _ => ∃ (b : Addr) (n : Int), vs = [.ref b, .int n] ∧ 0 < n ∧ n < 1152921504606846976 ∧ Strm H b ∧ ∀ d H', 0 ≤ d → d < n → Strm H' b → Mut b H H' → Q (.int d) H'
def ListS (H : Hp) (p : Addr) (xs : List Str) : Prop := H p = some (.lst (xs.map V.str))
theorem ListS.ex {H H1 : Hp} {a : Addr} {xs : List Str} (e : Ex H H1) (h : ListS H a xs) : ListS H1 a xs := e a _ h
theorem ListS.sz {K : PySem.W.Frag} {H : Hp} {p : Addr} {xs : List Str} (h : ListS H p xs) : SqL K H p (xs.map V.str) := SqL.of h
def spNames : Sp := fun vs H Q _ => vs = [] ∧ ∀ p H', H p = none → Ex H H' → ListS H' p nm5 → Q (.ref p) H'
def spTwo : Sp := fun vs H Q _ => ∃ n : Str, vs = [.str n] ∧ ∀ p H', H p = none → Ex H H' → ListS H' p (two n) → Q (.ref p) H'
def spGood : Sp := fun vs H Q _ => ∃ n w : Str, vs = [.str n, .str w] ∧ ∀ H', Ex H H' → Q (.bl (goodF n w)) H'
def spPN : Sp := fun vs H Q _ => ∃ b : Addr, vs = [.ref b] ∧ Strm H b ∧ ∀ (n : Str) H', n ∈ nms → Strm H' b → Mut b H H' → Q (.str n) H'
def spPW : Sp := fun vs H Q _ => ∃ (b : Addr) (n : Str) (cl : Bool), vs = [.ref b, .str n, .bl cl] ∧ Strm H b ∧ ∀ (w : Str) H', w ∈ wds → Strm H' b → Mut b H H' → Q (.str w) H'
/-- the places that are passed -/
def pasF (way : Nat) : List Nat := [[], [0], [1], [2], [3], [4], [0, 1, 2, 3, 4], [0, 3], [0, 1, 2, 3, 4]].getD way []
/-- the words with which __init__ is called -/
def callF (way : Nat) (ws : List Str) : List Str := (List.range 5).map fun i => if (pasF way).contains i then ws.getD i "" else wordF (nm5.getD i "") 0
def dueB (way : Nat) (ws : List Str) : Option Nat := (pasF way).find? fun i => !goodF (nm5.getD i "") (ws.getD i "")
def dueF (way : Nat) (ws : List Str) : List Nat := (List.range 5).map fun i => if (pasF way).contains i then bitF (nm5.getD i "") (ws.getD i "") else 0
def Words (H : Hp) (p : Addr) (ws : List Str) : Prop := ListS H p ws ∧ ws.length = 5 ∧ ∀ w ∈ ws, w ∈ wds
theorem Words.ex {H H1 : Hp} {a : Addr} {xs : List Str} (e : Ex H H1) (h : Words H a xs) : Words H1 a xs := ⟨h.1.ex e, h.2⟩
def spCalled (A : Ad) : Sp := fun vs H Q E => ∃ (way : Nat) (p : Addr) (ws : List Str), vs = [.int (way : Int), .ref p] ∧ way < 9 ∧ Words H p ws ∧ (dueB way ws = none → New A H (dueF way ws) Q) ∧ (∀ i, dueB way ws = some i → RzR A (nm5.getD i "") H E)
def badV (o : Option Nat) : V := match o with
  | none => .non
  | some i => .str (nm5.getD i "")
def zero5 : List Nat := [0, 0, 0, 0, 0]
def dueL (way : Nat) (ws : List Str) : List Nat := if dueB way ws = none then dueF way ws else zero5
def spDue : Sp := fun vs H Q _ => ∃ (way : Nat) (p : Addr) (ws : List Str), vs = [.int (way : Int), .ref p] ∧ way < 9 ∧ Words H p ws ∧ ∀ q r H', H q = none → H r = none → Ex H H' → H' q = some (.lst [badV (dueB way ws), .ref r]) → ListN H' r (dueL way ws) → Q (.ref q) H'
def spMade (A : Ad) : Sp := fun vs H Q _ => ∃ (way : Nat) (p : Addr) (ws : List Str), vs = [.int (way : Int), .ref p, badV (dueB way ws)] ∧ way < 9 ∧ Words H p ws ∧ ∀ q a c H', H q = none → H a = none → H c = none → Ex H H' → H' q = some (.lst [.bl true, .ref a]) → Ru A H' a c (dueL way ws) → Q (.ref q) H'
def spChg (A : Ad) : Sp := fun vs H Q _ => ∃ (a c p : Addr) (bs : List Nat) (n w : Str), vs = [.ref a, .ref p, .str n, .str w] ∧ n ∈ nms ∧ w ∈ wds ∧ Ru A H a c bs ∧ ListN H p bs ∧ ∀ (cs : List Nat) H', (∀ b o, b ≠ c → b ≠ p → H b = some o → H' b = some o) → Ru A H' a c cs → ListN H' p cs → Q (.bl true) H'
def spChn (A : Ad) : Sp := fun vs H Q _ => ∃ (a c p : Addr) (bs : List Nat) (n : Str), vs = [.ref a, .ref p, .str n] ∧ n ∈ nms ∧ Ru A H a c bs ∧ ListN H p bs ∧ ∀ H', Ex H H' → Q (.bl true) H'
def ndL (v : Int) : List Nat := if 0 ≤ v ∧ v < 32 then bitsOf v.toNat else zero5
def spNmd (A : Ad) : Sp := fun vs H Q _ => ∃ v : Int, vs = [.int v] ∧ v.natAbs < 2 ^ 128 ∧ ∀ q a c p H', H q = none → H a = none → H c = none → H p = none → Ex H H' → H' q = some (.lst [.bl true, .ref a, .ref p]) → Ru A H' a c (ndL v) → (0 ≤ v ∧ v < 32 → ListN H' p (ndL v)) → (¬ (0 ≤ v ∧ v < 32) → ListN H' p (ndL v)) → Q (.ref q) H'
def spVal : Sp := fun vs H Q _ => ∃ b : Addr, vs = [.ref b] ∧ Strm H b ∧ ∀ (v : Int) H', v.natAbs < 2 ^ 128 → Strm H' b → Mut b H H' → Q (.int v) H'
def spKept (A : Ad) : Sp := fun vs H Q _ => ∃ (a c p : Addr) (bs : List Nat), vs = [.ref a, .ref p] ∧ Ru A H a c bs ∧ ListN H p bs ∧ ∀ H', Ex H H' → Q (.bl true) H'
/-- two rules in a list at h, their bits in a list at r -/
structure Two (A : Ad) (H : Hp) (h r a0 a1 c0 c1 p0 p1 : Addr) (b0 b1 : List Nat) : Prop where
  hh : H h = some (.lst [.ref a0, .ref a1])
  hr : H r = some (.lst [.ref p0, .ref p1])
  r0 : Ru A H a0 c0 b0
  r1 : Ru A H a1 c1 b1
  l0 : ListN H p0 b0
  l1 : ListN H p1 b1
  nc : c0 ≠ c1
  np : p0 ≠ p1
theorem Two.ex {A : Ad} {H H' : Hp} {h r a0 a1 c0 c1 p0 p1 : Addr} {b0 b1 : List Nat} (e : Ex H H') (t : Two A H h r a0 a1 c0 c1 p0 p1 b0 b1) : Two A H' h r a0 a1 c0 c1 p0 p1 b0 b1 :=
  ⟨e _ _ t.hh, e _ _ t.hr, t.r0.ex e, t.r1.ex e, e _ _ t.l0, e _ _ t.l1, t.nc, t.np⟩
def spBoth (A : Ad) : Sp := fun vs H Q _ => ∃ (h r a0 a1 c0 c1 p0 p1 : Addr) (b0 b1 : List Nat), vs = [.ref h, .ref r] ∧ Two A H h r a0 a1 c0 c1 p0 p1 b0 b1 ∧ ∀ H', Ex H H' → Q (.bl true) H'
def spCon : Sp := fun vs H Q _ => vs = [] ∧ ∀ H', Ex H H' → Q (.bl true) H'
/-- what stood, but for these -/
def But (xs : List Addr) (H H' : Hp) : Prop := ∀ b o, b ∉ xs → H b = some o → H' b = some o
def spRound (A : Ad) : Sp := fun vs H Q _ => ∃ (s h r a0 a1 c0 c1 p0 p1 : Addr) (b0 b1 : List Nat), vs = [.ref s, .ref h, .ref r] ∧ Strm H s ∧ Two A H h r a0 a1 c0 c1 p0 p1 b0 b1 ∧
  ∀ a0' a1' c0' c1' p0' p1' b0' b1' H', But [s, h, r, c0, c1, p0, p1] H H' → Two A H' h r a0' a1' c0' c1' p0' p1' b0' b1' →
    (∀ x ∈ [c0', c1', p0', p1'], H x = none ∨ x ∈ [c0, c1, p0, p1]) → Q (.bl true) H'

end Pv

namespace Pv
open PySem L2 Evl
theorem tup2s {K : PySem.W.Frag} {c : Addr} {od : Option Addr} {n : Nat} {sl : Array (Option Value)} {x y : Str} {s t : Tok} (l : List.lookup c K = some ⟨.type "tuple", od, .seq #[.str x s, .str y t] n, sl⟩) (H : Hp) : SqT K H c [.str x, .str y] :=
  Or.inr ⟨_, _, _, l, rfl, rfl, (by show 2 ≤ sizeLine; decide), .cons ⟨_, rfl⟩ (.cons ⟨_, rfl⟩ .nil)⟩
theorem tup5s {K : PySem.W.Frag} {c : Addr} {od : Option Addr} {n : Nat} {sl : Array (Option Value)} {x0 x1 x2 x3 x4 : Str} {t0 t1 t2 t3 t4 : Tok} (l : List.lookup c K = some ⟨.type "tuple", od, .seq #[.str x0 t0, .str x1 t1, .str x2 t2, .str x3 t3, .str x4 t4] n, sl⟩) (H : Hp) : SqT K H c [.str x0, .str x1, .str x2, .str x3, .str x4] :=
  Or.inr ⟨_, _, _, l, rfl, rfl, (by show 5 ≤ sizeLine; decide), .cons ⟨_, rfl⟩ (.cons ⟨_, rfl⟩ (.cons ⟨_, rfl⟩ (.cons ⟨_, rfl⟩ (.cons ⟨_, rfl⟩ .nil))))⟩
def words_mk12 {w : World} {K : PySem.W.Frag} {c k0 k1 k2 k3 k4 : Addr} {t0 t1 t2 t3 t4 x0 y0 x1 y1 x2 y2 x3 y3 x4 y4 : Tok} {ep n0 n1 n2 n3 n4 : Nat} {od0 od1 od2 od3 od4 : Option Addr} {sl0 sl1 sl2 sl3 sl4 : Array (Option Value)}
    (sm : (c == sysModules) = false) (l : List.lookup c K = some ⟨.type "dict", none, .dict #[⟨PyData.keyHash w.params "hook", .str "hook" t0, .ref k0⟩, ⟨PyData.keyHash w.params "relay", .str "relay" t1, .ref k1⟩, ⟨PyData.keyHash w.params "clamp", .str "clamp" t2, .ref k2⟩, ⟨PyData.keyHash w.params "trail", .str "trail" t3, .ref k3⟩, ⟨PyData.keyHash w.params "wheel", .str "wheel" t4, .ref k4⟩] ep, #[]⟩)
    (f0 : List.lookup k0 K = some ⟨.type "tuple", od0, .seq #[.str "back" x0, .str "forward" y0] n0, sl0⟩)
    (f1 : List.lookup k1 K = some ⟨.type "tuple", od1, .seq #[.str "near" x1, .str "far" y1] n1, sl1⟩)
    (f2 : List.lookup k2 K = some ⟨.type "tuple", od2, .seq #[.str "inner" x2, .str "outer" y2] n2, sl2⟩)
    (f3 : List.lookup k3 K = some ⟨.type "tuple", od3, .seq #[.str "near" x3, .str "far" y3] n3, sl3⟩)
    (f4 : List.lookup k4 K = some ⟨.type "tuple", od4, .seq #[.str "even" x4, .str "odd" y4] n4, sl4⟩)
    : WdK w K c where
  es := #[⟨PyData.keyHash w.params "hook", .str "hook" t0, .ref k0⟩, ⟨PyData.keyHash w.params "relay", .str "relay" t1, .ref k1⟩, ⟨PyData.keyHash w.params "clamp", .str "clamp" t2, .ref k2⟩, ⟨PyData.keyHash w.params "trail", .str "trail" t3, .ref k3⟩, ⟨PyData.keyHash w.params "wheel", .str "wheel" t4, .ref k4⟩]
  n := ep
  kd := ⟨l, ⟨⟨_, _, rfl, rfl⟩, ⟨_, _, rfl, rfl⟩, ⟨_, _, rfl, rfl⟩, ⟨_, _, rfl, rfl⟩, ⟨_, _, rfl, rfl⟩, trivial⟩, sm⟩
  no := fun z hz h3 => by
    unfold nms at hz
    unfold nm5 at h3
    simp only [List.mem_cons, List.not_mem_nil, or_false, not_or] at hz h3
    unfold PySem.W.nsIn
    rw [show K.lookup c = _ from l]
    rcases hz with rfl | rfl | rfl | rfl | rfl | rfl | rfl | rfl | rfl | rfl | rfl | rfl | rfl | rfl | rfl | rfl | rfl | rfl | rfl | rfl | rfl | rfl
    · exact absurd rfl h3.1
    · exact absurd rfl h3.2.1
    · exact absurd rfl h3.2.2.1
    · exact absurd rfl h3.2.2.2.1
    · exact absurd rfl h3.2.2.2.2
    all_goals rfl
  yes := fun z hz => by
    unfold nm5 at hz
    simp only [List.mem_cons, List.not_mem_nil, or_false] at hz
    rcases hz with rfl | rfl | rfl | rfl | rfl
    · refine ⟨k0, ?_, tup2s f0⟩
      unfold PySem.W.nsIn
      rw [show K.lookup c = _ from l]
      rfl
    · refine ⟨k1, ?_, tup2s f1⟩
      unfold PySem.W.nsIn
      rw [show K.lookup c = _ from l]
      rfl
    · refine ⟨k2, ?_, tup2s f2⟩
      unfold PySem.W.nsIn
      rw [show K.lookup c = _ from l]
      rfl
    · refine ⟨k3, ?_, tup2s f3⟩
      unfold PySem.W.nsIn
      rw [show K.lookup c = _ from l]
      rfl
    · refine ⟨k4, ?_, tup2s f4⟩
      unfold PySem.W.nsIn
      rw [show K.lookup c = _ from l]
      rfl
end Pv

namespace Pv
open PySem L2 Evl
local macro_rules | `(tactic| walk_at "r1") => `(tactic| first
  | refine ⟨_, rfl, ?_⟩
  | refine ⟨rfl, ?_⟩
  | refine ⟨_, _, rfl, rfl, (show (_ : Prop) from by first | decide | omega | assumption | exact Or.inr ⟨by decide, by decide⟩ | exact Or.inl ⟨by omega, by omega⟩ | exact ⟨by decide, by decide, by decide⟩ | exact ⟨by decide, by decide⟩ | exact wide_div (b := 60) (by omega) (by omega) (by decide) (by decide)), ?_⟩
  | refine ⟨_, _, rfl, rfl, ?_⟩
  | refine ⟨_, _, _, _, rfl, rfl, (show (_ : Prop) from by first | exact SqL.of (by assumption) | exact SqL.of upd_same | assumption | exact upd_same), rfl, ?_⟩
  | refine Or.inl ⟨_, rfl, ?_⟩)
local macro_rules | `(tactic| walk_at "ex") => `(tactic| first | exact Ex.refl _ | assumption | (refine ex_new ?_ (by assumption); walk_at "ex"))
local macro_rules | `(tactic| walk_at "r") => `(tactic| repeat (walk_at "r1"))

section
variable {P : Program} {w : World} {K : PySem.W.Frag} {mg : Str → Option Value} {base : Heap} {A : Ad}
theorem ok_InvalidNumber (T : Txt K mg A)   : Okd P w K mg base CX0 1 A.i_InvalidNumber P_InvalidNumber (spInit A.InvalidNumber "value") := by
  obtain ⟨fd, F⟩ := T.f_InvalidNumber.fn

  refine ⟨fd, F.ok sc_InvalidNumber (fun vs H Q E h => ?_) (fun cdv A' outer s H vs Q E hr h => ?_), F.binds fun _ _ _ _ _ _ us hl => match us, hl with | [_, _], _ => rfl⟩
  · obtain ⟨a, v, rfl, _⟩ := h
    rfl
  · obtain ⟨a, v, rfl, ha, k⟩ := h
    refine ⟨_, (pss_one (ps_ost (pv 0) (pv 1))), ?_⟩
    exact ⟨_, rfl, _, rfl, a, A.InvalidNumber, rfl, T.e_InvalidNumber.oex, T.f_InvalidNumber.nf, Or.inl ⟨ha, fun dx hdx ne => k dx hdx ne⟩⟩


theorem ok_InvalidRules (T : Txt K mg A)   : Okd P w K mg base CX0 1 A.i_InvalidRules P_InvalidRules (spInit A.InvalidRules "name") := by
  obtain ⟨fd, F⟩ := T.f_InvalidRules.fn

  refine ⟨fd, F.ok sc_InvalidRules (fun vs H Q E h => ?_) (fun cdv A' outer s H vs Q E hr h => ?_), F.binds fun _ _ _ _ _ _ us hl => match us, hl with | [_, _], _ => rfl⟩
  · obtain ⟨a, v, rfl, _⟩ := h
    rfl
  · obtain ⟨a, v, rfl, ha, k⟩ := h
    refine ⟨_, (pss_one (ps_ost (pv 0) (pv 1))), ?_⟩
    exact ⟨_, rfl, _, rfl, a, A.InvalidRules, rfl, T.e_InvalidRules.oex, T.f_InvalidRules.nf, Or.inl ⟨ha, fun dx hdx ne => k dx hdx ne⟩⟩

end

section
variable {P : Program} {w : World} {K : PySem.W.Frag} {mg : Str → Option Value} {base : Heap} {A : Ad}
theorem good_in {n w : Str} (h : n ∈ nm5) : goodF n w = (two n).contains w := by
  unfold goodF
  rw [List.contains_iff_mem.mpr h, Bool.true_and]
theorem good_out {n w : Str} (h : n ∉ nm5) : goodF n w = false := by
  unfold goodF
  rw [show nm5.contains n = false from by rw [Bool.eq_false_iff]; exact fun z => h (List.contains_iff_mem.mp z), Bool.false_and]
theorem nm5_nms {n : Str} (h : n ∈ nm5) : n ∈ nms := by
  unfold nm5 at h
  unfold nms
  simp only [List.mem_cons, List.not_mem_nil, or_false] at h ⊢
  rcases h with h | h | h | h | h
  · exact .inl h
  · exact .inr (.inl h)
  · exact .inr (.inr (.inl h))
  · exact .inr (.inr (.inr (.inl h)))
  · exact .inr (.inr (.inr (.inr (.inl h))))
theorem ok_m_change (T : Txt K mg A) (hW : WdK w K A.WORDS) (g_InvalidRules : Okd P w K mg base CX0 1 A.i_InvalidRules P_InvalidRules (spInit A.InvalidRules "name")) : Okd P w K mg base (L2N.CX P w) 3 A.m_change P_m_change (spCh A) := by
  obtain ⟨fd, F⟩ := T.d_m_change
  obtain ⟨fd_InvalidRules, G_InvalidRules, b_InvalidRules⟩ := g_InvalidRules
  refine ⟨fd, F.okN sc_m_change (fun vs H Q E h => ?_) (fun cdv A' outer s H vs Q E hr h => ?_), F.binds fun _ _ _ _ _ _ us hl => match us, hl with | [_, _, _], _ => rfl⟩
  · obtain ⟨a, c, dx, kvs, n, w1, rfl, _⟩ := h
    rfl
  · obtain ⟨a, c, dx, kvs, n, w1, rfl, hn, hw, ha, hc, hlen, k, kr⟩ := h
    refine ⟨_, (pss_cons (ps_if (PW.pt (pw_or (pt_cmpR (op_notIn_kd hW.kd) (pv 1) (pe_glob (v := .ref A.WORDS) rfl T.g_WORDS rfl) (by with_unfolding_all rfl)) (pw_or1 (pt_cmpR op_notIn_seq (pv 2) (pe_ix ix_kdict (pe_glob (v := .ref A.WORDS) rfl T.g_WORDS rfl) (pv 1) (fun _ _ => rfl)) (by with_unfolding_all rfl))))) (pss_one (L2N.ps_raise rfl (L2N.takes_of rfl rfl rfl rfl) (L2N.pmk_oexN T.e_InvalidRules.oex T.f_InvalidRules.i T.f_InvalidRules.t G_InvalidRules (hr.mono (by decide)) b_InvalidRules pass0 rfl T.e_InvalidRules.g (pa_cons (pv 1) pa_nil)))) pss_nil)
      (pss_one (ps_dput (hu_of hr) (pe_fld (pv 0) rfl) (pv 1) (pv 2) rfl))), ?_⟩
    have raise : goodF n w1 = false → ∀ (G : Hp), Ex H G → RzR A n G E := fun c G e => (kr c).mono e
    by_cases h5 : n ∈ nm5
    · obtain ⟨p, hp, hq⟩ := hW.yes n h5
      have kd : KDct K w A.WORDS n (.ref p) := ⟨hW.es, hW.n, _, hW.kd.at_, hW.kd.lit, hp, rfl⟩
      refine ⟨_, rfl, n, _, rfl, rfl, hp, _, rfl, ?_⟩
      refine iteF ?_
      refine ⟨_, rfl, _, rfl, A.WORDS, n, _, rfl, rfl, kd, p, _, rfl, Or.inr (hq _), rfl, flat_str _, _, rfl, ?_⟩
      show if (!inV (V.str w1) ((two n).map V.str)) = true then _ else _
      rw [inV_str, ← good_in h5]
      cases g : goodF n w1 with
      | true =>
        refine iteF ?_
        exact ⟨_, rfl, _, rfl, a, _, dx, _, _, rfl, ha, T.cR, T.nc, rfl, _, rfl, c, _, rfl, DPut.k (k := Sum.inr n) hc (small1000 (by omega)), k g⟩
      | false =>
        refine iteT ?_
        exact ⟨_, rfl, (by show 1 ≤ 1000; decide), mkO_go fun d G e hd => kr g d G e hd⟩
    · refine ⟨_, rfl, n, _, rfl, rfl, hW.no n hn h5, _, rfl, iteT ?_⟩
      refine iteT ?_
      exact ⟨_, rfl, (by show 1 ≤ 1000; decide), mkO_go fun d G e hd => kr (good_out h5) d G e hd⟩

end

section
variable {P : Program} {w : World} {K : PySem.W.Frag} {mg : Str → Option Value} {base : Heap} {A : Ad}
theorem okh_m_change (T : Txt K mg A) (hW : WdK w K A.WORDS)  : Okh P w K mg base CX0 3 A.m_change P_m_change (spChG A) := by
  obtain ⟨fd, F⟩ := T.d_m_change

  refine ⟨fd, F.okH sc_m_change (fun vs H Q E h => ?_) (fun cdv A' outer s H vs Q E p hot hr h => ?_), F.binds fun _ _ _ _ _ _ us hl => match us, hl with | [_, _, _], _ => rfl⟩
  · obtain ⟨a, c, dx, kvs, n, w1, rfl, _⟩ := h
    rfl
  · obtain ⟨a, c, dx, kvs, n, w1, rfl, hn, hw, ha, hc, hlen, g, k⟩ := h
    refine ⟨_, (pss_cons (ps_if (PW.pt (pw_or (pt_cmpR (op_notIn_kd hW.kd) (pv 1) (pe_glob (v := .ref A.WORDS) rfl T.g_WORDS rfl) (by with_unfolding_all rfl)) (pw_or1 (pt_cmpR op_notIn_seq (pv 2) (pe_ix ix_kdict (pe_glob (v := .ref A.WORDS) rfl T.g_WORDS rfl) (pv 1) (fun _ _ => rfl)) (by with_unfolding_all rfl))))) (pss_one ps_never) pss_nil)
      (pss_one (ps_dput (huH hr) (pe_fld (pv 0) rfl) (pv 1) (pv 2) rfl))), ?_⟩
    have h5 : n ∈ nm5 := by
      unfold goodF at g
      rw [Bool.and_eq_true, List.contains_iff_mem] at g
      exact g.1
    obtain ⟨p2, hp, hq⟩ := hW.yes n h5
    have kd : KDct K w A.WORDS n (.ref p2) := ⟨hW.es, hW.n, _, hW.kd.at_, hW.kd.lit, hp, rfl⟩
    refine ⟨_, rfl, n, _, rfl, rfl, hp, _, rfl, ?_⟩
    refine iteF ?_
    refine ⟨_, rfl, _, rfl, A.WORDS, n, _, rfl, rfl, kd, p2, _, rfl, Or.inr (hq _), rfl, flat_str _, _, rfl, ?_⟩
    show if (!inV (V.str w1) ((two n).map V.str)) = true then _ else _
    rw [inV_str, ← good_in h5, g]
    refine iteF ?_
    exact ⟨_, rfl, _, rfl, a, _, dx, _, _, rfl, ha, T.cR, T.nc, rfl, _, rfl, c, _, rfl, DPut.k (k := Sum.inr n) hc (small1000 (by omega)), k⟩

end

section
variable {P : Program} {w : World} {K : PySem.W.Frag} {mg : Str → Option Value} {base : Heap} {A : Ad}
theorem ok_m_hook (T : Txt K mg A)   : Okd P w K mg base CX0 1 A.m_hook P_m_hook (spGet A 0) := by
  obtain ⟨fd, F⟩ := T.d_m_hook

  refine ⟨fd, F.ok sc_m_hook (fun vs H Q E h => ?_) (fun cdv A' outer s H vs Q E hr h => ?_), F.binds fun _ _ _ _ _ _ us hl => match us, hl with | [_], _ => rfl⟩
  · obtain ⟨a, c, bs, rfl, _⟩ := h
    rfl
  · obtain ⟨a, c, bs, rfl, R, k⟩ := h
    refine ⟨_, (pss_one (ps_ret (pe_dget (hu_of hr) (pe_fld (pv 0) rfl) pe_str (fun _ _ => rfl)))), ?_⟩
    obtain ⟨dx, kvs, ha, hc, hl, hb, hv⟩ := R
    refine ⟨_, rfl, a, _, dx, _, _, rfl, ha, T.cR, T.nc, rfl, ?_⟩
    exact ⟨c, _, rfl, (hv 0 (by decide)) ▸ DGet.k (k := Sum.inr "hook") hc, k⟩


theorem ok_m_relay (T : Txt K mg A)   : Okd P w K mg base CX0 1 A.m_relay P_m_relay (spGet A 1) := by
  obtain ⟨fd, F⟩ := T.d_m_relay

  refine ⟨fd, F.ok sc_m_relay (fun vs H Q E h => ?_) (fun cdv A' outer s H vs Q E hr h => ?_), F.binds fun _ _ _ _ _ _ us hl => match us, hl with | [_], _ => rfl⟩
  · obtain ⟨a, c, bs, rfl, _⟩ := h
    rfl
  · obtain ⟨a, c, bs, rfl, R, k⟩ := h
    refine ⟨_, (pss_one (ps_ret (pe_dget (hu_of hr) (pe_fld (pv 0) rfl) pe_str (fun _ _ => rfl)))), ?_⟩
    obtain ⟨dx, kvs, ha, hc, hl, hb, hv⟩ := R
    refine ⟨_, rfl, a, _, dx, _, _, rfl, ha, T.cR, T.nc, rfl, ?_⟩
    exact ⟨c, _, rfl, (hv 1 (by decide)) ▸ DGet.k (k := Sum.inr "relay") hc, k⟩


theorem ok_m_clamp (T : Txt K mg A)   : Okd P w K mg base CX0 1 A.m_clamp P_m_clamp (spGet A 2) := by
  obtain ⟨fd, F⟩ := T.d_m_clamp

  refine ⟨fd, F.ok sc_m_clamp (fun vs H Q E h => ?_) (fun cdv A' outer s H vs Q E hr h => ?_), F.binds fun _ _ _ _ _ _ us hl => match us, hl with | [_], _ => rfl⟩
  · obtain ⟨a, c, bs, rfl, _⟩ := h
    rfl
  · obtain ⟨a, c, bs, rfl, R, k⟩ := h
    refine ⟨_, (pss_one (ps_ret (pe_dget (hu_of hr) (pe_fld (pv 0) rfl) pe_str (fun _ _ => rfl)))), ?_⟩
    obtain ⟨dx, kvs, ha, hc, hl, hb, hv⟩ := R
    refine ⟨_, rfl, a, _, dx, _, _, rfl, ha, T.cR, T.nc, rfl, ?_⟩
    exact ⟨c, _, rfl, (hv 2 (by decide)) ▸ DGet.k (k := Sum.inr "clamp") hc, k⟩


theorem ok_m_trail (T : Txt K mg A)   : Okd P w K mg base CX0 1 A.m_trail P_m_trail (spGet A 3) := by
  obtain ⟨fd, F⟩ := T.d_m_trail

  refine ⟨fd, F.ok sc_m_trail (fun vs H Q E h => ?_) (fun cdv A' outer s H vs Q E hr h => ?_), F.binds fun _ _ _ _ _ _ us hl => match us, hl with | [_], _ => rfl⟩
  · obtain ⟨a, c, bs, rfl, _⟩ := h
    rfl
  · obtain ⟨a, c, bs, rfl, R, k⟩ := h
    refine ⟨_, (pss_one (ps_ret (pe_dget (hu_of hr) (pe_fld (pv 0) rfl) pe_str (fun _ _ => rfl)))), ?_⟩
    obtain ⟨dx, kvs, ha, hc, hl, hb, hv⟩ := R
    refine ⟨_, rfl, a, _, dx, _, _, rfl, ha, T.cR, T.nc, rfl, ?_⟩
    exact ⟨c, _, rfl, (hv 3 (by decide)) ▸ DGet.k (k := Sum.inr "trail") hc, k⟩


theorem ok_m_wheel (T : Txt K mg A)   : Okd P w K mg base CX0 1 A.m_wheel P_m_wheel (spGet A 4) := by
  obtain ⟨fd, F⟩ := T.d_m_wheel

  refine ⟨fd, F.ok sc_m_wheel (fun vs H Q E h => ?_) (fun cdv A' outer s H vs Q E hr h => ?_), F.binds fun _ _ _ _ _ _ us hl => match us, hl with | [_], _ => rfl⟩
  · obtain ⟨a, c, bs, rfl, _⟩ := h
    rfl
  · obtain ⟨a, c, bs, rfl, R, k⟩ := h
    refine ⟨_, (pss_one (ps_ret (pe_dget (hu_of hr) (pe_fld (pv 0) rfl) pe_str (fun _ _ => rfl)))), ?_⟩
    obtain ⟨dx, kvs, ha, hc, hl, hb, hv⟩ := R
    refine ⟨_, rfl, a, _, dx, _, _, rfl, ha, T.cR, T.nc, rfl, ?_⟩
    exact ⟨c, _, rfl, (hv 4 (by decide)) ▸ DGet.k (k := Sum.inr "wheel") hc, k⟩

end

section
variable {P : Program} {w : World} {K : PySem.W.Frag} {mg : Str → Option Value} {base : Heap} {A : Ad}
theorem pl_at {n : Str} (h : n ∈ nm5) : nm5.getD (pl n) "" = n := by
  have hi := List.idxOf_lt_length_of_mem h
  rw [List.getD_eq_getElem?_getD]
  unfold pl
  rw [List.getElem?_eq_getElem hi, Option.getD_some]
  exact List.getElem_idxOf hi
theorem ok_m_choice (T : Txt K mg A) (hW : WdK w K A.WORDS) (g_InvalidRules : Okd P w K mg base CX0 1 A.i_InvalidRules P_InvalidRules (spInit A.InvalidRules "name")) : Okd P w K mg base (L2N.CX P w) 3 A.m_choice P_m_choice (spCo A) := by
  obtain ⟨fd, F⟩ := T.d_m_choice
  obtain ⟨fd_InvalidRules, G_InvalidRules, b_InvalidRules⟩ := g_InvalidRules
  refine ⟨fd, F.okN sc_m_choice (fun vs H Q E h => ?_) (fun cdv A' outer s H vs Q E hr h => ?_), F.binds fun _ _ _ _ _ _ us hl => match us, hl with | [_, _], _ => rfl⟩
  · obtain ⟨a, c, bs, n, rfl, _⟩ := h
    rfl
  · obtain ⟨a, c, bs, n, rfl, hn, R, k, kr⟩ := h
    refine ⟨_, (pss_cons (ps_if (pt_cmpR (op_notIn_kd hW.kd) (pv 1) (pe_glob (v := .ref A.WORDS) rfl T.g_WORDS rfl) (by with_unfolding_all rfl)) (pss_one (L2N.ps_raise rfl (L2N.takes_of rfl rfl rfl rfl) (L2N.pmk_oexN T.e_InvalidRules.oex T.f_InvalidRules.i T.f_InvalidRules.t G_InvalidRules (hr.mono (by decide)) b_InvalidRules pass0 rfl T.e_InvalidRules.g (pa_cons (pv 1) pa_nil)))) pss_nil)
      (pss_one (ps_ret (pe_dget (hu_of hr) (pe_fld (pv 0) rfl) (pv 1) (fun _ _ => rfl))))), ?_⟩
    obtain ⟨dx, kvs, ha, hc, hl, hb, hv⟩ := R
    by_cases h5 : n ∈ nm5
    · obtain ⟨p, hp, hq⟩ := hW.yes n h5
      have hi : pl n < 5 := by
        have := List.idxOf_lt_length_of_mem h5
        exact this
      have e := hv (pl n) hi
      rw [pl_at h5] at e
      exact ⟨_, rfl, n, _, rfl, rfl, hp, _, rfl, iteF ⟨_, rfl, a, _, dx, _, _, rfl, ha, T.cR, T.nc, rfl, _, rfl, c, _, rfl, e ▸ DGet.k (k := Sum.inr n) hc, k h5⟩⟩
    · refine ⟨_, rfl, n, _, rfl, rfl, hW.no n hn h5, _, rfl, iteT ?_⟩
      exact ⟨_, rfl, (by show 1 ≤ 1000; decide), mkO_go fun d G e hd => kr h5 d G e hd⟩

end

section
variable {P : Program} {w : World} {K : PySem.W.Frag} {mg : Str → Option Value} {base : Heap} {A : Ad}
theorem dec_str {x y : Str} : decide (V.str x = V.str y) = (x == y) := by
  rw [Bool.eq_iff_iff, decide_eq_true_eq, beq_iff_eq]
  exact ⟨fun z => V.str.inj z, fun z => congrArg V.str z⟩
def secB (bs : List Nat) (i : Nat) : List V := (List.range i).map fun j => V.bl (bs.getD j 0 == 1)
def powL (bs : List Nat) (i : Nat) : List Int := ((List.range i).filter fun j => bs.getD j 0 == 1).map fun j => (1 : Int) * 2 ^ j
theorem sec_eq : ∀ i, i < 5 → ∀ b, b < 2 → (wordF (nm5.getD i "") b == (two (nm5.getD i "")).getD 1 "") = (b == 1) := by decide
theorem two_len (n : Str) : (two n).length = 2 := by
  unfold two
  split
  · rfl
  split
  · rfl
  split <;> rfl
theorem pow_sum {bs : List Nat} (h : Bits bs) : (powL bs 5).sum = (numF bs : Nat) := by
  obtain ⟨b0, b1, b2, b3, b4, rfl, h0, h1, h2, h3, h4⟩ := h.ex5
  have c0 : b0 = 0 ∨ b0 = 1 := by omega
  have c1 : b1 = 0 ∨ b1 = 1 := by omega
  have c2 : b2 = 0 ∨ b2 = 1 := by omega
  have c3 : b3 = 0 ∨ b3 = 1 := by omega
  have c4 : b4 = 0 ∨ b4 = 1 := by omega
  rcases c0 with rfl | rfl <;> rcases c1 with rfl | rfl <;> rcases c2 with rfl | rfl <;> rcases c3 with rfl | rfl <;> rcases c4 with rfl | rfl <;> decide
theorem nm5_at {i : Nat} {x : V} (h : (nm5.map V.str)[i]? = some x) : i < 5 ∧ x = V.str (nm5.getD i "") := by
  rw [List.getElem?_map] at h
  cases e : nm5[i]? with
  | none =>
    rw [e] at h
    cases h
  | some z =>
    rw [e] at h
    refine ⟨(List.getElem?_eq_some_iff.mp e).1, ?_⟩
    rw [List.getD_eq_getElem?_getD, e]
    exact (Option.some.inj h).symm
theorem nm5_mem {i : Nat} (h : i < 5) : nm5.getD i "" ∈ nm5 := by
  rw [List.getD_eq_getElem?_getD, List.getElem?_eq_getElem (show i < nm5.length from h)]
  exact List.getElem_mem _
theorem two_at (n : Str) {b : Nat} (h : b < 2) : atI ((two n).map V.str) (b : Int) = some (V.str (wordF n b)) := by
  refine atI_nat ?_
  rw [List.getElem?_map]
  unfold wordF
  rw [List.getD_eq_getElem?_getD, List.getElem?_eq_getElem (by rw [two_len]; exact h)]
  rfl
theorem Bits.at {bs : List Nat} (h : Bits bs) {i : Nat} (hi : i < 5) : bs.getD i 0 < 2 := by
  rw [List.getD_eq_getElem?_getD, List.getElem?_eq_getElem (by rw [h.len]; exact hi)]
  exact h.two _ (List.getElem_mem _)
theorem ok_m_number (T : Txt K mg A) (hW : WdK w K A.WORDS)  : Okd P w K mg base CX0 1 A.m_number P_m_number (spNum A) := by
  obtain ⟨fd, F⟩ := T.d_m_number

  refine ⟨fd, F.ok sc_m_number (fun vs H Q E h => ?_) (fun cdv A' outer s H vs Q E hr h => ?_), F.binds fun _ _ _ _ _ _ us hl => match us, hl with | [_], _ => rfl⟩
  · obtain ⟨a, c, bs, rfl, _⟩ := h
    rfl
  · obtain ⟨a, c, bs, rfl, R, k⟩ := h
    refine ⟨_, (pss_cons (ps_setLc (i := 1) (own := [("name", 2)]) (tt := tYes) (by rfl) sc_m_number.nd rfl rfl (sw_true rfl rfl rfl (by decide +kernel)) (pi_tup (ClX.pe_cval (pe_glob (v := .ref A.Rules) rfl T.g_Rules rfl))) (blkOk_by (own := [("name", 2)]) (N := N_m_number) (sc := defScope s_m_number) (by decide +kernel)) (fun _ _ _ _ _ => (pg_name (i := 2) sc_m_number.nd rfl (Or.inl rfl))) (fun _ _ _ _ _ => pts_nil) (fun _ _ _ _ _ => (pe_cmpR op_eq (pe_dget (by exact hu_of hr) (pe_fldK (K := K) rfl (pv 0) (by rfl)) (pv 2) (fun _ _ => rfl)) (pe_ix (ix_tupK (K := K) rfl) (pe_ix (ix_kdictK (K := K) (w := w) rfl rfl) (pe_glob (v := .ref A.WORDS) rfl T.g_WORDS rfl) (pv 2) (fun _ _ => rfl)) pe_int (fun _ _ => rfl)) (nomark _))))
      (pss_one (ps_ret (pe_callB (cr_sum (by rfl)) (by rfl) T.n_sum (by decide +kernel) (pa_cons (pe_lc (own := [("at", 3), ("second", 4)]) (g := gTup K 2 (gCons (gName 3) (gCons (gName 4) gNil))) (tt := _) (by rfl) sc_m_number.nd (pi_enum (by rfl) T.n_enumerate (pa_cons (pv 1) pa_nil)) (blkOk_by (own := [("at", 3), ("second", 4)]) (N := N_m_number) (sc := defScope s_m_number) (by decide +kernel)) (fun _ _ _ _ _ => (pg_tup (by rfl) (pgs_cons (pg_name (i := 3) sc_m_number.nd rfl (Or.inl rfl)) (pgs_cons (pg_name (i := 4) sc_m_number.nd rfl (Or.inl rfl)) pgs_nil)))) (fun _ _ _ _ _ => (pts_one (pt_val (pv 4)))) (fun _ _ _ _ _ => (pe_op op_shl pe_int (pv 3)))) pa_nil))))), ?_⟩
    obtain ⟨dx, kvs, ha, hc, hl, hb, hv⟩ := R
    refine ⟨_, _, _, _, rfl, T.rd, T.cv_NAMES, _, rfl, ⟨_, T.tN H⟩, fun D hD => ?_⟩
    refine lc_tup (xs := nm5.map V.str) (fun i H' => Ex H H' ∧ H' D = some (.lst (secB bs i))) ⟨Ex.new hD, upd_same⟩ (fun i H' _ _ => T.tN H') ?_ ?_
    · rintro i x H' hx ⟨e, hd⟩
      obtain ⟨hi, rfl⟩ := nm5_at hx
      obtain ⟨p, hp, hq⟩ := hW.yes _ (nm5_mem hi)
      have kd : KDct K w A.WORDS (nm5.getD i "") (.ref p) := ⟨hW.es, hW.n, _, hW.kd.at_, hW.kd.lit, hp, rfl⟩
      refine ⟨rfl, ?_⟩
      refine ⟨_, rfl, a, _, dx, _, _, rfl, e _ _ ha, T.cR, T.nc, rfl, _, rfl, c, _, rfl, (hv i hi) ▸ DGet.k (k := Sum.inr (nm5.getD i "")) (e _ _ hc), ?_⟩
      refine ⟨_, rfl, A.WORDS, _, _, rfl, rfl, kd, p, _, _, _, rfl, rfl, hq _, two_at _ (show 1 < 2 by decide), rfl, ?_⟩
      rw [dec_str, show wordF (nm5.getD i "") 1 = (two (nm5.getD i "")).getD 1 "" from rfl, sec_eq i hi _ (hb.at hi)]
      refine ⟨_, hd, small1000 (by unfold secB; rw [List.length_map, List.length_range]; omega), ?_, ?_⟩
      · exact fun b o ho => by
          rw [upd_ne (ne_of_none ho hD)]
          exact e b o ho
      · rw [upd_same]
        unfold secB
        rw [List.range_succ, List.map_append]
        rfl
    · rintro H1 ⟨e, hd⟩
      refine ⟨_, rfl, D, _, rfl, SqL.of hd, fun D2 hD2 => ?_⟩
      have hs : ∀ G, Ex H1 G → SqL K G D (secB bs 5) := fun G x => SqL.of (x _ _ hd)
      refine lc_it walk_enum (fun i G => Ex H1 G ∧ G D2 = some (.lst ((powL bs i).map V.int))) ⟨Ex.new hD2, upd_same⟩ (fun i G _ p => hs G p.1) ?_ ?_
      · rintro i x G G2 hi ⟨e2, hd2⟩ ⟨T0, y1, y2, rfl, hT, rfl, q1, q2⟩
        have hi : i < 5 := hi
        cases q1
        have e3 : y2 = V.bl (bs.getD i 0 == 1) := by
          have q2 : (secB bs 5)[i]? = some y2 := q2
          unfold secB at q2
          rw [List.getElem?_map, List.getElem?_range hi] at q2
          exact (Option.some.inj q2).symm
        subst e3
        have nDT : D2 ≠ T0 := ne_of_none hd2 hT
        refine ⟨T0, _, rfl, SqT.of upd_same, rfl, _, _, rfl, _, _, rfl, rfl, rfl, ?_⟩
        have eT : Ex H1 (upd G T0 (.tup [.int (i : Nat), .bl (bs.getD i 0 == 1)])) := ex_new e2 hT
        have dT : ∀ o, upd G T0 o D2 = some (.lst ((powL bs i).map V.int)) := fun o => by rw [upd_ne nDT]; exact hd2
        have step : powL bs (i + 1) = powL bs i ++ if (bs.getD i 0 == 1) = true then [(1 : Int) * 2 ^ i] else [] := by
          unfold powL
          rw [List.range_succ, List.filter_append, List.map_append, List.filter_cons]
          split <;> rfl
        cases hbit : bs.getD i 0 == 1 with
        | true =>
          rw [hbit] at eT step
          refine ⟨_, rfl, _, rfl, iteT ?_⟩
          refine ⟨_, rfl, _, _, rfl, rfl, ⟨by omega, by omega, by decide⟩, _, dT _, small1000 ?_, ?_, ?_⟩
          · unfold powL
            rw [List.length_map, List.length_map]
            have := List.length_filter_le (fun j => bs.getD j 0 == 1) (List.range i)
            rw [List.length_range] at this
            omega
          · exact fun b o ho => by
              rw [upd_ne (ne_of_none ho hD2)]
              exact eT b o ho
          · rw [upd_same, step, if_pos rfl, List.map_append]
            rfl
        | false =>
          rw [hbit] at eT step
          refine ⟨_, rfl, _, rfl, iteF ⟨eT, ?_⟩⟩
          rw [dT, step, if_neg (by decide), List.append_nil]
      · rintro G ⟨e2, hd2⟩
        refine ⟨D2, powL bs 5, rfl, SqL.of hd2, ?_⟩
        rw [pow_sum hb]
        exact k G (e.trans e2)

end

section
variable {P : Program} {w : World} {K : PySem.W.Frag} {mg : Str → Option Value} {base : Heap} {A : Ad}
theorem ok_law_integer (T : Txt K mg A)   : Okd P w K mg base CX0 1 A.law_integer P_law_integer spInt := by
  obtain ⟨fd, F⟩ := T.d_law_integer

  refine ⟨fd, F.ok sc_law_integer (fun vs H Q E h => ?_) (fun cdv A' outer s H vs Q E hr h => ?_), F.binds fun _ _ _ _ _ _ us hl => match us, hl with | [_], _ => rfl⟩
  · obtain ⟨i, rfl, _⟩ := h
    rfl
  · obtain ⟨i, rfl, k⟩ := h
    refine ⟨_, (pss_one (ps_ret (pe_and (pe_callB call_isi (by rfl) T.n_isinstance (by decide +kernel) (pa_cons (pv 0) (pa_cons (pe_bltn (v := .ty "int") (u := .type "int") (by rfl) T.n_int (by decide +kernel) rfl) pa_nil))) (pe_one (pe_not (pe_callB call_isi (by rfl) T.n_isinstance (by decide +kernel) (pa_cons (pv 0) (pa_cons (pe_bltn (v := .ty "bool") (u := .type "bool") (by rfl) T.n_bool (by decide +kernel) rfl) pa_nil)))))))), ?_⟩
    refine ⟨_, rfl, _, _, _, _, true, rfl, ClsV.ty "int", TyX.base (TyOf.int _), kit_ty (by decide +kernel), ?_⟩
    refine ⟨true, rfl, ?_⟩
    refine iteT ?_
    refine ⟨_, rfl, _, _, _, _, false, rfl, ClsV.ty "bool", TyX.base (TyOf.int _), kit_ty (by decide +kernel), ?_⟩
    exact ⟨false, rfl, k⟩

end

section
variable {P : Program} {w : World} {K : PySem.W.Frag} {mg : Str → Option Value} {base : Heap} {A : Ad}
theorem okh_law_integer (T : Txt K mg A)   : Okh P w K mg base CX0 1 A.law_integer P_law_integer spInt := by
  obtain ⟨fd, F⟩ := T.d_law_integer

  refine ⟨fd, F.okH sc_law_integer (fun vs H Q E h => ?_) (fun cdv A' outer s H vs Q E p hot hr h => ?_), F.binds fun _ _ _ _ _ _ us hl => match us, hl with | [_], _ => rfl⟩
  · obtain ⟨i, rfl, _⟩ := h
    rfl
  · obtain ⟨i, rfl, k⟩ := h
    refine ⟨_, (pss_one (ps_ret (pe_and (pe_callB call_isi (by rfl) T.n_isinstance (by decide +kernel) (pa_cons (pv 0) (pa_cons (pe_bltn (v := .ty "int") (u := .type "int") (by rfl) T.n_int (by decide +kernel) rfl) pa_nil))) (pe_one (pe_not (pe_callB call_isi (by rfl) T.n_isinstance (by decide +kernel) (pa_cons (pv 0) (pa_cons (pe_bltn (v := .ty "bool") (u := .type "bool") (by rfl) T.n_bool (by decide +kernel) rfl) pa_nil)))))))), ?_⟩
    refine ⟨_, rfl, _, _, _, _, true, rfl, ClsV.ty "int", TyX.base (TyOf.int _), kit_ty (by decide +kernel), ?_⟩
    refine ⟨true, rfl, ?_⟩
    refine iteT ?_
    refine ⟨_, rfl, _, _, _, _, false, rfl, ClsV.ty "bool", TyX.base (TyOf.int _), kit_ty (by decide +kernel), ?_⟩
    exact ⟨false, rfl, k⟩

end

section
variable {P : Program} {w : World} {K : PySem.W.Frag} {mg : Str → Option Value} {base : Heap} {A : Ad}
theorem ok_law_cell (T : Txt K mg A)   : Okd P w K mg base CX0 1 A.law_cell P_law_cell (spCell K) := by
  obtain ⟨fd, F⟩ := T.d_law_cell

  refine ⟨fd, F.ok sc_law_cell (fun vs H Q E h => ?_) (fun cdv A' outer s H vs Q E hr h => ?_), F.binds fun _ _ _ _ _ _ us hl => match us, hl with | [_, _], _ => rfl⟩
  · obtain ⟨a, ns, k1, rfl, _⟩ := h
    rfl
  · obtain ⟨a, ns, k1, rfl, hk100, hs, k⟩ := h
    refine ⟨_, (pss_cons (ps_if (pt_cmpR op_lt (pv 1) (pe_callB call_len_seq (by rfl) T.n_len PySem.boot_len (pa_cons (pv 0) pa_nil)) (nomark _)) (pss_one (ps_ret (pe_callTy call_int1 (by rfl) T.n_int (by decide +kernel) (pa_cons (pe_ix ix_list (pv 0) (pv 1) (fun _ _ => rfl)) pa_nil)))) pss_nil)
      (pss_cons (ps_set (i := 2) sc_law_cell.nd rfl (Or.inl rfl) pe_int)
      (pss_cons (ps_for PassesOwn.never rfl (pi_list (pv 0)) (pg_name (i := 3) sc_law_cell.nd rfl (Or.inl rfl)) (pss_one (ps_set (i := 2) sc_law_cell.nd rfl (Or.inl rfl) (pe_op op_mod (pe_callTy call_int1 (by rfl) T.n_int (by decide +kernel) (pa_cons (pe_op op_add (pe_op op_mul (pv 2) pe_int) (pe_callTy call_int1 (by rfl) T.n_int (by decide +kernel) (pa_cons (pv 3) pa_nil))) pa_nil)) pe_int))))
      (pss_one (ps_ret (pe_op op_add (pe_op op_add (pe_op op_mul (pv 2) pe_int) (pe_op op_mul (pv 1) pe_int)) pe_int)))))), ?_⟩
    walk_at "r"
    refine ⟨a, _, rfl, Or.inl hs, ?_⟩
    rw [List.length_map]
    walk_at "r"
    refine ite_b (fun c => ?_) (fun c => ?_)
    · have c := of_decide_eq_true c
      have hk : k1 < ns.length := by omega
      walk_at "r"
      refine ⟨a, _, _, _, rfl, rfl, hs, at_map hk, ?_⟩
      walk_at "r"
      exact k _
    · walk_at "r"
      refine ⟨⟨_, hs⟩, ?_⟩
      refine for_list (K := K) (a := a) (xs := ns.map V.int) (fun i σ H' => H' = H ∧ ∃ (g : Int) (v : Option V), σ = [some (.ref a), some (.int (k1 : Int)), some (.int g), v]) ⟨rfl, 0, none, rfl⟩ (fun i σ H' _ ⟨e, _⟩ => e ▸ hs) ?_ ?_
      · rintro i y σ H' hi ⟨rfl, g, v, rfl⟩
        obtain ⟨z, hz, rfl⟩ := int_at hi
        walk_at "r"
        exact ⟨_, _, rfl⟩
      · rintro σ H' ⟨rfl, g, v, rfl⟩
        walk_at "r"
        exact k _

end

section
variable {P : Program} {w : World} {K : PySem.W.Frag} {mg : Str → Option Value} {base : Heap} {A : Ad}
theorem ok_law_stream (T : Txt K mg A)  (g_law_cell : Okd P w K mg base CX0 1 A.law_cell P_law_cell (spCell K)) : Okd P w K mg base CX0 2 A.law_stream P_law_stream (spStrm K) := by
  obtain ⟨fd, F⟩ := T.d_law_stream
  obtain ⟨fd_law_cell, G_law_cell, b_law_cell⟩ := g_law_cell
  refine ⟨fd, F.ok sc_law_stream (fun vs H Q E h => ?_) (fun cdv A' outer s H vs Q E hr h => ?_), F.binds fun _ _ _ _ _ _ us hl => match us, hl with | [_, _], _ => rfl⟩
  · obtain ⟨a, ns, k1, rfl, _⟩ := h
    rfl
  · obtain ⟨a, ns, k1, rfl, hk, hs, k⟩ := h
    refine ⟨_, (pss_cons (ps_set (i := 2) sc_law_stream.nd rfl (Or.inl rfl) (pe_call G_law_cell (hr.mono (by decide)) (by rfl) T.g_law_cell T.k_law_cell b_law_cell .nil pass0 (pa_cons (pv 0) (pa_cons (pv 1) pa_nil))))
      (pss_cons (ps_set (i := 3) sc_law_stream.nd rfl (Or.inl rfl) pe_int)
      (pss_cons (ps_if (pt_cmpR op_ge (pv 2) (pe_op op_pow pe_int pe_int) (nomark _)) (pss_one (ps_set (i := 3) sc_law_stream.nd rfl (Or.inl rfl) (pv 2))) pss_nil)
      (pss_one (ps_ret (pe_lst (pa_cons (pv 3) (pa_cons (pe_op op_mod (pe_callTy call_int1 (by rfl) T.n_int (by decide +kernel) (pa_cons (pv 2) pa_nil)) pe_int) (pa_cons pe_int pa_nil))))))))), ?_⟩
    refine ⟨_, rfl, _, rfl, a, ns, k1, rfl, hk, hs, fun z => ?_⟩
    walk_at "r"
    refine ite_b (fun c => ?_) (fun c => ?_)
    · have c := of_decide_eq_true c
      walk_at "r"
      refine ⟨(by show 3 ≤ sizeLine; decide), fun b hb => ?_⟩
      exact k b _ hb (Ex.new hb) ⟨_, _, _, upd_same, Int.le_trans (by decide) c, Int.emod_nonneg _ (by decide), Int.emod_lt_of_pos _ (by decide), by decide⟩
    · walk_at "r"
      refine ⟨(by show 3 ≤ sizeLine; decide), fun b hb => ?_⟩
      exact k b _ hb (Ex.new hb) ⟨_, _, _, upd_same, by omega, Int.emod_nonneg _ (by decide), Int.emod_lt_of_pos _ (by decide), by decide⟩

end

section
variable {P : Program} {w : World} {K : PySem.W.Frag} {mg : Str → Option Value} {base : Heap} {A : Ad}
theorem ok_law_draw (T : Txt K mg A)   : Okd P w K mg base CX0 1 A.law_draw P_law_draw spDraw := by
  obtain ⟨fd, F⟩ := T.d_law_draw

  refine ⟨fd, F.ok sc_law_draw (fun vs H Q E h => ?_) (fun cdv A' outer s H vs Q E hr h => ?_), F.binds fun _ _ _ _ _ _ us hl => match us, hl with | [_, _], _ => rfl⟩
  · obtain ⟨b, n, rfl, _⟩ := h
    rfl
  · obtain ⟨b, n, rfl, n0, n1, B, k⟩ := h
    refine ⟨_, (pss_cons (ps_if (pt_cmpR op_gt (pe_ix ix_list (pv 0) pe_int (fun _ _ => rfl)) pe_int (nomark _)) (pss_cons (ps_set (i := 2) sc_law_draw.nd rfl (Or.inl rfl) (pe_op op_mod (pe_callTy call_int1 (by rfl) T.n_int (by decide +kernel) (pa_cons (pe_ix ix_list (pv 0) pe_int (fun _ _ => rfl)) pa_nil)) (pv 1)))
      (pss_cons (ps_asg (pe_op op_fdivW (pe_callTy call_int1 (by rfl) T.n_int (by decide +kernel) (pa_cons (pe_ix ix_list (pv 0) pe_int (fun _ _ => rfl)) pa_nil)) (pv 1)) (pg_sub (pv 0) pe_int set_list))
      (pss_one (ps_ret (pv 2))))) pss_nil)
      (pss_cons (ps_asg (pe_op op_add (pe_ix ix_list (pv 0) pe_int (fun _ _ => rfl)) pe_int) (pg_sub (pv 0) pe_int set_list))
      (pss_cons (ps_set (i := 3) sc_law_draw.nd rfl (Or.inl rfl) (pe_op op_mod (pe_callTy call_int1 (by rfl) T.n_int (by decide +kernel) (pa_cons (pe_op op_add (pe_op op_add (pe_op op_mul (pe_ix ix_list (pv 0) pe_int (fun _ _ => rfl)) pe_int) (pe_op op_mul (pe_ix ix_list (pv 0) pe_int (fun _ _ => rfl)) pe_int)) pe_int) pa_nil)) pe_int))
      (pss_cons (ps_set (i := 4) sc_law_draw.nd rfl (Or.inl rfl) (pe_op op_mod (pe_callTy call_int1 (by rfl) T.n_int (by decide +kernel) (pa_cons (pe_op op_add (pe_op op_add (pe_op op_mul (pv 3) (pv 3)) (pe_op op_mul (pe_ix ix_list (pv 0) pe_int (fun _ _ => rfl)) pe_int)) (pe_op op_fdivW (pv 3) pe_int)) pa_nil)) pe_int))
      (pss_one (ps_ret (pe_op op_mod (pe_callTy call_int1 (by rfl) T.n_int (by decide +kernel) (pa_cons (pe_op op_fdivW (pv 4) pe_int) pa_nil)) (pv 1)))))))), ?_⟩
    obtain ⟨r, s0, t0, hb, r0, s1, s2, t1⟩ := B
    walk_at "r"
    refine ite_b (fun c => ?_) (fun c => ?_)
    · have c := of_decide_eq_true c
      walk_at "r"
      exact k _ _ (Int.emod_nonneg _ (by omega)) (Int.emod_lt_of_pos _ n0) ⟨_, _, _, upd_same, Int.ediv_nonneg (by omega) (by omega), s1, s2, t1⟩ (Mut.upd (Mut.refl _ _))
    · walk_at "r"
      exact k _ _ (Int.emod_nonneg _ (by omega)) (Int.emod_lt_of_pos _ n0) ⟨r, s0, t0 + 1, upd_same, r0, s1, s2, by omega⟩ (Mut.upd (Mut.refl _ _))

end

section
variable {P : Program} {w : World} {K : PySem.W.Frag} {mg : Str → Option Value} {base : Heap} {A : Ad}
theorem ok_law_names (T : Txt K mg A)   : Okd P w K mg base CX0 1 A.law_names P_law_names spNames := by
  obtain ⟨fd, F⟩ := T.d_law_names

  refine ⟨fd, F.ok sc_law_names (fun vs H Q E h => ?_) (fun cdv A' outer s H vs Q E hr h => ?_), F.binds fun _ _ _ _ _ _ us hl => match us, hl with | [], _ => rfl⟩
  · obtain ⟨rfl, _⟩ := h
    rfl
  · obtain ⟨rfl, k⟩ := h
    refine ⟨_, (pss_one (ps_ret (pe_lst (pa_cons pe_str (pa_cons pe_str (pa_cons pe_str (pa_cons pe_str (pa_cons pe_str pa_nil)))))))), ?_⟩
    refine ⟨(by show 5 ≤ sizeLine; decide), fun p hp => ?_⟩
    exact k p _ hp (Ex.new hp) upd_same

end

section
variable {P : Program} {w : World} {K : PySem.W.Frag} {mg : Str → Option Value} {base : Heap} {A : Ad}
theorem ok_law_choices (T : Txt K mg A)   : Okd P w K mg base CX0 1 A.law_choices P_law_choices spTwo := by
  obtain ⟨fd, F⟩ := T.d_law_choices

  refine ⟨fd, F.ok sc_law_choices (fun vs H Q E h => ?_) (fun cdv A' outer s H vs Q E hr h => ?_), F.binds fun _ _ _ _ _ _ us hl => match us, hl with | [_], _ => rfl⟩
  · obtain ⟨n, rfl, _⟩ := h
    rfl
  · obtain ⟨n, rfl, k⟩ := h
    refine ⟨_, (pss_cons (ps_if (pt_cmpR op_eq (pv 0) pe_str (nomark _)) (pss_one (ps_ret (pe_lst (pa_cons pe_str (pa_cons pe_str pa_nil))))) pss_nil)
      (pss_cons (ps_if (pt_cmpR op_eq (pv 0) pe_str (nomark _)) (pss_one (ps_ret (pe_lst (pa_cons pe_str (pa_cons pe_str pa_nil))))) pss_nil)
      (pss_cons (ps_if (pt_cmpR op_eq (pv 0) pe_str (nomark _)) (pss_one (ps_ret (pe_lst (pa_cons pe_str (pa_cons pe_str pa_nil))))) pss_nil)
      (pss_one (ps_ret (pe_lst (pa_cons pe_str (pa_cons pe_str pa_nil)))))))), ?_⟩
    refine ⟨_, rfl, rfl, _, rfl, ?_⟩
    rw [dec_str]
    refine ite_b (fun c => ?_) (fun c => ?_)
    · refine ⟨(by show 2 ≤ sizeLine; decide), fun p hp => k p _ hp (Ex.new hp) ?_⟩
      rw [eq_of_beq c]
      exact upd_same
    have c : n ≠ "hook" := ne_of_beq_false c
    refine ⟨_, rfl, rfl, _, rfl, ?_⟩
    rw [dec_str]
    refine ite_b (fun c => ?_) (fun c2 => ?_)
    · refine ⟨(by show 2 ≤ sizeLine; decide), fun p hp => k p _ hp (Ex.new hp) ?_⟩
      rw [eq_of_beq c]
      exact upd_same
    have c2 : n ≠ "clamp" := ne_of_beq_false c2
    refine ⟨_, rfl, rfl, _, rfl, ?_⟩
    rw [dec_str]
    refine ite_b (fun c => ?_) (fun c3 => ?_)
    · refine ⟨(by show 2 ≤ sizeLine; decide), fun p hp => k p _ hp (Ex.new hp) ?_⟩
      rw [eq_of_beq c]
      exact upd_same
    have c3 : n ≠ "wheel" := ne_of_beq_false c3
    refine ⟨(by show 2 ≤ sizeLine; decide), fun p hp => k p _ hp (Ex.new hp) ?_⟩
    unfold ListS two
    rw [if_neg c, if_neg c2, if_neg c3]
    exact upd_same

end

section
variable {P : Program} {w : World} {K : PySem.W.Frag} {mg : Str → Option Value} {base : Heap} {A : Ad}
theorem ok_law_good (T : Txt K mg A)  (g_law_names : Okd P w K mg base CX0 1 A.law_names P_law_names spNames) (g_law_choices : Okd P w K mg base CX0 1 A.law_choices P_law_choices spTwo) : Okd P w K mg base CX0 2 A.law_good P_law_good spGood := by
  obtain ⟨fd, F⟩ := T.d_law_good
  obtain ⟨fd_law_names, G_law_names, b_law_names⟩ := g_law_names
  obtain ⟨fd_law_choices, G_law_choices, b_law_choices⟩ := g_law_choices
  refine ⟨fd, F.ok sc_law_good (fun vs H Q E h => ?_) (fun cdv A' outer s H vs Q E hr h => ?_), F.binds fun _ _ _ _ _ _ us hl => match us, hl with | [_, _], _ => rfl⟩
  · obtain ⟨n, w1, rfl, _⟩ := h
    rfl
  · obtain ⟨n, w1, rfl, k⟩ := h
    refine ⟨_, (pss_one (ps_ret (pe_and (pe_cmpR op_in_seq (pv 0) (pe_call0 G_law_names (hr.mono (by decide)) (by rfl) T.g_law_names T.k_law_names b_law_names .nil pass0) (by with_unfolding_all rfl)) (pe_one (pe_cmpR op_in_seq (pv 1) (pe_call G_law_choices (hr.mono (by decide)) (by rfl) T.g_law_choices T.k_law_choices b_law_choices .nil pass0 (pa_cons (pv 0) pa_nil)) (by with_unfolding_all rfl)))))), ?_⟩
    refine ⟨_, rfl, rfl, fun p H1 hp e1 hl => ?_⟩
    refine ⟨p, _, rfl, Or.inl hl.sz, rfl, flat_str _, ?_⟩
    refine ⟨_, rfl, ?_⟩
    show if inV (V.str n) (nm5.map V.str) = true then _ else _
    rw [inV_str]
    cases h : nm5.contains n with
    | true =>
      refine iteT ?_
      refine ⟨_, rfl, _, rfl, n, rfl, fun q H2 hq e2 hl2 => ?_⟩
      refine ⟨q, _, rfl, Or.inl hl2.sz, rfl, flat_str _, ?_⟩
      show Q (.bl (inV (V.str w1) ((two n).map V.str))) H2
      have z := k H2 (e1.trans e2)
      unfold goodF at z
      rw [h, Bool.true_and] at z
      rw [inV_str]
      exact z
    | false =>
      refine iteF ?_
      have z := k H1 e1
      unfold goodF at z
      rw [h, Bool.false_and] at z
      exact z

end

section
variable {P : Program} {w : World} {K : PySem.W.Frag} {mg : Str → Option Value} {base : Heap} {A : Ad}
def strange : List Str := ["", "Hook", "relays", "clamp ", " trail", "whee", "pair", "claim", "free", "number", "choice", "change", "copy", "NAMES", "COUNT", "near", "hook relay"]
theorem atS {xs : List Str} {j : Nat} (h : j < xs.length) : atI (xs.map V.str) (j : Int) = some (V.str (xs.getD j "")) := by
  refine atI_nat ?_
  rw [List.getElem?_map, List.getD_eq_getElem?_getD, List.getElem?_eq_getElem h]
  rfl
theorem strange_in : ∀ j, j < 17 → strange.getD j "" ∈ nms := by decide
theorem ok_law_pick_name (T : Txt K mg A)  (g_law_draw : Okd P w K mg base CX0 1 A.law_draw P_law_draw spDraw) (g_law_names : Okd P w K mg base CX0 1 A.law_names P_law_names spNames) : Okd P w K mg base CX0 2 A.law_pick_name P_law_pick_name spPN := by
  obtain ⟨fd, F⟩ := T.d_law_pick_name
  obtain ⟨fd_law_draw, G_law_draw, b_law_draw⟩ := g_law_draw
  obtain ⟨fd_law_names, G_law_names, b_law_names⟩ := g_law_names
  refine ⟨fd, F.ok sc_law_pick_name (fun vs H Q E h => ?_) (fun cdv A' outer s H vs Q E hr h => ?_), F.binds fun _ _ _ _ _ _ us hl => match us, hl with | [_], _ => rfl⟩
  · obtain ⟨b, rfl, _⟩ := h
    rfl
  · obtain ⟨b, rfl, B, k⟩ := h
    refine ⟨_, (pss_cons (ps_set (i := 1) sc_law_pick_name.nd rfl (Or.inl rfl) (pe_lst (pa_cons pe_str (pa_cons pe_str (pa_cons pe_str (pa_cons pe_str (pa_cons pe_str (pa_cons pe_str (pa_cons pe_str (pa_cons pe_str (pa_cons pe_str (pa_cons pe_str (pa_cons pe_str (pa_cons pe_str (pa_cons pe_str (pa_cons pe_str (pa_cons pe_str (pa_cons pe_str (pa_cons pe_str pa_nil)))))))))))))))))))
      (pss_cons (ps_if (pt_cmpR op_eq (pe_call G_law_draw (hr.mono (by decide)) (by rfl) T.g_law_draw T.k_law_draw b_law_draw .nil pass0 (pa_cons (pv 0) (pa_cons pe_int pa_nil))) pe_int (nomark _)) (pss_one (ps_ret (pe_ix ix_list (pv 1) (pe_call G_law_draw (hr.mono (by decide)) (by rfl) T.g_law_draw T.k_law_draw b_law_draw .nil pass0 (pa_cons (pv 0) (pa_cons (pe_callB call_len_seq (by rfl) T.n_len PySem.boot_len (pa_cons (pv 1) pa_nil)) pa_nil))) (fun _ _ => rfl)))) pss_nil)
      (pss_one (ps_ret (pe_ix ix_list (pe_call0 G_law_names (hr.mono (by decide)) (by rfl) T.g_law_names T.k_law_names b_law_names .nil pass0) (pe_call G_law_draw (hr.mono (by decide)) (by rfl) T.g_law_draw T.k_law_draw b_law_draw .nil pass0 (pa_cons (pv 0) (pa_cons pe_int pa_nil))) (fun _ _ => rfl)))))), ?_⟩
    refine ⟨(by show 17 ≤ sizeLine; decide), fun q hq => ?_⟩
    have B1 : Strm (upd H q (.lst (strange.map V.str))) b := B.ex (Ex.new hq)
    have M1 : Mut b H (upd H q (.lst (strange.map V.str))) := Mut.of_ex (Ex.new hq)
    have hl : ListS (upd H q (.lst (strange.map V.str))) q strange := upd_same
    refine ⟨_, rfl, b, 4, rfl, by decide, by decide, B1, fun d H2 _ _ B2 M2 => ?_⟩
    refine ⟨rfl, _, rfl, ?_⟩
    refine ite_b (fun c => ?_) (fun c => ?_)
    · have nqb : q ≠ b := B.ne hq
      refine ⟨_, rfl, _, rfl, _, rfl, q, _, rfl, Or.inl (SqL.of (M2 _ _ nqb hl)), b, 17, rfl, by decide, by decide, B2, fun d H3 d0 d1 B3 M3 => ?_⟩
      obtain ⟨d, rfl⟩ := Int.eq_ofNat_of_zero_le d0
      have hd : d < 17 := by omega
      exact ⟨q, _, _, _, rfl, rfl, SqL.of (M3 _ _ nqb (M2 _ _ nqb hl)), atS (xs := strange) hd, k _ _ (strange_in d hd) B3 ((M1.trans M2).trans M3)⟩
    · refine ⟨rfl, fun p H3 hp e3 hl3 => ?_⟩
      refine ⟨_, rfl, b, 5, rfl, by decide, by decide, B2.ex e3, fun d H4 d0 d1 B4 M4 => ?_⟩
      obtain ⟨d, rfl⟩ := Int.eq_ofNat_of_zero_le d0
      have hd : d < 5 := by omega
      have npb : p ≠ b := B2.ne hp
      exact ⟨p, _, _, _, rfl, rfl, SqL.of (M4 _ _ npb hl3), atS (xs := nm5) hd, k _ _ (nm5_nms (nm5_mem hd)) B4 (((M1.trans M2).trans (Mut.of_ex e3)).trans M4)⟩

end

section
variable {P : Program} {w : World} {K : PySem.W.Frag} {mg : Str → Option Value} {base : Heap} {A : Ad}
theorem wds_in : ∀ j, j < 16 → wds.getD j "" ∈ wds := by decide
theorem word_in (n : Str) : ∀ d, d < 2 → wordF n d ∈ wds := by
  unfold wordF two
  split
  · decide
  split
  · decide
  split
  · decide
  · decide
theorem ok_law_pick_word (T : Txt K mg A)  (g_law_draw : Okd P w K mg base CX0 1 A.law_draw P_law_draw spDraw) (g_law_names : Okd P w K mg base CX0 1 A.law_names P_law_names spNames) (g_law_choices : Okd P w K mg base CX0 1 A.law_choices P_law_choices spTwo) : Okd P w K mg base CX0 2 A.law_pick_word P_law_pick_word spPW := by
  obtain ⟨fd, F⟩ := T.d_law_pick_word
  obtain ⟨fd_law_draw, G_law_draw, b_law_draw⟩ := g_law_draw
  obtain ⟨fd_law_names, G_law_names, b_law_names⟩ := g_law_names
  obtain ⟨fd_law_choices, G_law_choices, b_law_choices⟩ := g_law_choices
  refine ⟨fd, F.ok sc_law_pick_word (fun vs H Q E h => ?_) (fun cdv A' outer s H vs Q E hr h => ?_), F.binds fun _ _ _ _ _ _ us hl => match us, hl with | [_, _, _], _ => rfl⟩
  · obtain ⟨b, n, cl, rfl, _⟩ := h
    rfl
  · obtain ⟨b, n, cl, rfl, B, k⟩ := h
    refine ⟨_, (pss_cons (ps_set (i := 3) sc_law_pick_word.nd rfl (Or.inl rfl) (pe_lst (pa_cons pe_str (pa_cons pe_str (pa_cons pe_str (pa_cons pe_str (pa_cons pe_str (pa_cons pe_str (pa_cons pe_str (pa_cons pe_str (pa_cons pe_str (pa_cons pe_str (pa_cons pe_str (pa_cons pe_str (pa_cons pe_str (pa_cons pe_str (pa_cons pe_str (pa_cons pe_str pa_nil))))))))))))))))))
      (pss_cons (ps_set (i := 4) sc_law_pick_word.nd rfl (Or.inl rfl) (pe_cmpR op_eq (pe_call G_law_draw (hr.mono (by decide)) (by rfl) T.g_law_draw T.k_law_draw b_law_draw .nil pass0 (pa_cons (pv 0) (pa_cons pe_int pa_nil))) pe_int (nomark _)))
      (pss_cons (ps_if (PW.pt (pw_and (pt_cmpR op_in_seq (pv 1) (pe_call0 G_law_names (hr.mono (by decide)) (by rfl) T.g_law_names T.k_law_names b_law_names .nil pass0) (by with_unfolding_all rfl)) (pw_and1 (PW.pt (pw_or (pt_val (pv 2)) (pw_or1 (pt_not (pt_val (pv 4))))))))) (pss_one (ps_ret (pe_ix ix_list (pe_call G_law_choices (hr.mono (by decide)) (by rfl) T.g_law_choices T.k_law_choices b_law_choices .nil pass0 (pa_cons (pv 1) pa_nil)) (pe_call G_law_draw (hr.mono (by decide)) (by rfl) T.g_law_draw T.k_law_draw b_law_draw .nil pass0 (pa_cons (pv 0) (pa_cons pe_int pa_nil))) (fun _ _ => rfl)))) pss_nil)
      (pss_one (ps_ret (pe_ix ix_list (pv 3) (pe_call G_law_draw (hr.mono (by decide)) (by rfl) T.g_law_draw T.k_law_draw b_law_draw .nil pass0 (pa_cons (pv 0) (pa_cons (pe_callB call_len_seq (by rfl) T.n_len PySem.boot_len (pa_cons (pv 3) pa_nil)) pa_nil))) (fun _ _ => rfl))))))), ?_⟩
    refine ⟨(by show 16 ≤ sizeLine; decide), fun q hq => ?_⟩
    have B1 : Strm (upd H q (.lst (wds.map V.str))) b := B.ex (Ex.new hq)
    have M1 : Mut b H (upd H q (.lst (wds.map V.str))) := Mut.of_ex (Ex.new hq)
    have hl : ListS (upd H q (.lst (wds.map V.str))) q wds := upd_same
    have nqb : q ≠ b := B.ne hq
    refine ⟨_, rfl, b, 3, rfl, by decide, by decide, B1, fun d H2 _ _ B2 M2 => ?_⟩
    refine ⟨rfl, ?_⟩
    refine ⟨_, rfl, rfl, fun p H3 hp e3 hl3 => ?_⟩
    refine ⟨p, _, rfl, Or.inl hl3.sz, rfl, flat_str _, _, rfl, ?_⟩
    have npb : p ≠ b := B2.ne hp
    have B3 : Strm H3 b := B2.ex e3
    have M3 : Mut b H H3 := (M1.trans M2).trans (Mut.of_ex e3)
    have hl3' : ListS H3 q wds := e3 _ _ (M2 _ _ nqb hl)
    refine ite_b (fun _ => ?_) (fun _ => ?_)
    · refine ⟨_, rfl, _, rfl, ?_⟩
      refine ite_b (fun _ => ?_) (fun _ => ?_)
      · refine iteT ?_
        refine ⟨_, rfl, n, rfl, fun p2 H4 hp2 e4 hl4 => ?_⟩
        refine ⟨_, rfl, b, 2, rfl, by decide, by decide, B3.ex e4, fun d H5 d0 d1 B5 M5 => ?_⟩
        obtain ⟨d, rfl⟩ := Int.eq_ofNat_of_zero_le d0
        have hd : d < 2 := by omega
        have np2 : p2 ≠ b := B3.ne hp2
        exact ⟨p2, _, _, _, rfl, rfl, SqL.of (M5 _ _ np2 hl4), two_at n hd, k _ _ (word_in n d hd) B5 ((M3.trans (Mut.of_ex e4)).trans M5)⟩
      · refine ⟨_, rfl, _, rfl, ?_⟩
        refine ite_b (fun _ => ?_) (fun _ => ?_)
        · refine ⟨_, rfl, n, rfl, fun p2 H4 hp2 e4 hl4 => ?_⟩
          refine ⟨_, rfl, b, 2, rfl, by decide, by decide, B3.ex e4, fun d H5 d0 d1 B5 M5 => ?_⟩
          obtain ⟨d, rfl⟩ := Int.eq_ofNat_of_zero_le d0
          have hd : d < 2 := by omega
          have np2 : p2 ≠ b := B3.ne hp2
          exact ⟨p2, _, _, _, rfl, rfl, SqL.of (M5 _ _ np2 hl4), two_at n hd, k _ _ (word_in n d hd) B5 ((M3.trans (Mut.of_ex e4)).trans M5)⟩
        · refine ⟨_, rfl, _, rfl, _, rfl, q, _, rfl, Or.inl (SqL.of hl3'), b, 16, rfl, by decide, by decide, B3, fun d H4 d0 d1 B4 M4 => ?_⟩
          obtain ⟨d, rfl⟩ := Int.eq_ofNat_of_zero_le d0
          have hd : d < 16 := by omega
          exact ⟨q, _, _, _, rfl, rfl, SqL.of (M4 _ _ nqb hl3'), atS (xs := wds) hd, k _ _ (wds_in d hd) B4 (M3.trans M4)⟩
    · refine iteF ?_
      refine ⟨_, rfl, _, rfl, _, rfl, q, _, rfl, Or.inl (SqL.of hl3'), b, 16, rfl, by decide, by decide, B3, fun d H4 d0 d1 B4 M4 => ?_⟩
      obtain ⟨d, rfl⟩ := Int.eq_ofNat_of_zero_le d0
      have hd : d < 16 := by omega
      exact ⟨q, _, _, _, rfl, rfl, SqL.of (M4 _ _ nqb hl3'), atS (xs := wds) hd, k _ _ (wds_in d hd) B4 (M3.trans M4)⟩

end

section
variable {P : Program} {w : World} {K : PySem.W.Frag} {mg : Str → Option Value} {base : Heap} {A : Ad}
/-- self, and behind it each parameter's word: written, or the one that it has by itself -/
def pkV {α : Type} (o : List (Bool × Nat)) (us mv ws : List α) : List α := us ++ o.filterMap fun q => match q with
  | (true, i) => ws[i]?
  | (false, i) => mv[i]?
theorem pk_one {zs : List V} {ws : List Value} (c : Vals zs ws) (i : Nat) : (zs[i]? = none ∧ ws[i]? = none) ∨ ∃ z u, zs[i]? = some z ∧ ws[i]? = some u ∧ RelV z u := by
  cases e : zs[i]? with
  | none =>
    refine .inl ⟨rfl, ?_⟩
    rw [List.getElem?_eq_none_iff] at e ⊢
    rw [← c.length]
    exact e
  | some z =>
    obtain ⟨u, hu, r⟩ := c.get e
    exact .inr ⟨z, u, rfl, hu, r⟩
theorem pk_rel (o : List (Bool × Nat)) {vs mz zs : List V} {us mv ws : List Value} (a : Vals vs us) (b : Vals mz mv) (c : Vals zs ws) : Vals (pkV o vs mz zs) (pkV o us mv ws) := by
  refine Vals.append a ?_
  induction o with
  | nil => exact .nil
  | cons q o ih =>
    obtain ⟨f, i⟩ := q
    cases f with
    | true =>
      rcases pk_one c i with ⟨e1, e2⟩ | ⟨z, u, e1, e2, r⟩
      · rw [List.filterMap_cons_none (by exact e1), List.filterMap_cons_none (by exact e2)]
        exact ih
      · rw [List.filterMap_cons_some (by exact e1), List.filterMap_cons_some (by exact e2)]
        exact .cons r ih
    | false =>
      rcases pk_one b i with ⟨e1, e2⟩ | ⟨z, u, e1, e2, r⟩
      · rw [List.filterMap_cons_none (by exact e1), List.filterMap_cons_none (by exact e2)]
        exact ih
      · rw [List.filterMap_cons_some (by exact e1), List.filterMap_cons_some (by exact e2)]
        exact .cons r ih
abbrev oI_none : List (Bool × Nat) := [(false, 0), (false, 1), (false, 2), (false, 3), (false, 4)]
abbrev mI_none : List (Str × V) := [("hook", V.str "back"), ("relay", V.str "near"), ("clamp", V.str "inner"), ("trail", V.str "near"), ("wheel", V.str "even")]
abbrev oI_hook : List (Bool × Nat) := [(true, 0), (false, 0), (false, 1), (false, 2), (false, 3)]
abbrev mI_hook : List (Str × V) := [("relay", V.str "near"), ("clamp", V.str "inner"), ("trail", V.str "near"), ("wheel", V.str "even")]
abbrev oI_relay : List (Bool × Nat) := [(false, 0), (true, 0), (false, 1), (false, 2), (false, 3)]
abbrev mI_relay : List (Str × V) := [("hook", V.str "back"), ("clamp", V.str "inner"), ("trail", V.str "near"), ("wheel", V.str "even")]
abbrev oI_clamp : List (Bool × Nat) := [(false, 0), (false, 1), (true, 0), (false, 2), (false, 3)]
abbrev mI_clamp : List (Str × V) := [("hook", V.str "back"), ("relay", V.str "near"), ("trail", V.str "near"), ("wheel", V.str "even")]
abbrev oI_trail : List (Bool × Nat) := [(false, 0), (false, 1), (false, 2), (true, 0), (false, 3)]
abbrev mI_trail : List (Str × V) := [("hook", V.str "back"), ("relay", V.str "near"), ("clamp", V.str "inner"), ("wheel", V.str "even")]
abbrev oI_wheel : List (Bool × Nat) := [(false, 0), (false, 1), (false, 2), (false, 3), (true, 0)]
abbrev mI_wheel : List (Str × V) := [("hook", V.str "back"), ("relay", V.str "near"), ("clamp", V.str "inner"), ("trail", V.str "near")]
abbrev oI_wheel_trail_clamp_relay_hook : List (Bool × Nat) := [(true, 4), (true, 3), (true, 2), (true, 1), (true, 0)]
abbrev mI_wheel_trail_clamp_relay_hook : List (Str × V) := []
abbrev oI_trail_hook : List (Bool × Nat) := [(true, 1), (false, 0), (false, 1), (true, 0), (false, 2)]
abbrev mI_trail_hook : List (Str × V) := [("relay", V.str "near"), ("clamp", V.str "inner"), ("wheel", V.str "even")]
abbrev oI_hook_relay_clamp_trail_wheel : List (Bool × Nat) := [(true, 0), (true, 1), (true, 2), (true, 3), (true, 4)]
abbrev mI_hook_relay_clamp_trail_wheel : List (Str × V) := []
structure Ways (K : PySem.W.Frag) (fd : FuncData) : Prop where
  k_none : ∃ mv : List Value, KBn K fd P_m_init 1 [] (fun us ws => pkV oI_none us mv ws) (fun vs zs => pkV oI_none vs (mI_none.map (·.2)) zs)
  k_hook : ∃ mv : List Value, KBn K fd P_m_init 1 ["hook"] (fun us ws => pkV oI_hook us mv ws) (fun vs zs => pkV oI_hook vs (mI_hook.map (·.2)) zs)
  k_relay : ∃ mv : List Value, KBn K fd P_m_init 1 ["relay"] (fun us ws => pkV oI_relay us mv ws) (fun vs zs => pkV oI_relay vs (mI_relay.map (·.2)) zs)
  k_clamp : ∃ mv : List Value, KBn K fd P_m_init 1 ["clamp"] (fun us ws => pkV oI_clamp us mv ws) (fun vs zs => pkV oI_clamp vs (mI_clamp.map (·.2)) zs)
  k_trail : ∃ mv : List Value, KBn K fd P_m_init 1 ["trail"] (fun us ws => pkV oI_trail us mv ws) (fun vs zs => pkV oI_trail vs (mI_trail.map (·.2)) zs)
  k_wheel : ∃ mv : List Value, KBn K fd P_m_init 1 ["wheel"] (fun us ws => pkV oI_wheel us mv ws) (fun vs zs => pkV oI_wheel vs (mI_wheel.map (·.2)) zs)
  k_wheel_trail_clamp_relay_hook : ∃ mv : List Value, KBn K fd P_m_init 1 ["wheel", "trail", "clamp", "relay", "hook"] (fun us ws => pkV oI_wheel_trail_clamp_relay_hook us mv ws) (fun vs zs => pkV oI_wheel_trail_clamp_relay_hook vs (mI_wheel_trail_clamp_relay_hook.map (·.2)) zs)
  k_trail_hook : ∃ mv : List Value, KBn K fd P_m_init 1 ["trail", "hook"] (fun us ws => pkV oI_trail_hook us mv ws) (fun vs zs => pkV oI_trail_hook vs (mI_trail_hook.map (·.2)) zs)
  k_hook_relay_clamp_trail_wheel : ∃ mv : List Value, KBn K fd P_m_init 1 ["hook", "relay", "clamp", "trail", "wheel"] (fun us ws => pkV oI_hook_relay_clamp_trail_wheel us mv ws) (fun vs zs => pkV oI_hook_relay_clamp_trail_wheel vs (mI_hook_relay_clamp_trail_wheel.map (·.2)) zs)
theorem ways {K : PySem.W.Frag} {A : Ad} {fd : FuncData} (F : FunD K "__init__" "Rules.__init__" (defArgs s_m_init) (defBody s_m_init) (defScope s_m_init) [] kwsR A.m_init fd) : Ways K fd where
  k_none := by
    refine F.kbinds0 1 [] mI_none (fun us mv ws => pkV oI_none us mv ws) (by decide) (by decide) (fun a b c => pk_rel _ a b c) ?_
    intro D doc pm an cdv ct us mv ws l1 l2 l3
    match us, l1, mv, l2, ws, l3 with
    | [u], _, [m0, m1, m2, m3, m4], _, [], _ => exact ⟨_, _, _, _, _, _, rfl, rfl, ⟨_, _, _, _, _, _, rfl, rfl, ⟨_, _, _, _, _, _, rfl, rfl, ⟨_, _, _, _, _, _, rfl, rfl, ⟨_, _, _, _, _, _, rfl, rfl, rfl⟩⟩⟩⟩⟩
  k_hook := by
    refine F.kbinds0 1 ["hook"] mI_hook (fun us mv ws => pkV oI_hook us mv ws) (by decide) (by decide) (fun a b c => pk_rel _ a b c) ?_
    intro D doc pm an cdv ct us mv ws l1 l2 l3
    match us, l1, mv, l2, ws, l3 with
    | [u], _, [m0, m1, m2, m3], _, [w0], _ => exact ⟨_, _, _, _, _, _, rfl, rfl, ⟨_, _, _, _, _, _, rfl, rfl, ⟨_, _, _, _, _, _, rfl, rfl, ⟨_, _, _, _, _, _, rfl, rfl, rfl⟩⟩⟩⟩
  k_relay := by
    refine F.kbinds0 1 ["relay"] mI_relay (fun us mv ws => pkV oI_relay us mv ws) (by decide) (by decide) (fun a b c => pk_rel _ a b c) ?_
    intro D doc pm an cdv ct us mv ws l1 l2 l3
    match us, l1, mv, l2, ws, l3 with
    | [u], _, [m0, m1, m2, m3], _, [w0], _ => exact ⟨_, _, _, _, _, _, rfl, rfl, ⟨_, _, _, _, _, _, rfl, rfl, ⟨_, _, _, _, _, _, rfl, rfl, ⟨_, _, _, _, _, _, rfl, rfl, rfl⟩⟩⟩⟩
  k_clamp := by
    refine F.kbinds0 1 ["clamp"] mI_clamp (fun us mv ws => pkV oI_clamp us mv ws) (by decide) (by decide) (fun a b c => pk_rel _ a b c) ?_
    intro D doc pm an cdv ct us mv ws l1 l2 l3
    match us, l1, mv, l2, ws, l3 with
    | [u], _, [m0, m1, m2, m3], _, [w0], _ => exact ⟨_, _, _, _, _, _, rfl, rfl, ⟨_, _, _, _, _, _, rfl, rfl, ⟨_, _, _, _, _, _, rfl, rfl, ⟨_, _, _, _, _, _, rfl, rfl, rfl⟩⟩⟩⟩
  k_trail := by
    refine F.kbinds0 1 ["trail"] mI_trail (fun us mv ws => pkV oI_trail us mv ws) (by decide) (by decide) (fun a b c => pk_rel _ a b c) ?_
    intro D doc pm an cdv ct us mv ws l1 l2 l3
    match us, l1, mv, l2, ws, l3 with
    | [u], _, [m0, m1, m2, m3], _, [w0], _ => exact ⟨_, _, _, _, _, _, rfl, rfl, ⟨_, _, _, _, _, _, rfl, rfl, ⟨_, _, _, _, _, _, rfl, rfl, ⟨_, _, _, _, _, _, rfl, rfl, rfl⟩⟩⟩⟩
  k_wheel := by
    refine F.kbinds0 1 ["wheel"] mI_wheel (fun us mv ws => pkV oI_wheel us mv ws) (by decide) (by decide) (fun a b c => pk_rel _ a b c) ?_
    intro D doc pm an cdv ct us mv ws l1 l2 l3
    match us, l1, mv, l2, ws, l3 with
    | [u], _, [m0, m1, m2, m3], _, [w0], _ => exact ⟨_, _, _, _, _, _, rfl, rfl, ⟨_, _, _, _, _, _, rfl, rfl, ⟨_, _, _, _, _, _, rfl, rfl, ⟨_, _, _, _, _, _, rfl, rfl, rfl⟩⟩⟩⟩
  k_wheel_trail_clamp_relay_hook := by
    refine F.kbinds0 1 ["wheel", "trail", "clamp", "relay", "hook"] mI_wheel_trail_clamp_relay_hook (fun us mv ws => pkV oI_wheel_trail_clamp_relay_hook us mv ws) (by decide) (by decide) (fun a b c => pk_rel _ a b c) ?_
    intro D doc pm an cdv ct us mv ws l1 l2 l3
    match us, l1, mv, l2, ws, l3 with
    | [u], _, [], _, [w0, w1, w2, w3, w4], _ => exact rfl
  k_trail_hook := by
    refine F.kbinds0 1 ["trail", "hook"] mI_trail_hook (fun us mv ws => pkV oI_trail_hook us mv ws) (by decide) (by decide) (fun a b c => pk_rel _ a b c) ?_
    intro D doc pm an cdv ct us mv ws l1 l2 l3
    match us, l1, mv, l2, ws, l3 with
    | [u], _, [m0, m1, m2], _, [w0, w1], _ => exact ⟨_, _, _, _, _, _, rfl, rfl, ⟨_, _, _, _, _, _, rfl, rfl, ⟨_, _, _, _, _, _, rfl, rfl, rfl⟩⟩⟩
  k_hook_relay_clamp_trail_wheel := by
    refine F.kbinds0 1 ["hook", "relay", "clamp", "trail", "wheel"] mI_hook_relay_clamp_trail_wheel (fun us mv ws => pkV oI_hook_relay_clamp_trail_wheel us mv ws) (by decide) (by decide) (fun a b c => pk_rel _ a b c) ?_
    intro D doc pm an cdv ct us mv ws l1 l2 l3
    match us, l1, mv, l2, ws, l3 with
    | [u], _, [], _, [w0, w1, w2, w3, w4], _ => exact rfl
/-- __init__ of the class: as a def, and how its keywords bind -/
def OkI (P : Program) (w : World) (K : PySem.W.Frag) (mg : Str → Option Value) (base : Heap) (A : Ad) : Prop := ∃ fd, FnOk P w K mg base (L2N.CX P w) 4 A.m_init fd P_m_init (spIn A) ∧ Ways K fd
def dvR : List V := [.str "back", .str "near", .str "inner", .str "near", .str "even"]
/-- .. called where an exception is handled, without a word -/
def OkIH (P : Program) (w : World) (K : PySem.W.Frag) (mg : Str → Option Value) (base : Heap) (A : Ad) (sp : Sp) : Prop := ∃ fd, L2H.FnH P w K mg base CX0 4 A.m_init fd P_m_init sp ∧ ∃ ds, Vals dvR ds ∧ Binds K fd P_m_init ds
theorem Ways.none {K : PySem.W.Frag} {fd : FuncData} (W : Ways K fd) : ∃ ds, Vals dvR ds ∧ Binds K fd P_m_init ds := by
  obtain ⟨mv, b⟩ := W.k_none
  have r : Vals dvR (pkV oI_none [] mv []) := b.rel .nil .nil
  refine ⟨pkV oI_none [] mv [], r, b.binds (fun u => rfl) ?_⟩
  have := r.length
  show 6 = _
  rw [← this]
  rfl
end

section
variable {P : Program} {w : World} {K : PySem.W.Frag} {mg : Str → Option Value} {base : Heap} {A : Ad}
theorem num_eq {bs cs : List Nat} (hb : Bits bs) (hc : Bits cs) : decide (V.int (numF bs : Nat) = V.int (numF cs : Nat)) = decide (bs = cs) := by
  rw [dec_int, Bool.eq_iff_iff, beq_iff_eq, decide_eq_true_eq]
  refine ⟨fun z => ?_, fun z => by rw [z]⟩
  rw [← bitsOf_num hb, ← bitsOf_num hc, show numF bs = numF cs by omega]
theorem Ru.at {A : Ad} {H : Hp} {a c : Addr} {bs : List Nat} (R : Ru A H a c bs) : ∃ dx, H a = some (.ins A.Rules dx [("_choices", .ref c)]) := by
  obtain ⟨dx, kvs, ha, r⟩ := R
  exact ⟨dx, ha⟩
theorem Ru.bits {A : Ad} {H : Hp} {a c : Addr} {bs : List Nat} (R : Ru A H a c bs) : Bits bs := by
  obtain ⟨dx, kvs, ha, hc, hl, hb, r⟩ := R
  exact hb
theorem Txt.ty {K : PySem.W.Frag} {mg : Str → Option Value} {A : Ad} (T : Txt K mg A) {H : Hp} {a c : Addr} {bs : List Nat} (R : Ru A H a c bs) : TyX K H (.ref a) (.ref A.Rules) := by
  obtain ⟨dx, ha⟩ := R.at
  exact TyX.base (TyOf.ins ha T.cR T.cc T.cn T.ct T.co)
theorem rep_len : ∀ n, n < 32 → ((Str.empty ++ ("Rules(" : Str)) ++ (toString ((n : Nat) : Int) : String)).length ≤ 1000 ∧ (((Str.empty ++ ("Rules(" : Str)) ++ (toString ((n : Nat) : Int) : String)) ++ (")" : Str)).length ≤ 1000 := by decide +kernel
theorem rep_is : ∀ n, n < 32 → ((Str.empty ++ ("Rules(" : Str)) ++ (toString ((n : Nat) : Int) : String)) ++ (")" : Str) = repF n := by decide +kernel
theorem ok_m_eq (T : Txt K mg A)  (g_m_number : Okd P w K mg base CX0 1 A.m_number P_m_number (spNum A)) : Okd P w K mg base CX0 3 A.m_eq P_m_eq (spEq A) := by
  obtain ⟨fd, F⟩ := T.d_m_eq
  obtain ⟨fd_m_number, G_m_number, b_m_number⟩ := g_m_number
  refine ⟨fd, F.ok sc_m_eq (fun vs H Q E h => ?_) (fun cdv A' outer s H vs Q E hr h => ?_), F.binds fun _ _ _ _ _ _ us hl => match us, hl with | [_, _], _ => rfl⟩
  · obtain ⟨a, c, b, d, bs, cs, rfl, _⟩ := h
    rfl
  · obtain ⟨a, c, b, d, bs, cs, rfl, R, S, k⟩ := h
    refine ⟨_, (pss_one (ps_ret (pe_and (pe_callB call_isi (by rfl) T.n_isinstance (by decide +kernel) (pa_cons (pv 1) (pa_cons (pe_glob (v := .ref A.Rules) rfl T.g_Rules rfl) pa_nil))) (pe_one (pe_cmpR op_eq (pe_prop (pv 0) T.cR T.pp_number G_m_number (hr.mono (by decide)) b_m_number .nil pass0 rfl) (pe_prop (pv 1) T.cR T.pp_number G_m_number (hr.mono (by decide)) b_m_number .nil pass0 rfl) (nomark _)))))), ?_⟩
    obtain ⟨dx, ha⟩ := R.at
    obtain ⟨dy, hb⟩ := S.at
    refine ⟨_, rfl, _, _, _, _, true, rfl, ClsV.own _, T.ty S, kit_self, ?_⟩
    refine ⟨true, rfl, iteT ?_⟩
    refine ⟨_, rfl, a, dx, _, rfl, ha, a, c, bs, rfl, R, fun H1 e1 => ?_⟩
    refine ⟨_, rfl, b, dy, _, rfl, e1 _ _ hb, b, d, cs, rfl, S.ex e1, fun H2 e2 => ?_⟩
    refine ⟨rfl, ?_⟩
    rw [num_eq R.bits S.bits]
    exact k H2 (e1.trans e2)

end

section
variable {P : Program} {w : World} {K : PySem.W.Frag} {mg : Str → Option Value} {base : Heap} {A : Ad}
theorem ok_m_repr (T : Txt K mg A)  (g_m_number : Okd P w K mg base CX0 1 A.m_number P_m_number (spNum A)) : Okd P w K mg base CX0 3 A.m_repr P_m_repr (spRp A) := by
  obtain ⟨fd, F⟩ := T.d_m_repr
  obtain ⟨fd_m_number, G_m_number, b_m_number⟩ := g_m_number
  refine ⟨fd, F.ok sc_m_repr (fun vs H Q E h => ?_) (fun cdv A' outer s H vs Q E hr h => ?_), F.binds fun _ _ _ _ _ _ us hl => match us, hl with | [_], _ => rfl⟩
  · obtain ⟨a, c, bs, rfl, _⟩ := h
    rfl
  · obtain ⟨a, c, bs, rfl, R, k⟩ := h
    refine ⟨_, (pss_one (ps_ret (pe_joined (PJ.cons pe_str (PJ.cons (pe_fmt (pe_prop (pv 0) T.cR T.pp_number G_m_number (hr.mono (by decide)) b_m_number .nil pass0 rfl)) (PJ.cons pe_str PJ.nil)))))), ?_⟩
    obtain ⟨dx, ha⟩ := R.at
    have n32 := num_lt R.bits
    refine ⟨_, rfl, (by decide +kernel), _, rfl, a, dx, _, rfl, ha, a, c, bs, rfl, R, fun H1 e1 => ?_⟩
    refine Or.inr ⟨_, rfl, Nat.lt_of_le_of_lt (Nat.log2_le_self _) (by omega), ?_⟩
    obtain ⟨l1, l2⟩ := rep_len _ n32
    refine ⟨_, rfl, Nat.le_trans l1 (by decide), _, rfl, Nat.le_trans l2 (by decide), ?_⟩
    show Q (.str _) H1
    have z := k H1 e1
    rw [← rep_is _ n32] at z
    exact z

end

section
variable {P : Program} {w : World} {K : PySem.W.Frag} {mg : Str → Option Value} {base : Heap} {A : Ad}
theorem badF_eq (w0 w1 w2 w3 w4 : Str) : badF [w0, w1, w2, w3, w4] = match (!goodF "hook" w0) with
  | true => some 0
  | false => match (!goodF "relay" w1) with
    | true => some 1
    | false => match (!goodF "clamp" w2) with
      | true => some 2
      | false => match (!goodF "trail" w3) with
        | true => some 3
        | false => match (!goodF "wheel" w4) with
          | true => some 4
          | false => none := rfl
theorem bitsF_eq (w0 w1 w2 w3 w4 : Str) : bitsF [w0, w1, w2, w3, w4] = [bitF "hook" w0, bitF "relay" w1, bitF "clamp" w2, bitF "trail" w3, bitF "wheel" w4] := rfl
/-- within __init__: what the new object holds -/
structure Mid (A : Ad) (H : Hp) (a c dx : Addr) (kvs : List (Key × V)) (G : Hp) : Prop where
  at_ : G a = some (.ins A.Rules dx [("_choices", .ref c)])
  dk : G c = some (.dK kvs)
  old : ∀ b o, b ≠ a → H b = some o → G b = some o
theorem Mid.put {A : Ad} {H : Hp} {a c dx : Addr} {kvs ls : List (Key × V)} {G : Hp} (m : Mid A H a c dx kvs G) (nac : a ≠ c) (hc : H c = none) : Mid A H a c dx ls (upd G c (.dK ls)) :=
  ⟨by rw [upd_ne nac]; exact m.at_, upd_same, fun b o hb hH => by rw [upd_ne (ne_of_none hH hc)]; exact m.old b o hb hH⟩
def KS (s : Str) : Key := Sum.inr s
theorem put5 (v0 v1 v2 v3 v4 : V) : putK (putK (putK (putK (putK ([] : List (Key × V)) (KS "hook") v0) (KS "relay") v1) (KS "clamp") v2) (KS "trail") v3) (KS "wheel") v4 = [(KS "hook", v0), (KS "relay", v1), (KS "clamp", v2), (KS "trail", v3), (KS "wheel", v4)] := rfl
theorem put_len (k : Key) (v : V) (kvs : List (Key × V)) : (putK kvs k v).length ≤ kvs.length + 1 := by
  unfold putK
  split
  · rw [List.length_map]
    omega
  · rw [List.length_append]
    exact Nat.le_refl _
theorem good_word {n w : Str} (h : goodF n w = true) : wordF n (bitF n w) = w ∧ bitF n w < 2 := by
  unfold goodF at h
  rw [Bool.and_eq_true, List.contains_iff_mem, List.contains_iff_mem] at h
  have hi := List.idxOf_lt_length_of_mem h.2
  refine ⟨?_, by rw [two_len] at hi; exact hi⟩
  unfold wordF bitF
  rw [List.getD_eq_getElem?_getD, List.getElem?_eq_getElem hi, Option.getD_some]
  exact List.getElem_idxOf hi
theorem ok_m_init (T : Txt K mg A)  (g_m_change : Okd P w K mg base (L2N.CX P w) 3 A.m_change P_m_change (spCh A)) : OkI P w K mg base A := by
  obtain ⟨fd, F⟩ := T.d_m_init
  obtain ⟨fd_m_change, G_m_change, b_m_change⟩ := g_m_change
  refine ⟨fd, F.ok sc_m_init (fun vs H Q E h => ?_) (fun cdv A' outer s H vs Q E hr h => ?_), ways F⟩
  · obtain ⟨a, dx, w0, w1, w2, w3, w4, rfl, _⟩ := h
    rfl
  · obtain ⟨a, dx, w0, w1, w2, w3, w4, rfl, hw, ha, k, kr⟩ := h
    refine ⟨_, (pss_cons (ps_fld (pv 0) pe_dnewK rfl)
      (pss_cons (ps_expr (MkS.pe_methS (pv 0) T.cR T.mt_change G_m_change (hr.mono (by decide)) b_m_change (fun σ => L2N.passAt (L2N.takes_of rfl rfl rfl rfl) σ) (pa_cons pe_str (pa_cons (pv 1) pa_nil))))
      (pss_cons (ps_expr (MkS.pe_methS (pv 0) T.cR T.mt_change G_m_change (hr.mono (by decide)) b_m_change (fun σ => L2N.passAt (L2N.takes_of rfl rfl rfl rfl) σ) (pa_cons pe_str (pa_cons (pv 2) pa_nil))))
      (pss_cons (ps_expr (MkS.pe_methS (pv 0) T.cR T.mt_change G_m_change (hr.mono (by decide)) b_m_change (fun σ => L2N.passAt (L2N.takes_of rfl rfl rfl rfl) σ) (pa_cons pe_str (pa_cons (pv 3) pa_nil))))
      (pss_cons (ps_expr (MkS.pe_methS (pv 0) T.cR T.mt_change G_m_change (hr.mono (by decide)) b_m_change (fun σ => L2N.passAt (L2N.takes_of rfl rfl rfl rfl) σ) (pa_cons pe_str (pa_cons (pv 4) pa_nil))))
      (pss_one (ps_expr (MkS.pe_methS (pv 0) T.cR T.mt_change G_m_change (hr.mono (by decide)) b_m_change (fun σ => L2N.passAt (L2N.takes_of rfl rfl rfl rfl) σ) (pa_cons pe_str (pa_cons (pv 5) pa_nil)))))))))), ?_⟩
    refine fun c hc => ?_
    have nac : a ≠ c := ne_of_none ha hc
    refine ⟨_, rfl, a, _, dx, _, rfl, (by rw [upd_ne nac]; exact ha), T.cR, T.nc, (by decide), ?_⟩
    have M0 : Mid A H a c dx [] (upd (upd H c (.dK [])) a (.ins A.Rules dx (putF "_choices" (.ref c) []))) := by
      refine ⟨upd_same, by rw [upd_ne nac.symm, upd_same], fun b o hb hH => ?_⟩
      rw [upd_ne hb, upd_ne (ne_of_none hH hc)]
      exact hH
    generalize L2.upd (L2.upd H c (.dK [])) a _ = G0 at M0 ⊢
    refine ⟨_, rfl, a, dx, _, rfl, M0.at_, rfl, _, rfl, a, c, dx, _, "hook", w0, rfl, (by decide), hw _ (by simp), M0.at_, M0.dk, (Nat.le_of_ble_eq_true rfl), fun g0 => ?_, fun g d G e hd => kr 0 (by rw [badF_eq]; simp only [g]; rfl) d G (fun b o hb hH => e _ _ (M0.old b o hb hH)) hd⟩
    have M1 := M0.put (ls := putK ([] : List (Key × V)) (Sum.inr "hook") (.str w0)) nac hc
    generalize L2.upd _ c (.dK (putK ([] : List (Key × V)) (Sum.inr "hook") (.str w0))) = G1 at M1 ⊢
    refine ⟨_, rfl, a, dx, _, rfl, M1.at_, rfl, _, rfl, a, c, dx, _, "relay", w1, rfl, (by decide), hw _ (by simp), M1.at_, M1.dk, (Nat.le_of_ble_eq_true rfl), fun g1 => ?_, fun g d G e hd => kr 1 (by rw [badF_eq]; simp only [g0, g]; rfl) d G (fun b o hb hH => e _ _ (M1.old b o hb hH)) hd⟩
    have M2 := M1.put (ls := putK ((putK [] (Sum.inr "hook") (.str w0)) : List (Key × V)) (Sum.inr "relay") (.str w1)) nac hc
    generalize L2.upd _ c (.dK (putK ((putK [] (Sum.inr "hook") (.str w0)) : List (Key × V)) (Sum.inr "relay") (.str w1))) = G2 at M2 ⊢
    refine ⟨_, rfl, a, dx, _, rfl, M2.at_, rfl, _, rfl, a, c, dx, _, "clamp", w2, rfl, (by decide), hw _ (by simp), M2.at_, M2.dk, (Nat.le_of_ble_eq_true rfl), fun g2 => ?_, fun g d G e hd => kr 2 (by rw [badF_eq]; simp only [g0, g1, g]; rfl) d G (fun b o hb hH => e _ _ (M2.old b o hb hH)) hd⟩
    have M3 := M2.put (ls := putK ((putK (putK [] (Sum.inr "hook") (.str w0)) (Sum.inr "relay") (.str w1)) : List (Key × V)) (Sum.inr "clamp") (.str w2)) nac hc
    generalize L2.upd _ c (.dK (putK ((putK (putK [] (Sum.inr "hook") (.str w0)) (Sum.inr "relay") (.str w1)) : List (Key × V)) (Sum.inr "clamp") (.str w2))) = G3 at M3 ⊢
    refine ⟨_, rfl, a, dx, _, rfl, M3.at_, rfl, _, rfl, a, c, dx, _, "trail", w3, rfl, (by decide), hw _ (by simp), M3.at_, M3.dk, (Nat.le_of_ble_eq_true rfl), fun g3 => ?_, fun g d G e hd => kr 3 (by rw [badF_eq]; simp only [g0, g1, g2, g]; rfl) d G (fun b o hb hH => e _ _ (M3.old b o hb hH)) hd⟩
    have M4 := M3.put (ls := putK ((putK (putK (putK [] (Sum.inr "hook") (.str w0)) (Sum.inr "relay") (.str w1)) (Sum.inr "clamp") (.str w2)) : List (Key × V)) (Sum.inr "trail") (.str w3)) nac hc
    generalize L2.upd _ c (.dK (putK ((putK (putK (putK [] (Sum.inr "hook") (.str w0)) (Sum.inr "relay") (.str w1)) (Sum.inr "clamp") (.str w2)) : List (Key × V)) (Sum.inr "trail") (.str w3))) = G4 at M4 ⊢
    refine ⟨_, rfl, a, dx, _, rfl, M4.at_, rfl, _, rfl, a, c, dx, _, "wheel", w4, rfl, (by decide), hw _ (by simp), M4.at_, M4.dk, (Nat.le_of_ble_eq_true rfl), fun g4 => ?_, fun g d G e hd => kr 4 (by rw [badF_eq]; simp only [g0, g1, g2, g3, g]; rfl) d G (fun b o hb hH => e _ _ (M4.old b o hb hH)) hd⟩
    have M5 := M4.put (ls := putK ((putK (putK (putK (putK [] (Sum.inr "hook") (.str w0)) (Sum.inr "relay") (.str w1)) (Sum.inr "clamp") (.str w2)) (Sum.inr "trail") (.str w3)) : List (Key × V)) (Sum.inr "wheel") (.str w4)) nac hc
    generalize L2.upd _ c (.dK (putK ((putK (putK (putK (putK [] (Sum.inr "hook") (.str w0)) (Sum.inr "relay") (.str w1)) (Sum.inr "clamp") (.str w2)) (Sum.inr "trail") (.str w3)) : List (Key × V)) (Sum.inr "wheel") (.str w4))) = G5 at M5 ⊢
    refine k (by rw [badF_eq]; simp only [g0, g1, g2, g3, g4]; rfl) c G5 hc nac.symm M5.old ⟨dx, _, M5.at_, M5.dk, (Nat.le_of_ble_eq_true rfl), ⟨rfl, fun b hb => ?_⟩, fun i hi => ?_⟩
    · rw [bitsF_eq] at hb
      simp only [List.mem_cons, List.not_mem_nil, or_false] at hb
      rcases hb with rfl | rfl | rfl | rfl | rfl
      · exact (good_word g0).2
      · exact (good_word g1).2
      · exact (good_word g2).2
      · exact (good_word g3).2
      · exact (good_word g4).2
    · rw [bitsF_eq]
      match i, hi with
      | 0, _ => exact congrArg (fun z => some (V.str z)) (good_word g0).1.symm
      | 1, _ => exact congrArg (fun z => some (V.str z)) (good_word g1).1.symm
      | 2, _ => exact congrArg (fun z => some (V.str z)) (good_word g2).1.symm
      | 3, _ => exact congrArg (fun z => some (V.str z)) (good_word g3).1.symm
      | 4, _ => exact congrArg (fun z => some (V.str z)) (good_word g4).1.symm

end

section
variable {P : Program} {w : World} {K : PySem.W.Frag} {mg : Str → Option Value} {base : Heap} {A : Ad}
theorem bad_none {w0 w1 w2 w3 w4 : Str} (h : badF [w0, w1, w2, w3, w4] = none) : goodF "hook" w0 = true ∧ goodF "relay" w1 = true ∧ goodF "clamp" w2 = true ∧ goodF "trail" w3 = true ∧ goodF "wheel" w4 = true := by
  rw [badF_eq] at h
  cases g0 : goodF "hook" w0 <;> cases g1 : goodF "relay" w1 <;> cases g2 : goodF "clamp" w2 <;> cases g3 : goodF "trail" w3 <;> cases g4 : goodF "wheel" w4 <;> simp [g0, g1, g2, g3, g4] at h ⊢
theorem okh_m_init (T : Txt K mg A)   (h_m_change : Okh P w K mg base CX0 3 A.m_change P_m_change (spChG A)) : OkIH P w K mg base A (spInG A) := by
  obtain ⟨fd, F⟩ := T.d_m_init

  obtain ⟨fdh_m_change, H_m_change, hb_m_change⟩ := h_m_change
  refine ⟨fd, F.okH sc_m_init (fun vs H Q E h => ?_) (fun cdv A' outer s H vs Q E p hot hr h => ?_), (ways F).none⟩
  · obtain ⟨a, dx, w0, w1, w2, w3, w4, rfl, _⟩ := h
    rfl
  · obtain ⟨a, dx, w0, w1, w2, w3, w4, rfl, hw, ha, hbn, k⟩ := h
    refine ⟨_, (pss_cons (ps_fld (pv 0) pe_dnewK rfl)
      (pss_cons (ps_expr (L2H.pe_methH (pv 0) T.cR T.mt_change H_m_change (hr.mono (by decide)) ⟨p, ⟨hot.1, hot.2⟩, List.mem_cons_self⟩ hb_m_change (passH0 (fun _ => E0)) (pa_cons pe_str (pa_cons (pv 1) pa_nil))))
      (pss_cons (ps_expr (L2H.pe_methH (pv 0) T.cR T.mt_change H_m_change (hr.mono (by decide)) ⟨p, ⟨hot.1, hot.2⟩, List.mem_cons_self⟩ hb_m_change (passH0 (fun _ => E0)) (pa_cons pe_str (pa_cons (pv 2) pa_nil))))
      (pss_cons (ps_expr (L2H.pe_methH (pv 0) T.cR T.mt_change H_m_change (hr.mono (by decide)) ⟨p, ⟨hot.1, hot.2⟩, List.mem_cons_self⟩ hb_m_change (passH0 (fun _ => E0)) (pa_cons pe_str (pa_cons (pv 3) pa_nil))))
      (pss_cons (ps_expr (L2H.pe_methH (pv 0) T.cR T.mt_change H_m_change (hr.mono (by decide)) ⟨p, ⟨hot.1, hot.2⟩, List.mem_cons_self⟩ hb_m_change (passH0 (fun _ => E0)) (pa_cons pe_str (pa_cons (pv 4) pa_nil))))
      (pss_one (ps_expr (L2H.pe_methH (pv 0) T.cR T.mt_change H_m_change (hr.mono (by decide)) ⟨p, ⟨hot.1, hot.2⟩, List.mem_cons_self⟩ hb_m_change (passH0 (fun _ => E0)) (pa_cons pe_str (pa_cons (pv 5) pa_nil)))))))))), ?_⟩
    obtain ⟨g0, g1, g2, g3, g4⟩ := bad_none hbn
    refine fun c hc => ?_
    have nac : a ≠ c := ne_of_none ha hc
    refine ⟨_, rfl, a, _, dx, _, rfl, (by rw [upd_ne nac]; exact ha), T.cR, T.nc, (by decide), ?_⟩
    have M0 : Mid A H a c dx [] (upd (upd H c (.dK [])) a (.ins A.Rules dx (putF "_choices" (.ref c) []))) := by
      refine ⟨upd_same, by rw [upd_ne nac.symm, upd_same], fun b o hb hH => ?_⟩
      rw [upd_ne hb, upd_ne (ne_of_none hH hc)]
      exact hH
    generalize L2.upd (L2.upd H c (.dK [])) a _ = G0 at M0 ⊢
    refine ⟨_, rfl, a, dx, _, rfl, M0.at_, rfl, _, rfl, a, c, dx, _, "hook", w0, rfl, (by decide), hw _ (by simp), M0.at_, M0.dk, (Nat.le_of_ble_eq_true rfl), g0, ?_⟩
    have M1 := M0.put (ls := putK ([] : List (Key × V)) (Sum.inr "hook") (.str w0)) nac hc
    generalize L2.upd _ c (.dK (putK ([] : List (Key × V)) (Sum.inr "hook") (.str w0))) = G1 at M1 ⊢
    refine ⟨_, rfl, a, dx, _, rfl, M1.at_, rfl, _, rfl, a, c, dx, _, "relay", w1, rfl, (by decide), hw _ (by simp), M1.at_, M1.dk, (Nat.le_of_ble_eq_true rfl), g1, ?_⟩
    have M2 := M1.put (ls := putK ((putK [] (Sum.inr "hook") (.str w0)) : List (Key × V)) (Sum.inr "relay") (.str w1)) nac hc
    generalize L2.upd _ c (.dK (putK ((putK [] (Sum.inr "hook") (.str w0)) : List (Key × V)) (Sum.inr "relay") (.str w1))) = G2 at M2 ⊢
    refine ⟨_, rfl, a, dx, _, rfl, M2.at_, rfl, _, rfl, a, c, dx, _, "clamp", w2, rfl, (by decide), hw _ (by simp), M2.at_, M2.dk, (Nat.le_of_ble_eq_true rfl), g2, ?_⟩
    have M3 := M2.put (ls := putK ((putK (putK [] (Sum.inr "hook") (.str w0)) (Sum.inr "relay") (.str w1)) : List (Key × V)) (Sum.inr "clamp") (.str w2)) nac hc
    generalize L2.upd _ c (.dK (putK ((putK (putK [] (Sum.inr "hook") (.str w0)) (Sum.inr "relay") (.str w1)) : List (Key × V)) (Sum.inr "clamp") (.str w2))) = G3 at M3 ⊢
    refine ⟨_, rfl, a, dx, _, rfl, M3.at_, rfl, _, rfl, a, c, dx, _, "trail", w3, rfl, (by decide), hw _ (by simp), M3.at_, M3.dk, (Nat.le_of_ble_eq_true rfl), g3, ?_⟩
    have M4 := M3.put (ls := putK ((putK (putK (putK [] (Sum.inr "hook") (.str w0)) (Sum.inr "relay") (.str w1)) (Sum.inr "clamp") (.str w2)) : List (Key × V)) (Sum.inr "trail") (.str w3)) nac hc
    generalize L2.upd _ c (.dK (putK ((putK (putK (putK [] (Sum.inr "hook") (.str w0)) (Sum.inr "relay") (.str w1)) (Sum.inr "clamp") (.str w2)) : List (Key × V)) (Sum.inr "trail") (.str w3))) = G4 at M4 ⊢
    refine ⟨_, rfl, a, dx, _, rfl, M4.at_, rfl, _, rfl, a, c, dx, _, "wheel", w4, rfl, (by decide), hw _ (by simp), M4.at_, M4.dk, (Nat.le_of_ble_eq_true rfl), g4, ?_⟩
    have M5 := M4.put (ls := putK ((putK (putK (putK (putK [] (Sum.inr "hook") (.str w0)) (Sum.inr "relay") (.str w1)) (Sum.inr "clamp") (.str w2)) (Sum.inr "trail") (.str w3)) : List (Key × V)) (Sum.inr "wheel") (.str w4)) nac hc
    generalize L2.upd _ c (.dK (putK ((putK (putK (putK (putK [] (Sum.inr "hook") (.str w0)) (Sum.inr "relay") (.str w1)) (Sum.inr "clamp") (.str w2)) (Sum.inr "trail") (.str w3)) : List (Key × V)) (Sum.inr "wheel") (.str w4))) = G5 at M5 ⊢
    refine k c G5 hc nac.symm M5.old ⟨dx, _, M5.at_, M5.dk, (Nat.le_of_ble_eq_true rfl), ⟨rfl, fun b hb => ?_⟩, fun i hi => ?_⟩
    · rw [bitsF_eq] at hb
      simp only [List.mem_cons, List.not_mem_nil, or_false] at hb
      rcases hb with rfl | rfl | rfl | rfl | rfl
      · exact (good_word g0).2
      · exact (good_word g1).2
      · exact (good_word g2).2
      · exact (good_word g3).2
      · exact (good_word g4).2
    · rw [bitsF_eq]
      match i, hi with
      | 0, _ => exact congrArg (fun z => some (V.str z)) (good_word g0).1.symm
      | 1, _ => exact congrArg (fun z => some (V.str z)) (good_word g1).1.symm
      | 2, _ => exact congrArg (fun z => some (V.str z)) (good_word g2).1.symm
      | 3, _ => exact congrArg (fun z => some (V.str z)) (good_word g3).1.symm
      | 4, _ => exact congrArg (fun z => some (V.str z)) (good_word g4).1.symm

end

section
variable {P : Program} {w : World} {K : PySem.W.Frag} {mg : Str → Option Value} {base : Heap} {A : Ad}
theorem upd_none {H : Hp} {p q : Addr} {o : HO} (h : upd H p o q = none) : q ≠ p ∧ H q = none := by
  have ne : q ≠ p := fun e => by
    rw [e, upd_same] at h
    cases h
  rw [upd_ne ne] at h
  exact ⟨ne, h⟩
theorem new_of {A : Ad} {H G H' : Hp} {c dx cc : Addr} {bs : List Nat} {Q : VK} (k : New A H bs Q) (e : Ex H G) (hc : G c = none) (hdx : G dx = none) (hcc : upd (upd G dx (.own c)) c (.ins A.Rules dx []) cc = none)
    (old : ∀ b o, b ≠ c → upd (upd G dx (.own c)) c (.ins A.Rules dx []) b = some o → H' b = some o) (R : Ru A H' c cc bs) : Q (.ref c) H' := by
  have z := upd_none (upd_none hcc).2
  refine k c cc H' (back_none e hc) (back_none e z.2) (fun b o hb => ?_) R
  have hg := e b o hb
  refine old b o (ne_of_none hg hc) ?_
  rw [upd_ne (ne_of_none hg hc), upd_ne (ne_of_none hg hdx)]
  exact hg
theorem old_ex {A : Ad} {G H' : Hp} {c dx : Addr} (hc : G c = none) (hdx : G dx = none) (old : ∀ b o, b ≠ c → upd (upd G dx (.own c)) c (.ins A.Rules dx []) b = some o → H' b = some o) : Ex G H' := fun b o hg => by
  refine old b o (ne_of_none hg hc) ?_
  rw [upd_ne (ne_of_none hg hc), upd_ne (ne_of_none hg hdx)]
  exact hg
def wordsOf (bs : List Nat) : List Str := (List.range 5).map fun i => wordF (nm5.getD i "") (bs.getD i 0)
theorem words_of {bs : List Nat} (h : Bits bs) : badF (wordsOf bs) = none ∧ bitsF (wordsOf bs) = bs ∧ ∀ w ∈ wordsOf bs, w ∈ wds := by
  obtain ⟨b0, b1, b2, b3, b4, rfl, h0, h1, h2, h3, h4⟩ := h.ex5
  have c0 : b0 = 0 ∨ b0 = 1 := by omega
  have c1 : b1 = 0 ∨ b1 = 1 := by omega
  have c2 : b2 = 0 ∨ b2 = 1 := by omega
  have c3 : b3 = 0 ∨ b3 = 1 := by omega
  have c4 : b4 = 0 ∨ b4 = 1 := by omega
  rcases c0 with rfl | rfl <;> rcases c1 with rfl | rfl <;> rcases c2 with rfl | rfl <;> rcases c3 with rfl | rfl <;> rcases c4 with rfl | rfl <;> decide +kernel
theorem and_bit : ∀ v, v < 32 → ∀ i, i < 5 → Builtin.bitAnd (((v : Nat) : Int) / 2 ^ ((i : Nat) : Int).toNat) 1 = (((bitsOf v).getD i 0 : Nat) : Int) := by decide +kernel
theorem ok_m_numbered (T : Txt K mg A) (hW : WdK w K A.WORDS) (g_m_init : OkI P w K mg base A) (g_InvalidNumber : Okd P w K mg base CX0 1 A.i_InvalidNumber P_InvalidNumber (spInit A.InvalidNumber "value")) : Okd P w K mg base (L2N.CX P w) 6 A.m_numbered P_m_numbered (spNd A) := by
  obtain ⟨fd, F⟩ := T.d_m_numbered
  obtain ⟨fd_InvalidNumber, G_InvalidNumber, b_InvalidNumber⟩ := g_InvalidNumber
  obtain ⟨fd_m_init, G_m_init, WY⟩ := g_m_init
  obtain ⟨mv_hook_relay_clamp_trail_wheel, kb_hook_relay_clamp_trail_wheel⟩ := WY.k_hook_relay_clamp_trail_wheel
  refine ⟨fd, F.okN sc_m_numbered (fun vs H Q E h => ?_) (fun cdv A' outer s H vs Q E hr h => ?_), F.binds fun _ _ _ _ _ _ us hl => match us, hl with | [_, _], _ => rfl⟩
  · obtain ⟨v, rfl, _⟩ := h
    rfl
  · obtain ⟨v, rfl, k, kr⟩ := h
    refine ⟨_, (pss_cons (ps_if (PW.pt (pw_or (pt_cmpR op_lt (pv 1) pe_int (nomark _)) (pw_or1 (pt_cmpR op_ge (pv 1) (ClX.pe_cval (pe_glob (v := .ref A.Rules) rfl T.g_Rules rfl)) (nomark _))))) (pss_one (L2N.ps_raise rfl (L2N.takes_of rfl rfl rfl rfl) (L2N.pmk_oexN T.e_InvalidNumber.oex T.f_InvalidNumber.i T.f_InvalidNumber.t G_InvalidNumber (hr.mono (by decide)) b_InvalidNumber pass0 rfl T.e_InvalidNumber.g (pa_cons (pv 1) pa_nil)))) pss_nil)
      (pss_cons (ps_setLc (i := 2) (own := [("at", 3), ("name", 4)]) (g := gTup K 2 (gCons (gName 3) (gCons (gName 4) gNil))) (tt := tYes) (by rfl) sc_m_numbered.nd rfl rfl (sw_true rfl rfl rfl (by decide +kernel)) (EnT.pi_enumT (by rfl) T.n_enumerate (pa_cons (ClX.pe_cval (pe_glob (v := .ref A.Rules) rfl T.g_Rules rfl)) pa_nil)) (blkOk_by (own := [("at", 3), ("name", 4)]) (N := N_m_numbered) (sc := defScope s_m_numbered) (by decide +kernel)) (fun _ _ _ _ _ => (pg_tup (by rfl) (pgs_cons (pg_name (i := 3) sc_m_numbered.nd rfl (Or.inl rfl)) (pgs_cons (pg_name (i := 4) sc_m_numbered.nd rfl (Or.inl rfl)) pgs_nil)))) (fun _ _ _ _ _ => pts_nil) (fun _ _ _ _ _ => (pe_ix (ix_tupK (K := K) rfl) (pe_ix (ix_kdictK (K := K) (w := w) rfl rfl) (pe_glob (v := .ref A.WORDS) rfl T.g_WORDS rfl) (pv 4) (fun _ _ => rfl)) (pe_op op_and (pe_op op_shr (pv 1) (pv 3)) pe_int) (fun _ _ => rfl))))
      (pss_one (ps_ret (MkS.pe_makeLS (i := 0) T.mkR G_m_init (hr.mono (by decide)) rfl (by first | exact Or.inl rfl | exact Or.inr (Or.inl rfl)) kb_hook_relay_clamp_trail_wheel (fun σ => L2N.passAt (L2N.takes_of rfl rfl rfl rfl) σ) (pk_cons (pe_ix ix_list (pv 2) pe_int (fun _ _ => rfl)) (pk_cons (pe_ix ix_list (pv 2) pe_int (fun _ _ => rfl)) (pk_cons (pe_ix ix_list (pv 2) pe_int (fun _ _ => rfl)) (pk_cons (pe_ix ix_list (pv 2) pe_int (fun _ _ => rfl)) (pk_cons (pe_ix ix_list (pv 2) pe_int (fun _ _ => rfl)) pk_nil)))))))))), ?_⟩
    refine ⟨_, rfl, _, _, rfl, rfl, _, rfl, ?_⟩
    have raise : ¬ (0 ≤ v ∧ v < 32) → RzN A v H E := kr
    refine ite_b (fun c1 => ?_) (fun c1 => ?_)
    · refine iteT ?_
      have c1 := of_decide_eq_true c1
      exact ⟨_, rfl, (by show 1 ≤ 1000; decide), mkO_go fun d G e hd => raise (fun z => by omega) d G e hd⟩
    have c1 := of_decide_eq_false c1
    obtain ⟨uc, cv⟩ := T.cv_COUNT
    refine ⟨_, rfl, A.Rules, _, _, _, rfl, T.rd, cv, _, _, rfl, rfl, _, rfl, ?_⟩
    refine ite_b (fun c2 => ?_) (fun c2 => ?_)
    · have c2 := of_decide_eq_true c2
      exact ⟨_, rfl, (by show 1 ≤ 1000; decide), mkO_go fun d G e hd => raise (fun z => by omega) d G e hd⟩
    have c2 := of_decide_eq_false c2
    obtain ⟨n, rfl⟩ := Int.eq_ofNat_of_zero_le (show 0 ≤ v by omega)
    have hn : n < 32 := by omega
    have k := k (by omega) (by omega)
    rw [Int.toNat_natCast] at k
    have hB := bits_of n
    refine ⟨_, _, _, _, rfl, T.rd, T.cv_NAMES, _, _, rfl, T.tN H, fun D hD => ?_⟩
    refine lc_it (EnT.walk_enumT (xs := nm5.map V.str)) (fun i H' => Ex H H' ∧ H' D = some (.lst (((wordsOf (bitsOf n)).take i).map V.str))) ⟨Ex.new hD, upd_same⟩ (fun i H' _ _ => T.tN H') ?_ ?_
    · rintro i x H' H2 hi ⟨e, hd⟩ ⟨T0, y1, y2, rfl, hT, rfl, q1, q2⟩
      cases q1
      obtain ⟨hi5, rfl⟩ := nm5_at q2
      obtain ⟨p, hp, hq⟩ := hW.yes _ (nm5_mem hi5)
      have kd : KDct K w A.WORDS (nm5.getD i "") (.ref p) := ⟨hW.es, hW.n, _, hW.kd.at_, hW.kd.lit, hp, rfl⟩
      have nDT : D ≠ T0 := ne_of_none hd hT
      refine ⟨T0, _, rfl, SqT.of upd_same, rfl, _, _, rfl, _, _, rfl, rfl, rfl, ?_⟩
      refine ⟨_, rfl, A.WORDS, _, _, rfl, rfl, kd, _, rfl, _, rfl, _, _, rfl, rfl, by omega, _, _, rfl, rfl, ?_⟩
      rw [show (fun i j : Int => V.int (Builtin.bitAnd i j)) (((n : Nat) : Int) / 2 ^ ((i : Nat) : Int).toNat) 1 = V.int (((bitsOf n).getD i 0 : Nat) : Int) from congrArg V.int (and_bit n hn i hi5)]
      refine ⟨p, _, _, _, rfl, rfl, hq _, two_at _ (hB.at hi5), ?_⟩
      refine ⟨_, (by rw [upd_ne nDT]; exact hd), small1000 (by rw [List.length_map, List.length_take]; omega), ?_, ?_⟩
      · exact fun b o ho => by
          rw [upd_ne (ne_of_none ho hD), upd_ne (ne_of_none (e b o ho) hT)]
          exact e b o ho
      · rw [upd_same, List.take_add_one, List.map_append]
        have z : (wordsOf (bitsOf n))[i]? = some (wordF (nm5.getD i "") ((bitsOf n).getD i 0)) := by
          unfold wordsOf
          rw [List.getElem?_map, List.getElem?_range hi5]
          rfl
        rw [z]
        rfl
    · rintro H1 ⟨e, hd⟩
      have hd : H1 D = some (.lst ((wordsOf (bitsOf n)).map V.str)) := hd
      obtain ⟨w1, w2, w3⟩ := words_of hB
      have sz : SqL K H1 D ((wordsOf (bitsOf n)).map V.str) := SqL.of hd
      refine ⟨rfl, ?_⟩
      refine ⟨_, rfl, D, _, _, _, rfl, rfl, sz, rfl, ?_⟩
      refine ⟨_, rfl, D, _, _, _, rfl, rfl, sz, rfl, ?_⟩
      refine ⟨_, rfl, D, _, _, _, rfl, rfl, sz, rfl, ?_⟩
      refine ⟨_, rfl, D, _, _, _, rfl, rfl, sz, rfl, ?_⟩
      refine ⟨_, rfl, D, _, _, _, rfl, rfl, sz, rfl, ?_⟩
      refine ⟨rfl, fun c dx hc hdx ndx => ?_⟩
      refine ⟨c, dx, _, _, _, _, _, rfl, w3, upd_same, fun _ cc H' hcc ncc old R => ⟨rfl, ?_⟩, fun i hi => ?_⟩
      · refine new_of k e hc hdx hcc old ?_
        have z : bitsF (wordsOf (bitsOf n)) = bitsOf n := w2
        rw [← z]
        exact R
      · have z : badF (wordsOf (bitsOf n)) = some i := hi
        rw [w1] at z
        cases z

end

section
variable {P : Program} {w : World} {K : PySem.W.Frag} {mg : Str → Option Value} {base : Heap} {A : Ad}
theorem ok_m_copy (T : Txt K mg A)  (g_m_numbered : Okd P w K mg base (L2N.CX P w) 6 A.m_numbered P_m_numbered (spNd A)) (g_m_number : Okd P w K mg base CX0 1 A.m_number P_m_number (spNum A)) : Okd P w K mg base (L2N.CX P w) 7 A.m_copy P_m_copy (spCp A) := by
  obtain ⟨fd, F⟩ := T.d_m_copy
  obtain ⟨fd_m_numbered, G_m_numbered, b_m_numbered⟩ := g_m_numbered
  obtain ⟨fd_m_number, G_m_number, b_m_number⟩ := g_m_number
  refine ⟨fd, F.okN sc_m_copy (fun vs H Q E h => ?_) (fun cdv A' outer s H vs Q E hr h => ?_), F.binds fun _ _ _ _ _ _ us hl => match us, hl with | [_], _ => rfl⟩
  · obtain ⟨a, c, bs, rfl, _⟩ := h
    rfl
  · obtain ⟨a, c, bs, rfl, R, k⟩ := h
    refine ⟨_, (pss_one (ps_ret (MkS.pe_cmethS (pe_glob (v := .ref A.Rules) rfl T.g_Rules rfl) T.rd T.cm G_m_numbered (hr.mono (by decide)) b_m_numbered (fun σ => L2N.passAt (L2N.takes_of rfl rfl rfl rfl) σ) (pa_cons (pe_prop (pv 0) T.cR T.pp_number G_m_number (hr.mono (by decide)) b_m_number .nil pass0 rfl) pa_nil)))), ?_⟩
    obtain ⟨dx, ha⟩ := R.at
    have n32 := num_lt R.bits
    refine ⟨rfl, _, rfl, a, dx, _, rfl, ha, a, c, bs, rfl, R, fun H1 e1 => ?_⟩
    refine ⟨_, rfl, fun _ _ => ?_, fun z => absurd (show 0 ≤ ((numF bs : Nat) : Int) ∧ ((numF bs : Nat) : Int) < 32 by omega) z⟩
    rw [Int.toNat_natCast, bitsOf_num R.bits]
    exact k.mono e1

end

section
variable {P : Program} {w : World} {K : PySem.W.Frag} {mg : Str → Option Value} {base : Heap} {A : Ad}
def pick5 (b0 b1 b2 b3 b4 : Bool) : Option Nat := match b0 with
  | true => some 0
  | false => match b1 with
    | true => some 1
    | false => match b2 with
      | true => some 2
      | false => match b3 with
        | true => some 3
        | false => match b4 with
          | true => some 4
          | false => none
theorem bad_pick (x0 x1 x2 x3 x4 : Str) : badF [x0, x1, x2, x3, x4] = pick5 (!goodF "hook" x0) (!goodF "relay" x1) (!goodF "clamp" x2) (!goodF "trail" x3) (!goodF "wheel" x4) := rfl
theorem due_eq {way : Nat} (hw : way < 9) (ws : List Str) : dueB way ws = badF (callF way ws) ∧ dueF way ws = bitsF (callF way ws) := by
  match way, hw with
  | 0, _ =>
    refine ⟨?_, rfl⟩
    show (none) = pick5 (!goodF "hook" "back") (!goodF "relay" "near") (!goodF "clamp" "inner") (!goodF "trail" "near") (!goodF "wheel" "even")
    rfl
  | 1, _ =>
    refine ⟨?_, rfl⟩
    show (match (!goodF "hook" (ws.getD 0 "")) with
      | true => some 0
      | false => none) = pick5 (!goodF "hook" (ws.getD 0 "")) (!goodF "relay" "near") (!goodF "clamp" "inner") (!goodF "trail" "near") (!goodF "wheel" "even")
    cases goodF "hook" (ws.getD 0 "") <;> rfl
  | 2, _ =>
    refine ⟨?_, rfl⟩
    show (match (!goodF "relay" (ws.getD 1 "")) with
      | true => some 1
      | false => none) = pick5 (!goodF "hook" "back") (!goodF "relay" (ws.getD 1 "")) (!goodF "clamp" "inner") (!goodF "trail" "near") (!goodF "wheel" "even")
    cases goodF "relay" (ws.getD 1 "") <;> rfl
  | 3, _ =>
    refine ⟨?_, rfl⟩
    show (match (!goodF "clamp" (ws.getD 2 "")) with
      | true => some 2
      | false => none) = pick5 (!goodF "hook" "back") (!goodF "relay" "near") (!goodF "clamp" (ws.getD 2 "")) (!goodF "trail" "near") (!goodF "wheel" "even")
    cases goodF "clamp" (ws.getD 2 "") <;> rfl
  | 4, _ =>
    refine ⟨?_, rfl⟩
    show (match (!goodF "trail" (ws.getD 3 "")) with
      | true => some 3
      | false => none) = pick5 (!goodF "hook" "back") (!goodF "relay" "near") (!goodF "clamp" "inner") (!goodF "trail" (ws.getD 3 "")) (!goodF "wheel" "even")
    cases goodF "trail" (ws.getD 3 "") <;> rfl
  | 5, _ =>
    refine ⟨?_, rfl⟩
    show (match (!goodF "wheel" (ws.getD 4 "")) with
      | true => some 4
      | false => none) = pick5 (!goodF "hook" "back") (!goodF "relay" "near") (!goodF "clamp" "inner") (!goodF "trail" "near") (!goodF "wheel" (ws.getD 4 ""))
    cases goodF "wheel" (ws.getD 4 "") <;> rfl
  | 6, _ =>
    refine ⟨?_, rfl⟩
    show (match (!goodF "hook" (ws.getD 0 "")) with
      | true => some 0
      | false => match (!goodF "relay" (ws.getD 1 "")) with
        | true => some 1
        | false => match (!goodF "clamp" (ws.getD 2 "")) with
          | true => some 2
          | false => match (!goodF "trail" (ws.getD 3 "")) with
            | true => some 3
            | false => match (!goodF "wheel" (ws.getD 4 "")) with
              | true => some 4
              | false => none) = pick5 (!goodF "hook" (ws.getD 0 "")) (!goodF "relay" (ws.getD 1 "")) (!goodF "clamp" (ws.getD 2 "")) (!goodF "trail" (ws.getD 3 "")) (!goodF "wheel" (ws.getD 4 ""))
    cases goodF "hook" (ws.getD 0 "") <;> cases goodF "relay" (ws.getD 1 "") <;> cases goodF "clamp" (ws.getD 2 "") <;> cases goodF "trail" (ws.getD 3 "") <;> cases goodF "wheel" (ws.getD 4 "") <;> rfl
  | 7, _ =>
    refine ⟨?_, rfl⟩
    show (match (!goodF "hook" (ws.getD 0 "")) with
      | true => some 0
      | false => match (!goodF "trail" (ws.getD 3 "")) with
        | true => some 3
        | false => none) = pick5 (!goodF "hook" (ws.getD 0 "")) (!goodF "relay" "near") (!goodF "clamp" "inner") (!goodF "trail" (ws.getD 3 "")) (!goodF "wheel" "even")
    cases goodF "hook" (ws.getD 0 "") <;> cases goodF "trail" (ws.getD 3 "") <;> rfl
  | 8, _ =>
    refine ⟨?_, rfl⟩
    show (match (!goodF "hook" (ws.getD 0 "")) with
      | true => some 0
      | false => match (!goodF "relay" (ws.getD 1 "")) with
        | true => some 1
        | false => match (!goodF "clamp" (ws.getD 2 "")) with
          | true => some 2
          | false => match (!goodF "trail" (ws.getD 3 "")) with
            | true => some 3
            | false => match (!goodF "wheel" (ws.getD 4 "")) with
              | true => some 4
              | false => none) = pick5 (!goodF "hook" (ws.getD 0 "")) (!goodF "relay" (ws.getD 1 "")) (!goodF "clamp" (ws.getD 2 "")) (!goodF "trail" (ws.getD 3 "")) (!goodF "wheel" (ws.getD 4 ""))
    cases goodF "hook" (ws.getD 0 "") <;> cases goodF "relay" (ws.getD 1 "") <;> cases goodF "clamp" (ws.getD 2 "") <;> cases goodF "trail" (ws.getD 3 "") <;> cases goodF "wheel" (ws.getD 4 "") <;> rfl
theorem call_in {way : Nat} (hw : way < 9) {ws : List Str} (h : ∀ w ∈ ws, w ∈ wds) (h5 : ws.length = 5) : ∀ w ∈ callF way ws, w ∈ wds := by
  intro w hm
  unfold callF at hm
  rw [List.mem_map] at hm
  obtain ⟨i, hi, rfl⟩ := hm
  rw [List.mem_range] at hi
  split
  · rw [List.getD_eq_getElem?_getD, List.getElem?_eq_getElem (by omega)]
    exact h _ (List.getElem_mem _)
  · exact word_in _ 0 (by decide)
theorem wordsI {H : Hp} {K : PySem.W.Frag} {p : Addr} {ws : List Str} (h : Words H p ws) {i : Nat} (hi : i < 5) : atI (ws.map V.str) (i : Int) = some (V.str (ws.getD i "")) := atS (by rw [h.2.1]; exact hi)
/-- the end of each way to call -/
theorem called_end {A : Ad} {H : Hp} {way : Nat} {ws : List Str} {Q : VK} {E : XK} (hw : way < 9) (k : dueB way ws = none → New A H (dueF way ws) Q) (kr : ∀ i, dueB way ws = some i → RzR A (nm5.getD i "") H E) {c dx : Addr} (hc : H c = none) (hdx : H dx = none) :
    (badF (callF way ws) = none → ∀ cc H', upd (upd H dx (.own c)) c (.ins A.Rules dx []) cc = none → cc ≠ c → (∀ b o, b ≠ c → upd (upd H dx (.own c)) c (.ins A.Rules dx []) b = some o → H' b = some o) → Ru A H' c cc (bitsF (callF way ws)) → Q (.ref c) H') ∧
    (∀ i, badF (callF way ws) = some i → ∀ d H', (∀ b o, b ≠ c → upd (upd H dx (.own c)) c (.ins A.Rules dx []) b = some o → H' b = some o) → H' d = some (.xd [("name", .str (nm5.getD i ""))]) → E (.ref A.InvalidRules) (some d) H') := by
  obtain ⟨e1, e2⟩ := due_eq hw ws
  rw [← e1, ← e2]
  exact ⟨fun hb cc H' hcc _ old R => new_of (k hb) (Ex.refl _) hc hdx hcc old R, fun i hi d H' old hd => kr i hi d H' (old_ex (A := A) hc hdx old) hd⟩
theorem ok_law_called (T : Txt K mg A) (g_m_init : OkI P w K mg base A)  : Okd P w K mg base (L2N.CX P w) 6 A.law_called P_law_called (spCalled A) := by
  obtain ⟨fd, F⟩ := T.d_law_called

  obtain ⟨fd_m_init, G_m_init, WY⟩ := g_m_init
  obtain ⟨mv_none, kb_none⟩ := WY.k_none
  obtain ⟨mv_hook, kb_hook⟩ := WY.k_hook
  obtain ⟨mv_relay, kb_relay⟩ := WY.k_relay
  obtain ⟨mv_clamp, kb_clamp⟩ := WY.k_clamp
  obtain ⟨mv_trail, kb_trail⟩ := WY.k_trail
  obtain ⟨mv_wheel, kb_wheel⟩ := WY.k_wheel
  obtain ⟨mv_wheel_trail_clamp_relay_hook, kb_wheel_trail_clamp_relay_hook⟩ := WY.k_wheel_trail_clamp_relay_hook
  obtain ⟨mv_trail_hook, kb_trail_hook⟩ := WY.k_trail_hook
  obtain ⟨mv_hook_relay_clamp_trail_wheel, kb_hook_relay_clamp_trail_wheel⟩ := WY.k_hook_relay_clamp_trail_wheel
  refine ⟨fd, F.okN sc_law_called (fun vs H Q E h => ?_) (fun cdv A' outer s H vs Q E hr h => ?_), F.binds fun _ _ _ _ _ _ us hl => match us, hl with | [_, _], _ => rfl⟩
  · obtain ⟨way, p, ws, rfl, _⟩ := h
    rfl
  · obtain ⟨way, p, ws, rfl, hw9, W, k, kr⟩ := h
    refine ⟨_, (pss_cons (ps_if (pt_cmpR op_eq (pv 0) pe_int (nomark _)) (pss_one (ps_ret (MkS.pe_makeS T.mkR G_m_init (hr.mono (by decide)) (by rfl) T.g_Rules kb_none (fun σ => L2N.passAt (L2N.takes_of rfl rfl rfl rfl) σ) pk_nil))) pss_nil)
      (pss_cons (ps_if (pt_cmpR op_eq (pv 0) pe_int (nomark _)) (pss_one (ps_ret (MkS.pe_makeS T.mkR G_m_init (hr.mono (by decide)) (by rfl) T.g_Rules kb_hook (fun σ => L2N.passAt (L2N.takes_of rfl rfl rfl rfl) σ) (pk_cons (pe_ix ix_list (pv 1) pe_int (fun _ _ => rfl)) pk_nil)))) pss_nil)
      (pss_cons (ps_if (pt_cmpR op_eq (pv 0) pe_int (nomark _)) (pss_one (ps_ret (MkS.pe_makeS T.mkR G_m_init (hr.mono (by decide)) (by rfl) T.g_Rules kb_relay (fun σ => L2N.passAt (L2N.takes_of rfl rfl rfl rfl) σ) (pk_cons (pe_ix ix_list (pv 1) pe_int (fun _ _ => rfl)) pk_nil)))) pss_nil)
      (pss_cons (ps_if (pt_cmpR op_eq (pv 0) pe_int (nomark _)) (pss_one (ps_ret (MkS.pe_makeS T.mkR G_m_init (hr.mono (by decide)) (by rfl) T.g_Rules kb_clamp (fun σ => L2N.passAt (L2N.takes_of rfl rfl rfl rfl) σ) (pk_cons (pe_ix ix_list (pv 1) pe_int (fun _ _ => rfl)) pk_nil)))) pss_nil)
      (pss_cons (ps_if (pt_cmpR op_eq (pv 0) pe_int (nomark _)) (pss_one (ps_ret (MkS.pe_makeS T.mkR G_m_init (hr.mono (by decide)) (by rfl) T.g_Rules kb_trail (fun σ => L2N.passAt (L2N.takes_of rfl rfl rfl rfl) σ) (pk_cons (pe_ix ix_list (pv 1) pe_int (fun _ _ => rfl)) pk_nil)))) pss_nil)
      (pss_cons (ps_if (pt_cmpR op_eq (pv 0) pe_int (nomark _)) (pss_one (ps_ret (MkS.pe_makeS T.mkR G_m_init (hr.mono (by decide)) (by rfl) T.g_Rules kb_wheel (fun σ => L2N.passAt (L2N.takes_of rfl rfl rfl rfl) σ) (pk_cons (pe_ix ix_list (pv 1) pe_int (fun _ _ => rfl)) pk_nil)))) pss_nil)
      (pss_cons (ps_if (pt_cmpR op_eq (pv 0) pe_int (nomark _)) (pss_one (ps_ret (MkS.pe_makeS T.mkR G_m_init (hr.mono (by decide)) (by rfl) T.g_Rules kb_wheel_trail_clamp_relay_hook (fun σ => L2N.passAt (L2N.takes_of rfl rfl rfl rfl) σ) (pk_cons (pe_ix ix_list (pv 1) pe_int (fun _ _ => rfl)) (pk_cons (pe_ix ix_list (pv 1) pe_int (fun _ _ => rfl)) (pk_cons (pe_ix ix_list (pv 1) pe_int (fun _ _ => rfl)) (pk_cons (pe_ix ix_list (pv 1) pe_int (fun _ _ => rfl)) (pk_cons (pe_ix ix_list (pv 1) pe_int (fun _ _ => rfl)) pk_nil)))))))) pss_nil)
      (pss_cons (ps_if (pt_cmpR op_eq (pv 0) pe_int (nomark _)) (pss_one (ps_ret (MkS.pe_makeS T.mkR G_m_init (hr.mono (by decide)) (by rfl) T.g_Rules kb_trail_hook (fun σ => L2N.passAt (L2N.takes_of rfl rfl rfl rfl) σ) (pk_cons (pe_ix ix_list (pv 1) pe_int (fun _ _ => rfl)) (pk_cons (pe_ix ix_list (pv 1) pe_int (fun _ _ => rfl)) pk_nil))))) pss_nil)
      (pss_one (ps_ret (MkS.pe_makeS T.mkR G_m_init (hr.mono (by decide)) (by rfl) T.g_Rules kb_hook_relay_clamp_trail_wheel (fun σ => L2N.passAt (L2N.takes_of rfl rfl rfl rfl) σ) (pk_cons (pe_ix ix_list (pv 1) pe_int (fun _ _ => rfl)) (pk_cons (pe_ix ix_list (pv 1) pe_int (fun _ _ => rfl)) (pk_cons (pe_ix ix_list (pv 1) pe_int (fun _ _ => rfl)) (pk_cons (pe_ix ix_list (pv 1) pe_int (fun _ _ => rfl)) (pk_cons (pe_ix ix_list (pv 1) pe_int (fun _ _ => rfl)) pk_nil)))))))))))))))), ?_⟩
    have sz := W.1.sz (K := K)
    refine ⟨_, rfl, rfl, _, rfl, ?_⟩
    refine ite_b (fun c0 => ?_) (fun c0 => ?_)
    · rw [dec_int, beq_iff_eq] at c0
      have e : way = 0 := by omega
      subst e
      refine ⟨rfl, fun c dx hc hdx ndx => ?_⟩
      obtain ⟨f1, f2⟩ := called_end (way := 0) (ws := ws) (by decide) k kr hc hdx
      exact ⟨c, dx, _, _, _, _, _, rfl, call_in (way := 0) (by decide) W.2.2 W.2.1, upd_same, fun g cc H2 h1 h2 h3 h4 => ⟨rfl, f1 g cc H2 h1 h2 h3 h4⟩, f2⟩
    rw [dec_int, beq_eq_false_iff_ne] at c0
    refine ⟨_, rfl, rfl, _, rfl, ?_⟩
    refine ite_b (fun c1 => ?_) (fun c1 => ?_)
    · rw [dec_int, beq_iff_eq] at c1
      have e : way = 1 := by omega
      subst e
      refine ⟨_, rfl, p, _, _, _, rfl, rfl, sz, wordsI (K := K) W (i := 0) (by decide), ?_⟩
      refine ⟨rfl, fun c dx hc hdx ndx => ?_⟩
      obtain ⟨f1, f2⟩ := called_end (way := 1) (ws := ws) (by decide) k kr hc hdx
      exact ⟨c, dx, _, _, _, _, _, rfl, call_in (way := 1) (by decide) W.2.2 W.2.1, upd_same, fun g cc H2 h1 h2 h3 h4 => ⟨rfl, f1 g cc H2 h1 h2 h3 h4⟩, f2⟩
    rw [dec_int, beq_eq_false_iff_ne] at c1
    refine ⟨_, rfl, rfl, _, rfl, ?_⟩
    refine ite_b (fun c2 => ?_) (fun c2 => ?_)
    · rw [dec_int, beq_iff_eq] at c2
      have e : way = 2 := by omega
      subst e
      refine ⟨_, rfl, p, _, _, _, rfl, rfl, sz, wordsI (K := K) W (i := 1) (by decide), ?_⟩
      refine ⟨rfl, fun c dx hc hdx ndx => ?_⟩
      obtain ⟨f1, f2⟩ := called_end (way := 2) (ws := ws) (by decide) k kr hc hdx
      exact ⟨c, dx, _, _, _, _, _, rfl, call_in (way := 2) (by decide) W.2.2 W.2.1, upd_same, fun g cc H2 h1 h2 h3 h4 => ⟨rfl, f1 g cc H2 h1 h2 h3 h4⟩, f2⟩
    rw [dec_int, beq_eq_false_iff_ne] at c2
    refine ⟨_, rfl, rfl, _, rfl, ?_⟩
    refine ite_b (fun c3 => ?_) (fun c3 => ?_)
    · rw [dec_int, beq_iff_eq] at c3
      have e : way = 3 := by omega
      subst e
      refine ⟨_, rfl, p, _, _, _, rfl, rfl, sz, wordsI (K := K) W (i := 2) (by decide), ?_⟩
      refine ⟨rfl, fun c dx hc hdx ndx => ?_⟩
      obtain ⟨f1, f2⟩ := called_end (way := 3) (ws := ws) (by decide) k kr hc hdx
      exact ⟨c, dx, _, _, _, _, _, rfl, call_in (way := 3) (by decide) W.2.2 W.2.1, upd_same, fun g cc H2 h1 h2 h3 h4 => ⟨rfl, f1 g cc H2 h1 h2 h3 h4⟩, f2⟩
    rw [dec_int, beq_eq_false_iff_ne] at c3
    refine ⟨_, rfl, rfl, _, rfl, ?_⟩
    refine ite_b (fun c4 => ?_) (fun c4 => ?_)
    · rw [dec_int, beq_iff_eq] at c4
      have e : way = 4 := by omega
      subst e
      refine ⟨_, rfl, p, _, _, _, rfl, rfl, sz, wordsI (K := K) W (i := 3) (by decide), ?_⟩
      refine ⟨rfl, fun c dx hc hdx ndx => ?_⟩
      obtain ⟨f1, f2⟩ := called_end (way := 4) (ws := ws) (by decide) k kr hc hdx
      exact ⟨c, dx, _, _, _, _, _, rfl, call_in (way := 4) (by decide) W.2.2 W.2.1, upd_same, fun g cc H2 h1 h2 h3 h4 => ⟨rfl, f1 g cc H2 h1 h2 h3 h4⟩, f2⟩
    rw [dec_int, beq_eq_false_iff_ne] at c4
    refine ⟨_, rfl, rfl, _, rfl, ?_⟩
    refine ite_b (fun c5 => ?_) (fun c5 => ?_)
    · rw [dec_int, beq_iff_eq] at c5
      have e : way = 5 := by omega
      subst e
      refine ⟨_, rfl, p, _, _, _, rfl, rfl, sz, wordsI (K := K) W (i := 4) (by decide), ?_⟩
      refine ⟨rfl, fun c dx hc hdx ndx => ?_⟩
      obtain ⟨f1, f2⟩ := called_end (way := 5) (ws := ws) (by decide) k kr hc hdx
      exact ⟨c, dx, _, _, _, _, _, rfl, call_in (way := 5) (by decide) W.2.2 W.2.1, upd_same, fun g cc H2 h1 h2 h3 h4 => ⟨rfl, f1 g cc H2 h1 h2 h3 h4⟩, f2⟩
    rw [dec_int, beq_eq_false_iff_ne] at c5
    refine ⟨_, rfl, rfl, _, rfl, ?_⟩
    refine ite_b (fun c6 => ?_) (fun c6 => ?_)
    · rw [dec_int, beq_iff_eq] at c6
      have e : way = 6 := by omega
      subst e
      refine ⟨_, rfl, p, _, _, _, rfl, rfl, sz, wordsI (K := K) W (i := 4) (by decide), ?_⟩
      refine ⟨_, rfl, p, _, _, _, rfl, rfl, sz, wordsI (K := K) W (i := 3) (by decide), ?_⟩
      refine ⟨_, rfl, p, _, _, _, rfl, rfl, sz, wordsI (K := K) W (i := 2) (by decide), ?_⟩
      refine ⟨_, rfl, p, _, _, _, rfl, rfl, sz, wordsI (K := K) W (i := 1) (by decide), ?_⟩
      refine ⟨_, rfl, p, _, _, _, rfl, rfl, sz, wordsI (K := K) W (i := 0) (by decide), ?_⟩
      refine ⟨rfl, fun c dx hc hdx ndx => ?_⟩
      obtain ⟨f1, f2⟩ := called_end (way := 6) (ws := ws) (by decide) k kr hc hdx
      exact ⟨c, dx, _, _, _, _, _, rfl, call_in (way := 6) (by decide) W.2.2 W.2.1, upd_same, fun g cc H2 h1 h2 h3 h4 => ⟨rfl, f1 g cc H2 h1 h2 h3 h4⟩, f2⟩
    rw [dec_int, beq_eq_false_iff_ne] at c6
    refine ⟨_, rfl, rfl, _, rfl, ?_⟩
    refine ite_b (fun c7 => ?_) (fun c7 => ?_)
    · rw [dec_int, beq_iff_eq] at c7
      have e : way = 7 := by omega
      subst e
      refine ⟨_, rfl, p, _, _, _, rfl, rfl, sz, wordsI (K := K) W (i := 3) (by decide), ?_⟩
      refine ⟨_, rfl, p, _, _, _, rfl, rfl, sz, wordsI (K := K) W (i := 0) (by decide), ?_⟩
      refine ⟨rfl, fun c dx hc hdx ndx => ?_⟩
      obtain ⟨f1, f2⟩ := called_end (way := 7) (ws := ws) (by decide) k kr hc hdx
      exact ⟨c, dx, _, _, _, _, _, rfl, call_in (way := 7) (by decide) W.2.2 W.2.1, upd_same, fun g cc H2 h1 h2 h3 h4 => ⟨rfl, f1 g cc H2 h1 h2 h3 h4⟩, f2⟩
    rw [dec_int, beq_eq_false_iff_ne] at c7
    have e : way = 8 := by omega
    subst e
    refine ⟨_, rfl, p, _, _, _, rfl, rfl, sz, wordsI (K := K) W (i := 0) (by decide), ?_⟩
    refine ⟨_, rfl, p, _, _, _, rfl, rfl, sz, wordsI (K := K) W (i := 1) (by decide), ?_⟩
    refine ⟨_, rfl, p, _, _, _, rfl, rfl, sz, wordsI (K := K) W (i := 2) (by decide), ?_⟩
    refine ⟨_, rfl, p, _, _, _, rfl, rfl, sz, wordsI (K := K) W (i := 3) (by decide), ?_⟩
    refine ⟨_, rfl, p, _, _, _, rfl, rfl, sz, wordsI (K := K) W (i := 4) (by decide), ?_⟩
    refine ⟨rfl, fun c dx hc hdx ndx => ?_⟩
    obtain ⟨f1, f2⟩ := called_end (way := 8) (ws := ws) (by decide) k kr hc hdx
    exact ⟨c, dx, _, _, _, _, _, rfl, call_in (way := 8) (by decide) W.2.2 W.2.1, upd_same, fun g cc H2 h1 h2 h3 h4 => ⟨rfl, f1 g cc H2 h1 h2 h3 h4⟩, f2⟩

end

section
variable {P : Program} {w : World} {K : PySem.W.Frag} {mg : Str → Option Value} {base : Heap} {A : Ad}
def vals : List Int := [-1, 32, -32, 33, 64, 10 ^ 30]
theorem vals_lt : ∀ j (h : j < 6), (vals[j]'h).natAbs < 2 ^ 128 := by decide
theorem ok_law_value (T : Txt K mg A)  (g_law_draw : Okd P w K mg base CX0 1 A.law_draw P_law_draw spDraw) : Okd P w K mg base CX0 2 A.law_value P_law_value spVal := by
  obtain ⟨fd, F⟩ := T.d_law_value
  obtain ⟨fd_law_draw, G_law_draw, b_law_draw⟩ := g_law_draw
  refine ⟨fd, F.ok sc_law_value (fun vs H Q E h => ?_) (fun cdv A' outer s H vs Q E hr h => ?_), F.binds fun _ _ _ _ _ _ us hl => match us, hl with | [_], _ => rfl⟩
  · obtain ⟨b, rfl, _⟩ := h
    rfl
  · obtain ⟨b, rfl, B, k⟩ := h
    refine ⟨_, (pss_cons (ps_set (i := 1) sc_law_value.nd rfl (Or.inl rfl) (pe_call G_law_draw (hr.mono (by decide)) (by rfl) T.g_law_draw T.k_law_draw b_law_draw .nil pass0 (pa_cons (pv 0) (pa_cons pe_int pa_nil))))
      (pss_cons (ps_if (pt_cmpR op_eq (pv 1) pe_int (nomark _)) (pss_one (ps_ret (pe_ix ix_list (pe_lst (pa_cons (pe_un un_neg pe_int) (pa_cons pe_int (pa_cons (pe_un un_neg pe_int) (pa_cons pe_int (pa_cons pe_int (pa_cons (pe_op op_pow pe_int pe_int) pa_nil))))))) (pe_call G_law_draw (hr.mono (by decide)) (by rfl) T.g_law_draw T.k_law_draw b_law_draw .nil pass0 (pa_cons (pv 0) (pa_cons pe_int pa_nil))) (fun _ _ => rfl)))) pss_nil)
      (pss_cons (ps_if (pt_cmpR op_eq (pv 1) pe_int (nomark _)) (pss_one (ps_ret (pe_op op_sub (pe_call G_law_draw (hr.mono (by decide)) (by rfl) T.g_law_draw T.k_law_draw b_law_draw .nil pass0 (pa_cons (pv 0) (pa_cons pe_int pa_nil))) pe_int))) pss_nil)
      (pss_one (ps_ret (pe_call G_law_draw (hr.mono (by decide)) (by rfl) T.g_law_draw T.k_law_draw b_law_draw .nil pass0 (pa_cons (pv 0) (pa_cons pe_int pa_nil)))))))), ?_⟩
    refine ⟨_, rfl, b, 5, rfl, by decide, by decide, B, fun d H1 d0 d1 B1 M1 => ?_⟩
    refine ⟨_, rfl, rfl, _, rfl, ?_⟩
    refine ite_b (fun c => ?_) (fun c => ?_)
    · refine ⟨_, rfl, _, rfl, _, _, rfl, rfl, ⟨by decide, by decide, by decide⟩, (by show 6 ≤ sizeLine; decide), fun q hq => ?_⟩
      have hl : upd H1 q (.lst (vals.map V.int)) q = some (.lst (vals.map V.int)) := upd_same
      refine ⟨_, rfl, b, 6, rfl, by decide, by decide, B1.ex (Ex.new hq), fun d2 H2 e0 e1 B2 M2 => ?_⟩
      obtain ⟨j, rfl⟩ := Int.eq_ofNat_of_zero_le e0
      have hj : j < 6 := by omega
      have nqb : q ≠ b := B1.ne hq
      exact ⟨q, _, _, _, rfl, rfl, SqL.of (M2 _ _ nqb hl), at_map (xs := vals) hj, k _ _ (vals_lt j hj) B2 ((M1.trans (Mut.of_ex (Ex.new hq))).trans M2)⟩
    refine ⟨_, rfl, rfl, _, rfl, ?_⟩
    refine ite_b (fun c => ?_) (fun c => ?_)
    · refine ⟨_, rfl, b, 200, rfl, by decide, by decide, B1, fun d2 H2 e0 e1 B2 M2 => ?_⟩
      refine ⟨_, _, rfl, rfl, ?_⟩
      exact k _ _ (Nat.lt_of_le_of_lt (show (d2 - 80).natAbs ≤ 1000 by omega) (by decide)) B2 (M1.trans M2)
    · refine ⟨_, rfl, b, 32, rfl, by decide, by decide, B1, fun d2 H2 e0 e1 B2 M2 => ?_⟩
      exact k _ _ (Nat.lt_of_le_of_lt (show d2.natAbs ≤ 1000 by omega) (by decide)) B2 (M1.trans M2)

end

section
variable {P : Program} {w : World} {K : PySem.W.Frag} {mg : Str → Option Value} {base : Heap} {A : Ad}
theorem ne_self (v : V) : (!decide (v = v)) = false := by simp
theorem ne_ix {l : List Addr} (h : l.Nodup) (i j : Nat) {a b : Addr} (ha : l[i]? = some a) (hb : l[j]? = some b) (hij : i ≠ j) : a ≠ b := fun z => hij (nd_ix h ha (z ▸ hb))
theorem idxS {xs : List Str} {x : Str} (h : x ∈ xs) : (xs.map V.str)[xs.idxOf x]? = some (V.str x) := by
  have hi := List.idxOf_lt_length_of_mem h
  rw [List.getElem?_map, List.getElem?_eq_getElem hi]
  exact congrArg (fun z => some (V.str z)) (List.getElem_idxOf hi)
theorem idxN {xs : List Str} {x : Str} (m : Nat) (z : V) (hm : m < xs.idxOf x) (hz : (xs.map V.str)[m]? = some z) : eqV z (V.str x) = false := by
  rw [List.getElem?_map] at hz
  cases e : xs[m]? with
  | none =>
    rw [e] at hz
    cases hz
  | some y =>
    rw [e] at hz
    have hz := Option.some.inj hz
    subst hz
    show (y == x) = false
    rw [Bool.eq_false_iff]
    intro c
    have w : (xs[m]'(Nat.lt_of_lt_of_le hm (List.idxOf_le_length ..)) == x) = false := List.not_of_lt_findIdx (p := (· == x)) (xs := xs) hm
    obtain ⟨hl, rfl⟩ := List.getElem?_eq_some_iff.mp e
    rw [c] at w
    cases w
theorem eqS (x : Str) : eqV (V.str x) (V.str x) = true := by
  show (x == x) = true
  exact beq_self_eq_true x
theorem bitsI {H : Hp} {K : PySem.W.Frag} {p : Addr} {bs : List Nat} (h : ListN H p bs) (hb : Bits bs) {i : Nat} (hi : i < 5) : atI (nI bs) (i : Int) = some (V.int ((bs.getD i 0 : Nat) : Int)) := atN (by rw [hb.len]; exact hi)
theorem pl_lt {n : Str} (h : n ∈ nm5) : pl n < 5 := List.idxOf_lt_length_of_mem h
theorem ok_law_chosen (T : Txt K mg A)  (g_law_names : Okd P w K mg base CX0 1 A.law_names P_law_names spNames) (g_m_choice : Okd P w K mg base (L2N.CX P w) 3 A.m_choice P_m_choice (spCo A)) (g_law_choices : Okd P w K mg base CX0 1 A.law_choices P_law_choices spTwo) : Okd P w K mg base CX0 4 A.law_chosen P_law_chosen (spChn A) := by
  obtain ⟨fd, F⟩ := T.d_law_chosen
  obtain ⟨fd_law_names, G_law_names, b_law_names⟩ := g_law_names
  obtain ⟨fd_m_choice, G_m_choice, b_m_choice⟩ := g_m_choice
  obtain ⟨fd_law_choices, G_law_choices, b_law_choices⟩ := g_law_choices
  refine ⟨fd, F.ok sc_law_chosen (fun vs H Q E h => ?_) (fun cdv A' outer s H vs Q E hr h => ?_), F.binds fun _ _ _ _ _ _ us hl => match us, hl with | [_, _, _], _ => rfl⟩
  · obtain ⟨a, c, p, bs, n, rfl, _⟩ := h
    rfl
  · obtain ⟨a, c, p, bs, n, rfl, hn, R, hl, k⟩ := h
    refine ⟨_, (pss_cons (ps_set (i := 3) sc_law_chosen.nd rfl (Or.inl rfl) (pe_cmpR op_in_seq (pv 2) (pe_call0 G_law_names (hr.mono (by decide)) (by rfl) T.g_law_names T.k_law_names b_law_names .nil pass0) (by with_unfolding_all rfl)))
      (pss_cons (L2N.ps_try_as (i := 5) rfl rfl sc_law_chosen.nd rfl rfl ⟨rfl, by decide, .inl T.e_InvalidRules.g⟩ L2N.takes0N (fun W pn xe tk _ => (pss_one (ps_set (i := 4) sc_law_chosen.nd rfl (Or.inl rfl) (MkS.pe_methS (pv 0) T.cR T.mt_choice G_m_choice (hr.mono (by decide)) b_m_choice (fun σ => L2N.passAt tk σ) (pa_cons (pv 2) pa_nil))))) (fun a oe cls d pn hz hf => (pss_one (ps_ret (pe_and (pe_not (pv 3)) (pe_and (pe_callB (call_isS2 (K := K) rfl hz.zc hf) (by rfl) T.n_isinstance (by decide +kernel) (pa_cons (pv 5) (pa_cons (pe_glob (v := .ref A.MendError) rfl T.e_MendError.g rfl) pa_nil))) (pe_and (pe_callB (call_isiQ (K := K) rfl) (by rfl) T.n_isinstance (by decide +kernel) (pa_cons (pe_xf T.e_InvalidRules.xfc T.f_InvalidRules.nf hz.zc hf (pv 5)) (pa_cons (pe_bltn (v := .ty "str") (u := .type "str") (by rfl) T.n_str (by decide +kernel) rfl) pa_nil))) (pe_one (pe_cmpR op_eq (pe_xf T.e_InvalidRules.xfc T.f_InvalidRules.nf hz.zc hf (pv 5)) (pv 2) (nomark _))))))))))
      (pss_cons (ps_if (pt_not (pt_val (pv 3))) (pss_one (ps_ret pe_bl)) pss_nil)
      (pss_one (ps_ret (pe_and (pe_callB call_isi (by rfl) T.n_isinstance (by decide +kernel) (pa_cons (pv 4) (pa_cons (pe_bltn (v := .ty "str") (u := .type "str") (by rfl) T.n_str (by decide +kernel) rfl) pa_nil))) (pe_one (pe_cmpR op_eq (pv 4) (pe_ix ix_list (pe_call G_law_choices (hr.mono (by decide)) (by rfl) T.g_law_choices T.k_law_choices b_law_choices .nil pass0 (pa_cons (pv 2) pa_nil)) (pe_ix ix_list (pv 1) (pe_bm PySem.F.plainAttrs_list PySem.F.slot_list_index PySem.F.type_list_index mt_index (pe_call0 G_law_names (hr.mono (by decide)) (by rfl) T.g_law_names T.k_law_names b_law_names .nil pass0) (pa_cons (pv 2) pa_nil)) (fun _ _ => rfl)) (fun _ _ => rfl)) (nomark _))))))))), ?_⟩
    have B := R.bits
    refine ⟨_, rfl, rfl, fun q H1 hq e1 hl1 => ?_⟩
    refine ⟨q, _, rfl, Or.inl hl1.sz, rfl, flat_str _, ?_⟩
    obtain ⟨dx, ha⟩ := R.at
    refine ⟨_, rfl, a, dx, _, rfl, e1 _ _ ha, rfl, _, rfl, a, c, bs, n, rfl, hn, R.ex e1, fun hin => ?_, fun hout => fun d G e hd => ?_⟩
    · have kn : inV (V.str n) (nm5.map V.str) = true := by
        rw [inV_str]
        exact List.contains_iff_mem.mpr hin
      refine ⟨_, rfl, _, rfl, ?_⟩
      show if (!inV (V.str n) (nm5.map V.str)) = true then _ else _
      rw [kn]
      refine iteF ?_
      refine ⟨_, rfl, _, _, _, _, true, rfl, ClsV.ty "str", TyX.base (TyOf.str _), kit_ty (by decide +kernel), true, rfl, iteT ?_⟩
      refine ⟨_, rfl, _, rfl, n, rfl, fun q2 H2 hq2 e2 hl2 => ?_⟩
      refine ⟨_, rfl, rfl, fun q3 H3 hq3 e3 hl3 => ?_⟩
      refine ⟨.inl ⟨rfl, _, hl3.sz⟩, _, rfl, q3, _, _, pl n, _, rfl, rfl, hl3.sz, rfl, flat_str _, idxS hin, eqS n, idxN, ?_⟩
      have e13 := (e1.trans e2).trans e3
      refine ⟨p, _, _, _, rfl, rfl, (hl.ex e13).sz, bitsI (K := K) hl B (pl_lt hin), ?_⟩
      refine ⟨q2, _, _, _, rfl, rfl, (hl2.ex e3).sz, two_at n (B.at (pl_lt hin)), rfl, ?_⟩
      rw [decide_eq_true rfl]
      exact k H3 e13
    · refine ⟨true, T.e_InvalidRules.exm, fun _ a0 ha0 => ?_, fun z => (nomatch z)⟩
      have kn : inV (V.str n) (nm5.map V.str) = false := by
        rw [inV_str, Bool.eq_false_iff]
        exact fun z => hout (List.contains_iff_mem.mp z)
      have xC := T.e_InvalidRules.exc T.cn T.ct
      refine ⟨_, rfl, _, rfl, _, rfl, ?_⟩
      show if (!inV (V.str n) (nm5.map V.str)) = true then _ else _
      rw [kn]
      refine iteT ?_
      refine ⟨_, rfl, A.InvalidRules, _, _, true, rfl, rfl, Or.inr ⟨d, _, rfl, hd⟩, xC, ClsV.own _, T.e_InvalidRules.kit_base T.e_MendError (ne_ix T.nd 2 0 rfl rfl (by decide)), _, rfl, iteT ?_⟩
      refine ⟨_, rfl, rfl, rfl, d, _, _, rfl, hd, rfl, _, _, _, _, true, rfl, ClsV.ty "str", TyX.base (TyOf.str _), kit_ty (by decide +kernel), _, rfl, iteT ?_⟩
      refine ⟨_, rfl, rfl, rfl, d, _, _, rfl, hd, rfl, _, rfl, rfl, ?_⟩
      rw [decide_eq_true rfl]
      exact k G (e1.trans e)

end

section
variable {P : Program} {w : World} {K : PySem.W.Frag} {mg : Str → Option Value} {base : Heap} {A : Ad}
theorem ok_law_constants (T : Txt K mg A)  (g_law_integer : Okd P w K mg base CX0 1 A.law_integer P_law_integer spInt) (g_law_names : Okd P w K mg base CX0 1 A.law_names P_law_names spNames) : Okd P w K mg base CX0 2 A.law_constants P_law_constants spCon := by
  obtain ⟨fd, F⟩ := T.d_law_constants
  obtain ⟨fd_law_integer, G_law_integer, b_law_integer⟩ := g_law_integer
  obtain ⟨fd_law_names, G_law_names, b_law_names⟩ := g_law_names
  refine ⟨fd, F.ok sc_law_constants (fun vs H Q E h => ?_) (fun cdv A' outer s H vs Q E hr h => ?_), F.binds fun _ _ _ _ _ _ us hl => match us, hl with | [], _ => rfl⟩
  · obtain ⟨rfl, _⟩ := h
    rfl
  · obtain ⟨rfl, k⟩ := h
    refine ⟨_, (pss_cons (ps_set (i := 0) sc_law_constants.nd rfl (Or.inl rfl) (ClX.pe_cval (pe_glob (v := .ref A.Rules) rfl T.g_Rules rfl)))
      (pss_cons (ps_if (PW.pt (pw_or (pt_not (pt_val (pe_call G_law_integer (hr.mono (by decide)) (by rfl) T.g_law_integer T.k_law_integer b_law_integer .nil pass0 (pa_cons (ClX.pe_cval (pe_glob (v := .ref A.Rules) rfl T.g_Rules rfl)) pa_nil)))) (pw_or1 (pt_cmpR op_ne (ClX.pe_cval (pe_glob (v := .ref A.Rules) rfl T.g_Rules rfl)) pe_int (nomark _))))) (pss_one (ps_ret pe_bl)) pss_nil)
      (pss_cons (ps_if (PW.pt (pw_or (pt_not (pt_val (pe_callB call_isi (by rfl) T.n_isinstance (by decide +kernel) (pa_cons (pv 0) (pa_cons (pe_bltn (v := .ty "tuple") (u := .type "tuple") (by rfl) T.n_tuple (by decide +kernel) rfl) pa_nil))))) (pw_or1 (pt_cmpR op_ne (pe_callB call_len_seq (by rfl) T.n_len PySem.boot_len (pa_cons (pv 0) pa_nil)) pe_int (nomark _))))) (pss_one (ps_ret pe_bl)) pss_nil)
      (pss_cons (ps_for PassesOwn.never rfl (pi_range1 (by rfl) T.n_range (pa_cons pe_int pa_nil)) (pg_name (i := 1) sc_law_constants.nd rfl (Or.inl rfl)) (pss_one (ps_if (PW.pt (pw_or (pt_not (pt_val (pe_callB call_isi (by rfl) T.n_isinstance (by decide +kernel) (pa_cons (pe_ix ix_tup (pv 0) (pv 1) (fun _ _ => rfl)) (pa_cons (pe_bltn (v := .ty "str") (u := .type "str") (by rfl) T.n_str (by decide +kernel) rfl) pa_nil))))) (pw_or1 (pt_cmpR op_ne (pe_ix ix_tup (pv 0) (pv 1) (fun _ _ => rfl)) (pe_ix ix_list (pe_call0 G_law_names (hr.mono (by decide)) (by rfl) T.g_law_names T.k_law_names b_law_names .nil pass0) (pv 1) (fun _ _ => rfl)) (nomark _))))) (pss_one (ps_ret pe_bl)) pss_nil)))
      (pss_one (ps_ret pe_bl)))))), ?_⟩
    obtain ⟨uc, cv⟩ := T.cv_COUNT
    obtain ⟨oN, lN, cN⟩ := T.lN
    refine ⟨_, _, _, _, rfl, T.rd, T.cv_NAMES, ?_⟩
    refine ⟨_, _, _, _, rfl, T.rd, cv, 32, rfl, _, rfl, ?_⟩
    refine iteF ?_
    refine ⟨_, _, _, _, rfl, T.rd, cv, rfl, _, rfl, ?_⟩
    refine iteF ?_
    refine ⟨_, rfl, _, _, _, _, true, rfl, ClsV.ty "tuple", TyX.kTuple lN cN, kit_ty (by decide +kernel), _, rfl, ?_⟩
    refine iteF ?_
    refine ⟨_, rfl, _, _, rfl, Or.inr (T.tN H), rfl, _, rfl, ?_⟩
    refine iteF ?_
    refine ⟨_, rfl, by decide, by decide, for_range (lo := 0) (n := 5) (fun i σ G => ∃ v : Option V, σ = [some (.ref A.NAMES), v] ∧ Ex H G) ⟨none, rfl, Ex.refl _⟩ ?_ ?_⟩
    · rintro i σ G hi ⟨v, rfl, e⟩
      have k0 : (0 : Int) + (i : Int) = ((i : Nat) : Int) := by omega
      rw [k0]
      have at5 : atI (nm5.map V.str) ((i : Nat) : Int) = some (V.str (nm5.getD i "")) := atS (by exact hi)
      refine ⟨_, rfl, _, rfl, _, _, _, _, rfl, rfl, T.tN G, at5, _, _, _, _, true, rfl, ClsV.ty "str", TyX.base (TyOf.str _), kit_ty (by decide +kernel), _, rfl, ?_⟩
      refine iteF ?_
      refine ⟨_, rfl, _, rfl, _, _, _, _, rfl, rfl, T.tN G, at5, ?_⟩
      refine ⟨rfl, fun q G2 hq e2 hl => ?_⟩
      refine ⟨_, rfl, q, _, _, _, rfl, rfl, hl.sz, at5, rfl, _, rfl, ?_⟩
      refine ite_b (fun z => absurd (ne_self _) (by rw [z]; decide)) (fun _ => ?_)
      exact ⟨_, rfl, e.trans e2⟩
    · rintro σ G ⟨v, rfl, e⟩
      exact k G e

end

section
variable {P : Program} {w : World} {K : PySem.W.Frag} {mg : Str → Option Value} {base : Heap} {A : Ad}
theorem put_same {kvs : List (Key × V)} {k : Key} {y : V} (h : (valV kvs k).isSome = true) : (putK kvs k y).length = kvs.length := by
  unfold putK
  rw [valV_any k kvs, if_pos h, List.length_map]
theorem nm5_inj {i j : Nat} (hi : i < 5) (hj : j < 5) (h : nm5.getD i "" = nm5.getD j "") : i = j := by
  have all : ∀ i, i < 5 → ∀ j, j < 5 → nm5.getD i "" = nm5.getD j "" → i = j := by decide
  exact all i hi j hj h
theorem goodF_mem {n w : Str} (g : goodF n w = true) : n ∈ nm5 ∧ w ∈ two n := by
  unfold goodF at g
  rw [Bool.and_eq_true, List.contains_iff_mem, List.contains_iff_mem] at g
  exact g
theorem set_bits {bs : List Nat} (h : Bits bs) {i b : Nat} (hb : b < 2) : Bits (bs.set i b) := ⟨by rw [List.length_set]; exact h.len, fun x hx => by
  rcases List.mem_or_eq_of_mem_set hx with z | z
  · exact h.two x z
  · rw [z]
    exact hb⟩
theorem set_at {bs : List Nat} {i j b : Nat} (hj : j < bs.length) : (bs.set i b).getD j 0 = if i = j then b else bs.getD j 0 := by
  rw [List.getD_eq_getElem?_getD, List.getElem?_set, List.getD_eq_getElem?_getD]
  by_cases e : i = j
  · rw [if_pos e, if_pos e, if_pos (e ▸ hj)]
    rfl
  · rw [if_neg e, if_neg e]
theorem ru_put {A : Ad} {H : Hp} {a c : Addr} {bs : List Nat} {n w : Str} (R : Ru A H a c bs) (g : goodF n w = true) : ∃ (dx : Addr) (kvs : List (Key × V)), H a = some (.ins A.Rules dx [("_choices", .ref c)]) ∧ H c = some (.dK kvs) ∧ kvs.length ≤ 5 ∧
    ∀ H' : Hp, H' a = some (.ins A.Rules dx [("_choices", .ref c)]) → H' c = some (.dK (putK kvs (Sum.inr n) (.str w))) → Ru A H' a c (bs.set (pl n) (bitF n w)) := by
  obtain ⟨dx, kvs, ha, hc, hl, hb, hv⟩ := R
  obtain ⟨hn, hw⟩ := goodF_mem g
  obtain ⟨g1, g2⟩ := good_word g
  have hi := pl_lt hn
  refine ⟨dx, kvs, ha, hc, hl, fun H' ha' hc' => ⟨dx, _, ha', hc', ?_, set_bits hb g2, fun i i5 => ?_⟩⟩
  · rw [put_same]
    · exact hl
    · have z := hv (pl n) hi
      rw [pl_at hn] at z
      rw [z]
      rfl
  · rw [valV_put, set_at (by rw [hb.len]; exact i5)]
    by_cases e : pl n = i
    · subst e
      rw [pl_at hn, if_pos rfl, if_pos rfl, g1]
    · rw [if_neg e, if_neg (fun z => e (nm5_inj hi i5 (by rw [pl_at hn]; exact (Sum.inr.inj z).symm))), hv i i5]
theorem nI_set {bs : List Nat} {i b : Nat} : (nI bs).set i (V.int (b : Int)) = nI (bs.set i b) := List.map_set.symm
theorem ok_law_changed (T : Txt K mg A)  (g_law_good : Okd P w K mg base CX0 2 A.law_good P_law_good spGood) (g_m_change : Okd P w K mg base (L2N.CX P w) 3 A.m_change P_m_change (spCh A)) (g_law_choices : Okd P w K mg base CX0 1 A.law_choices P_law_choices spTwo) (g_law_names : Okd P w K mg base CX0 1 A.law_names P_law_names spNames) : Okd P w K mg base CX0 4 A.law_changed P_law_changed (spChg A) := by
  obtain ⟨fd, F⟩ := T.d_law_changed
  obtain ⟨fd_law_good, G_law_good, b_law_good⟩ := g_law_good
  obtain ⟨fd_m_change, G_m_change, b_m_change⟩ := g_m_change
  obtain ⟨fd_law_choices, G_law_choices, b_law_choices⟩ := g_law_choices
  obtain ⟨fd_law_names, G_law_names, b_law_names⟩ := g_law_names
  refine ⟨fd, F.ok sc_law_changed (fun vs H Q E h => ?_) (fun cdv A' outer s H vs Q E hr h => ?_), F.binds fun _ _ _ _ _ _ us hl => match us, hl with | [_, _, _, _], _ => rfl⟩
  · obtain ⟨a, c, p, bs, n, w1, rfl, _⟩ := h
    rfl
  · obtain ⟨a, c, p, bs, n, w1, rfl, hn, hw, R, hl, k⟩ := h
    refine ⟨_, (pss_cons (ps_set (i := 4) sc_law_changed.nd rfl (Or.inl rfl) (pe_call G_law_good (hr.mono (by decide)) (by rfl) T.g_law_good T.k_law_good b_law_good .nil pass0 (pa_cons (pv 2) (pa_cons (pv 3) pa_nil))))
      (pss_cons (L2N.ps_try_as (i := 6) rfl rfl sc_law_changed.nd rfl rfl ⟨rfl, by decide, .inl T.e_InvalidRules.g⟩ L2N.takes0N (fun W pn xe tk _ => (pss_one (ps_set (i := 5) sc_law_changed.nd rfl (Or.inl rfl) (MkS.pe_methS (pv 0) T.cR T.mt_change G_m_change (hr.mono (by decide)) b_m_change (fun σ => L2N.passAt tk σ) (pa_cons (pv 2) (pa_cons (pv 3) pa_nil)))))) (fun a oe cls d pn hz hf => (pss_cons (ps_set (i := 7) sc_law_changed.nd rfl (Or.inl rfl) (pe_and (pe_callB (call_isS2 (K := K) rfl hz.zc hf) (by rfl) T.n_isinstance (by decide +kernel) (pa_cons (pv 6) (pa_cons (pe_glob (v := .ref A.MendError) rfl T.e_MendError.g rfl) pa_nil))) (pe_one (pe_callB (call_isS2 (K := K) rfl hz.zc hf) (by rfl) T.n_isinstance (by decide +kernel) (pa_cons (pv 6) (pa_cons (pe_bltn (v := .ty "ValueError") (u := .type "ValueError") (by rfl) T.n_ValueError (by decide +kernel) rfl) pa_nil))))))
      (pss_cons (ps_set (i := 7) sc_law_changed.nd rfl (Or.inl rfl) (pe_and (pv 7) (pe_one (pe_not (pe_callB (call_isS2 (K := K) rfl hz.zc hf) (by rfl) T.n_isinstance (by decide +kernel) (pa_cons (pv 6) (pa_cons (pe_glob (v := .ref A.InvalidNumber) rfl T.e_InvalidNumber.g rfl) pa_nil)))))))
      (pss_one (ps_ret (pe_and (pv 7) (pe_and (pe_not (pv 4)) (pe_and (pe_callB (call_isiQ (K := K) rfl) (by rfl) T.n_isinstance (by decide +kernel) (pa_cons (pe_xf T.e_InvalidRules.xfc T.f_InvalidRules.nf hz.zc hf (pv 6)) (pa_cons (pe_bltn (v := .ty "str") (u := .type "str") (by rfl) T.n_str (by decide +kernel) rfl) pa_nil))) (pe_one (pe_cmpR op_eq (pe_xf T.e_InvalidRules.xfc T.f_InvalidRules.nf hz.zc hf (pv 6)) (pv 2) (nomark _))))))))))))
      (pss_cons (ps_if (PW.pt (pw_or (pt_not (pt_val (pv 4))) (pw_or1 (pt_cmpR op_notN (pv 5) pe_non (nomark _))))) (pss_one (ps_ret pe_bl)) pss_nil)
      (pss_cons (ps_asg (pe_bm PySem.F.plainAttrs_list PySem.F.slot_list_index PySem.F.type_list_index mt_index (pe_call G_law_choices (hr.mono (by decide)) (by rfl) T.g_law_choices T.k_law_choices b_law_choices .nil pass0 (pa_cons (pv 2) pa_nil)) (pa_cons (pv 3) pa_nil)) (pg_sub (pv 1) (pe_bm PySem.F.plainAttrs_list PySem.F.slot_list_index PySem.F.type_list_index mt_index (pe_call0 G_law_names (hr.mono (by decide)) (by rfl) T.g_law_names T.k_law_names b_law_names .nil pass0) (pa_cons (pv 2) pa_nil)) set_list))
      (pss_one (ps_ret pe_bl)))))), ?_⟩
    have B := R.bits
    refine ⟨_, rfl, _, rfl, n, w1, rfl, fun H1 e1 => ?_⟩
    obtain ⟨dx, kvs, ha, hc, hlen, hb, hv⟩ := id R
    refine ⟨_, rfl, a, dx, _, rfl, e1 _ _ ha, rfl, _, rfl, _, rfl, a, c, dx, kvs, n, w1, rfl, hn, hw, e1 _ _ ha, e1 _ _ hc, by omega, fun g => ?_, fun g => fun d G e hd => ?_⟩
    · obtain ⟨hin, hin2⟩ := goodF_mem g
      refine ⟨_, rfl, _, rfl, ?_⟩
      show if (!goodF n w1) = true then _ else _
      rw [g]
      refine iteF ?_
      refine ⟨_, rfl, rfl, _, rfl, iteF ?_⟩
      have npc : p ≠ c := fun z => by
        have hl : H p = some (.lst (nI bs)) := hl
        rw [z, hc] at hl
        cases hl
      have nac := R.ne
      obtain ⟨dx2, kvs2, ha2, hc2, _, mk⟩ := ru_put R g
      have ek : kvs2 = kvs := by
        have z := hc2.symm.trans hc
        injection z with z
        injection z
      have ed : dx2 = dx := by
        have z := ha2.symm.trans ha
        injection z with z
        injection z
      subst ek ed
      have hc3 : upd H1 c (.dK (putK kvs2 (Sum.inr n) (.str w1))) c = some (.dK (putK kvs2 (Sum.inr n) (.str w1))) := upd_same
      have old3 : ∀ b o, b ≠ c → H b = some o → upd H1 c (.dK (putK kvs2 (Sum.inr n) (.str w1))) b = some o := fun b o nb ho => by
        rw [upd_ne nb]
        exact e1 b o ho
      generalize L2.upd H1 c _ = H2 at hc3 old3 ⊢
      refine ⟨_, rfl, n, rfl, fun q H3 hq e3 hl3 => ?_⟩
      refine ⟨.inl ⟨rfl, _, hl3.sz⟩, _, rfl, q, _, _, bitF n w1, _, rfl, rfl, hl3.sz, rfl, flat_str _, idxS hin2, eqS w1, idxN, ?_⟩
      refine ⟨_, rfl, rfl, fun q4 H4 hq4 e4 hl4 => ?_⟩
      have e34 := e3.trans e4
      refine ⟨.inl ⟨rfl, _, hl4.sz⟩, _, rfl, q4, _, _, pl n, _, rfl, rfl, hl4.sz, rfl, flat_str _, idxS hin, eqS n, idxN, ?_⟩
      have hp4 : H4 p = some (.lst (nI bs)) := e34 _ _ (old3 _ _ npc hl)
      refine ⟨p, _, _, pl n, rfl, rfl, hp4, Evl.ixN_nat (by rw [nI_len, B.len]; exact pl_lt hin), ?_⟩
      rw [nI_set]
      have nap : a ≠ p := fun z => by
        have hl : H p = some (.lst (nI bs)) := hl
        rw [← z, ha] at hl
        cases hl
      refine k _ _ (fun b o nb nb2 ho => ?_) (mk _ ?_ ?_) upd_same
      · rw [upd_ne nb2]
        exact e34 _ _ (old3 _ _ nb ho)
      · rw [upd_ne nap]
        exact e34 _ _ (old3 _ _ nac ha)
      · rw [upd_ne npc.symm]
        exact e34 _ _ hc3
    · refine ⟨true, T.e_InvalidRules.exm, fun _ a0 ha0 => ?_, fun z => (nomatch z)⟩
      have xC := T.e_InvalidRules.exc T.cn T.ct
      refine ⟨_, rfl, A.InvalidRules, _, _, true, rfl, rfl, Or.inr ⟨d, _, rfl, hd⟩, xC, ClsV.own _, T.e_InvalidRules.kit_base T.e_MendError (ne_ix T.nd 2 0 rfl rfl (by decide)), _, rfl, iteT ?_⟩
      refine ⟨_, rfl, A.InvalidRules, _, _, true, rfl, rfl, Or.inr ⟨d, _, rfl, hd⟩, xC, ClsV.ty "ValueError", T.e_InvalidRules.kit_ve, ?_⟩
      refine ⟨_, rfl, _, rfl, iteT ?_⟩
      refine ⟨_, rfl, A.InvalidRules, _, _, false, rfl, rfl, Or.inr ⟨d, _, rfl, hd⟩, xC, ClsV.own _, T.e_InvalidRules.kit_ne T.e_InvalidNumber (ne_ix T.nd 2 1 rfl rfl (by decide)) (ne_ix T.nd 0 1 rfl rfl (by decide)), _, rfl, ?_⟩
      refine ⟨_, rfl, _, rfl, iteT ?_⟩
      refine ⟨_, rfl, _, rfl, _, rfl, ?_⟩
      show if (!goodF n w1) = true then _ else _
      rw [g]
      refine iteT ?_
      refine ⟨_, rfl, rfl, rfl, d, _, _, rfl, hd, rfl, _, _, _, _, true, rfl, ClsV.ty "str", TyX.base (TyOf.str _), kit_ty (by decide +kernel), _, rfl, iteT ?_⟩
      refine ⟨_, rfl, rfl, rfl, d, _, _, rfl, hd, rfl, _, rfl, rfl, ?_⟩
      rw [decide_eq_true rfl]
      have eG := e1.trans e
      exact k bs G (fun b o _ _ ho => eG b o ho) (R.ex eG) (eG _ _ hl)

end

section
variable {P : Program} {w : World} {K : PySem.W.Frag} {mg : Str → Option Value} {base : Heap} {A : Ad}
theorem goodz : badF ["back", "near", "inner", "near", "even"] = none ∧ bitsF ["back", "near", "inner", "near", "even"] = zero5 := by decide
theorem ok_law_made (T : Txt K mg A) (g_m_init : OkIH P w K mg base A (spInG A)) (g_law_called : Okd P w K mg base (L2N.CX P w) 6 A.law_called P_law_called (spCalled A)) : Okd P w K mg base CX0 7 A.law_made P_law_made (spMade A) := by
  obtain ⟨fd, F⟩ := T.d_law_made
  obtain ⟨fd_law_called, G_law_called, b_law_called⟩ := g_law_called
  obtain ⟨fdh_m_init, H_m_init, dsI, dv_m_init, hb_m_init⟩ := g_m_init
  refine ⟨fd, F.ok sc_law_made (fun vs H Q E h => ?_) (fun cdv A' outer s H vs Q E hr h => ?_), F.binds fun _ _ _ _ _ _ us hl => match us, hl with | [_, _, _], _ => rfl⟩
  · obtain ⟨way, p, ws, rfl, _⟩ := h
    rfl
  · obtain ⟨way, p, ws, rfl, hw9, W, k⟩ := h
    refine ⟨_, (pss_cons (L2N.ps_try_as (i := 4) rfl rfl sc_law_made.nd rfl rfl ⟨rfl, by decide, .inl T.e_InvalidRules.g⟩ L2N.takes0N (fun W pn xe tk _ => (pss_one (ps_set (i := 3) sc_law_made.nd rfl (Or.inl rfl) (pe_callS G_law_called (hr.mono (by decide)) rfl T.g_law_called T.k_law_called b_law_called (fun σ => L2N.passAt tk σ) (pa_cons (pv 0) (pa_cons (pv 1) pa_nil)))))) (fun a oe cls d pn hz hf => (pss_cons (ps_set (i := 5) sc_law_made.nd rfl (Or.inl rfl) (pe_and (pe_callB (call_isS2 (K := K) rfl hz.zc hf) (by rfl) T.n_isinstance (by decide +kernel) (pa_cons (pv 4) (pa_cons (pe_glob (v := .ref A.MendError) rfl T.e_MendError.g rfl) pa_nil))) (pe_one (pe_callB (call_isS2 (K := K) rfl hz.zc hf) (by rfl) T.n_isinstance (by decide +kernel) (pa_cons (pv 4) (pa_cons (pe_bltn (v := .ty "ValueError") (u := .type "ValueError") (by rfl) T.n_ValueError (by decide +kernel) rfl) pa_nil))))))
      (pss_cons (ps_set (i := 5) sc_law_made.nd rfl (Or.inl rfl) (pe_and (pv 5) (pe_one (pe_not (pe_callB (call_isS2 (K := K) rfl hz.zc hf) (by rfl) T.n_isinstance (by decide +kernel) (pa_cons (pv 4) (pa_cons (pe_glob (v := .ref A.InvalidNumber) rfl T.e_InvalidNumber.g rfl) pa_nil)))))))
      (pss_one (ps_ret (pe_lst (pa_cons (pe_and (pv 5) (pe_and (pe_cmpR op_notN (pv 2) pe_non (nomark _)) (pe_and (pe_callB (call_isiQ (K := K) rfl) (by rfl) T.n_isinstance (by decide +kernel) (pa_cons (pe_xf T.e_InvalidRules.xfc T.f_InvalidRules.nf hz.zc hf (pv 4)) (pa_cons (pe_bltn (v := .ty "str") (u := .type "str") (by rfl) T.n_str (by decide +kernel) rfl) pa_nil))) (pe_one (pe_cmpR op_eq (pe_xf T.e_InvalidRules.xfc T.f_InvalidRules.nf hz.zc hf (pv 4)) (pv 2) (nomark _)))))) (pa_cons (MkH.pe_make0H T.mkR H_m_init (L2H.roomH_mark (hr.mono (by decide)) _) (hot_suite hz hf) hb_m_init dv_m_init pass0 (by rfl) T.g_Rules) pa_nil)))))))))
      (pss_one (ps_ret (pe_lst (pa_cons (pe_and (pe_cmpR op_isN (pv 2) pe_non (nomark _)) (pe_one (pe_callB call_isi (by rfl) T.n_isinstance (by decide +kernel) (pa_cons (pv 3) (pa_cons (pe_glob (v := .ref A.Rules) rfl T.g_Rules rfl) pa_nil))))) (pa_cons (pv 3) pa_nil)))))), ?_⟩
    refine ⟨_, rfl, _, rfl, way, p, ws, rfl, hw9, W, fun hn => ?_, fun i hi => fun d G e hd => ?_⟩
    · intro a c H1 ha hc e1 R
      rw [hn]
      refine ⟨_, rfl, rfl, true, congrArg V.bl (decide_eq_true rfl), iteT ?_⟩
      refine ⟨_, rfl, _, _, _, _, true, rfl, ClsV.own _, T.ty R, kit_self, ?_⟩
      refine ⟨_, rfl, (by show 2 ≤ sizeLine; decide), fun q hq => ?_⟩
      refine k q a c _ (back_none e1 hq) ha hc (e1.trans (Ex.new hq)) upd_same ?_
      rw [show dueL way ws = dueF way ws from if_pos hn]
      exact R.ex (Ex.new hq)
    · refine ⟨true, T.e_InvalidRules.exm, fun _ a0 ha0 => ?_, fun z => (nomatch z)⟩
      have xC := T.e_InvalidRules.exc T.cn T.ct
      refine ⟨_, rfl, A.InvalidRules, _, _, true, rfl, rfl, Or.inr ⟨d, _, rfl, hd⟩, xC, ClsV.own _, T.e_InvalidRules.kit_base T.e_MendError (ne_ix T.nd 2 0 rfl rfl (by decide)), _, rfl, iteT ?_⟩
      refine ⟨_, rfl, A.InvalidRules, _, _, true, rfl, rfl, Or.inr ⟨d, _, rfl, hd⟩, xC, ClsV.ty "ValueError", T.e_InvalidRules.kit_ve, ?_⟩
      refine ⟨_, rfl, _, rfl, iteT ?_⟩
      refine ⟨_, rfl, A.InvalidRules, _, _, false, rfl, rfl, Or.inr ⟨d, _, rfl, hd⟩, xC, ClsV.own _, T.e_InvalidRules.kit_ne T.e_InvalidNumber (ne_ix T.nd 2 1 rfl rfl (by decide)) (ne_ix T.nd 0 1 rfl rfl (by decide)), _, rfl, ?_⟩
      refine ⟨_, rfl, _, rfl, iteT ?_⟩
      rw [hi]
      refine ⟨_, rfl, rfl, true, congrArg V.bl (show (!decide (V.str (nm5.getD i "") = V.non)) = true from by rw [decide_eq_false (by intro z; cases z)]; rfl), iteT ?_⟩
      refine ⟨_, rfl, rfl, rfl, d, _, _, rfl, hd, rfl, _, _, _, _, true, rfl, ClsV.ty "str", TyX.base (TyOf.str _), kit_ty (by decide +kernel), _, rfl, iteT ?_⟩
      refine ⟨_, rfl, rfl, rfl, d, _, _, rfl, hd, rfl, _, rfl, rfl, ?_⟩
      rw [show decide (V.str (nm5.getD i "") = badV (some i)) = true from decide_eq_true rfl]
      intro x dx hx hdx ndx
      refine ⟨x, dx, _, _, _, _, _, rfl, (by decide), upd_same, goodz.1, fun cc H2 hcc ncc old R => ⟨rfl, ?_⟩⟩
      have e2 := old_ex (A := A) hx hdx old
      have z := upd_none (upd_none hcc).2
      refine ⟨(by show 2 ≤ sizeLine; decide), fun q hq => ?_⟩
      have eA := e.trans e2
      refine k q x cc _ (back_none eA hq) (back_none e hx) (back_none e z.2) (eA.trans (Ex.new hq)) upd_same ?_
      rw [show dueL way ws = zero5 from if_neg (by rw [hi]; intro z; cases z), ← goodz.2]
      exact R.ex (Ex.new hq)

end

section
variable {P : Program} {w : World} {K : PySem.W.Frag} {mg : Str → Option Value} {base : Heap} {A : Ad}
def pows5 : List Nat := [1, 2, 4, 8, 16]
def bitsV (v : Int) (i : Nat) : List Int := (List.range i).map fun j => v / ((pows5.getD j 0 : Nat) : Int) % 2
theorem bitsV_eq : ∀ {n : Nat}, n < 32 → bitsV (n : Int) 5 = (bitsOf n).map fun b : Nat => (b : Int) := by
  have all : ∀ n, n < 32 → bitsV ((n : Nat) : Int) 5 = (bitsOf n).map fun b : Nat => (b : Int) := by decide +kernel
  exact fun {n} h => all n h
theorem pow5_pos : ∀ i, i < 5 → 0 < pows5.getD i 0 ∧ pows5.getD i 0 < 32 := by decide
theorem ok_law_numbered (T : Txt K mg A) (g_m_init : OkIH P w K mg base A (spInG A)) (g_m_numbered : Okd P w K mg base (L2N.CX P w) 6 A.m_numbered P_m_numbered (spNd A)) (h_law_integer : Okh P w K mg base CX0 1 A.law_integer P_law_integer spInt) : Okd P w K mg base CX0 7 A.law_numbered P_law_numbered (spNmd A) := by
  obtain ⟨fd, F⟩ := T.d_law_numbered
  obtain ⟨fd_m_numbered, G_m_numbered, b_m_numbered⟩ := g_m_numbered
  obtain ⟨fdh_law_integer, H_law_integer, hb_law_integer⟩ := h_law_integer
  obtain ⟨fdh_m_init, H_m_init, dsI, dv_m_init, hb_m_init⟩ := g_m_init
  refine ⟨fd, F.ok sc_law_numbered (fun vs H Q E h => ?_) (fun cdv A' outer s H vs Q E hr h => ?_), F.binds fun _ _ _ _ _ _ us hl => match us, hl with | [_], _ => rfl⟩
  · obtain ⟨v, rfl, _⟩ := h
    rfl
  · obtain ⟨v, rfl, hv, k⟩ := h
    refine ⟨_, (pss_cons (ps_set (i := 1) sc_law_numbered.nd rfl (Or.inl rfl) (pe_and (pe_cmpR op_le pe_int (pv 0) (nomark _)) (pe_one (pe_cmpR op_le (pv 0) pe_int (nomark _)))))
      (pss_cons (ps_setLc (i := 2) (own := [("by", 6)]) (tt := tYes) (by rfl) sc_law_numbered.nd rfl rfl (sw_true rfl rfl rfl (by decide +kernel)) (pi_list (pe_lst (pa_cons pe_int (pa_cons pe_int (pa_cons pe_int (pa_cons pe_int (pa_cons pe_int pa_nil))))))) (blkOk_by (own := [("by", 6)]) (N := N_law_numbered) (sc := defScope s_law_numbered) (by decide +kernel)) (fun _ _ _ _ _ => (pg_name (i := 6) sc_law_numbered.nd rfl (Or.inl rfl))) (fun _ _ _ _ _ => pts_nil) (fun _ _ _ _ _ => (pe_op op_mod (pe_callTy call_int1 (by rfl) T.n_int (by decide +kernel) (pa_cons (pe_op op_fdivW (pv 0) (pv 6)) pa_nil)) pe_int)))
      (pss_cons (L2N.ps_try_as (i := 4) rfl rfl sc_law_numbered.nd rfl rfl ⟨rfl, by decide, .inl T.e_InvalidNumber.g⟩ L2N.takes0N (fun W pn xe tk _ => (pss_one (ps_set (i := 3) sc_law_numbered.nd rfl (Or.inl rfl) (MkS.pe_cmethS (pe_glob (v := .ref A.Rules) rfl T.g_Rules rfl) T.rd T.cm G_m_numbered (hr.mono (by decide)) b_m_numbered (fun σ => L2N.passAt tk σ) (pa_cons (pv 0) pa_nil))))) (fun a oe cls d pn hz hf => (pss_cons (ps_set (i := 5) sc_law_numbered.nd rfl (Or.inl rfl) (pe_and (pe_callB (call_isS2 (K := K) rfl hz.zc hf) (by rfl) T.n_isinstance (by decide +kernel) (pa_cons (pv 4) (pa_cons (pe_glob (v := .ref A.MendError) rfl T.e_MendError.g rfl) pa_nil))) (pe_one (pe_callB (call_isS2 (K := K) rfl hz.zc hf) (by rfl) T.n_isinstance (by decide +kernel) (pa_cons (pv 4) (pa_cons (pe_bltn (v := .ty "ValueError") (u := .type "ValueError") (by rfl) T.n_ValueError (by decide +kernel) rfl) pa_nil))))))
      (pss_cons (ps_set (i := 5) sc_law_numbered.nd rfl (Or.inl rfl) (pe_and (pv 5) (pe_and (pe_not (pe_callB (call_isS2 (K := K) rfl hz.zc hf) (by rfl) T.n_isinstance (by decide +kernel) (pa_cons (pv 4) (pa_cons (pe_glob (v := .ref A.InvalidRules) rfl T.e_InvalidRules.g rfl) pa_nil)))) (pe_one (pe_not (pv 1))))))
      (pss_one (ps_ret (pe_lst (pa_cons (pe_and (pv 5) (pe_and (L2H.pe_callH H_law_integer (L2H.roomH_mark (hr.mono (by decide)) _) (hot_suite hz hf) (by rfl) T.g_law_integer T.k_law_integer hb_law_integer (passH0 (fun _ => E0)) (pa_cons (pe_xf T.e_InvalidNumber.xfc T.f_InvalidNumber.nf hz.zc hf (pv 4)) pa_nil)) (pe_one (pe_cmpR op_eq (pe_xf T.e_InvalidNumber.xfc T.f_InvalidNumber.nf hz.zc hf (pv 4)) (pv 0) (nomark _))))) (pa_cons (MkH.pe_make0H T.mkR H_m_init (L2H.roomH_mark (hr.mono (by decide)) _) (hot_suite hz hf) hb_m_init dv_m_init pass0 (by rfl) T.g_Rules) (pa_cons (pe_lst (pa_cons pe_int (pa_cons pe_int (pa_cons pe_int (pa_cons pe_int (pa_cons pe_int pa_nil)))))) pa_nil))))))))))
      (pss_one (ps_ret (pe_lst (pa_cons (pe_and (pv 1) (pe_one (pe_callB call_isi (by rfl) T.n_isinstance (by decide +kernel) (pa_cons (pv 3) (pa_cons (pe_glob (v := .ref A.Rules) rfl T.g_Rules rfl) pa_nil))))) (pa_cons (pv 3) (pa_cons (pv 2) pa_nil))))))))), ?_⟩
    walk_at "r"
    refine ite_b (fun c1 => ?_) (fun c1 => ?_)
    · have g0 := of_decide_eq_true c1
      walk_at "r"
      refine fun q hq => ⟨_, rfl, ⟨_, SqL.of upd_same⟩, fun D hD => ?_⟩
      have e0 : Ex H (upd H q (.lst (nI pows5))) := Ex.new hq
      have hq0 : upd H q (.lst (nI pows5)) q = some (.lst (nI pows5)) := upd_same
      refine lc_list (a := q) (xs := nI pows5) (fun i G => Ex (upd H q (.lst (nI pows5))) G ∧ G D = some (.lst ((bitsV v i).map V.int))) ⟨Ex.new hD, upd_same⟩ (fun i G _ z => SqL.of (z.1 _ _ hq0)) ?_ ?_
      · rintro i x G hx ⟨e, hd⟩
        obtain ⟨hi, rfl⟩ := nat_at hx
        have hi : i < 5 := hi
        obtain ⟨p0, p1⟩ := pow5_pos i hi
        refine ⟨rfl, ?_⟩
        refine ⟨_, rfl, _, rfl, _, _, rfl, rfl, wide_div (b := 60) (by omega) (by omega) (by decide) (by decide), Or.inl ⟨_, rfl, _, _, rfl, rfl, (by show (0 : Int) < 2; decide), ?_⟩⟩
        refine ⟨_, hd, small1000 (by unfold bitsV; rw [List.length_map, List.length_map, List.length_range]; omega), ?_, ?_⟩
        · exact fun b o ho => by
            rw [upd_ne (ne_of_none ho hD)]
            exact e b o ho
        · rw [upd_same]
          unfold bitsV
          rw [List.range_succ, List.map_append, List.map_append]
          rfl
      rintro H1 ⟨e, hd⟩
      have hd : H1 D = some (.lst ((bitsV v 5).map V.int)) := hd
      have e1 := e0.trans e
      have hD0 : H D = none := back_none e0 hD
      by_cases g1 : v < 32
      · obtain ⟨n, rfl⟩ := Int.eq_ofNat_of_zero_le g0
        have hn : n < 32 := by omega
        refine ⟨rfl, _, rfl, _, rfl, fun _ _ => ?_, fun z => absurd ⟨g0, g1⟩ z⟩
        intro a c H2 ha hc e2 R
        rw [Int.toNat_natCast] at R
        refine ⟨_, rfl, true, congrArg V.bl (decide_eq_true (show (n : Int) ≤ 31 by omega)), iteT ?_⟩
        refine ⟨_, rfl, _, _, _, _, true, rfl, ClsV.own _, T.ty R, kit_self, ?_⟩
        refine ⟨_, rfl, _, rfl, (by show 3 ≤ sizeLine; decide), fun r hr => ?_⟩
        have e12 := e1.trans e2
        have nd : ndL (n : Int) = bitsOf n := by
          unfold ndL
          rw [if_pos ⟨g0, g1⟩, Int.toNat_natCast]
        refine k r a c D _ (back_none e12 hr) (back_none e1 ha) (back_none e1 hc) hD0 (e12.trans (Ex.new hr)) upd_same ?_ (fun _ => ?_) (fun z => absurd ⟨g0, g1⟩ z)
        · rw [nd]
          exact R.ex (Ex.new hr)
        · rw [nd]
          refine Ex.new hr _ _ ?_
          rw [e2 _ _ hd, bitsV_eq hn]
          rfl
      have gb : ¬ (0 ≤ v ∧ v < 32) := fun z => g1 z.2
      refine ⟨rfl, _, rfl, _, rfl, fun z1 z2 => absurd ⟨z1, z2⟩ gb, fun _ => fun d G eG hx => ?_⟩
      refine ⟨true, T.e_InvalidNumber.exm, fun _ a0 ha0 => ?_, fun z => (nomatch z)⟩
      have xC := T.e_InvalidNumber.exc T.cn T.ct
      refine ⟨_, rfl, A.InvalidNumber, _, _, true, rfl, rfl, Or.inr ⟨d, _, rfl, hx⟩, xC, ClsV.own _, T.e_InvalidNumber.kit_base T.e_MendError (ne_ix T.nd 1 0 rfl rfl (by decide)), _, rfl, iteT ?_⟩
      refine ⟨_, rfl, A.InvalidNumber, _, _, true, rfl, rfl, Or.inr ⟨d, _, rfl, hx⟩, xC, ClsV.ty "ValueError", T.e_InvalidNumber.kit_ve, ?_⟩
      refine ⟨_, rfl, _, rfl, iteT ?_⟩
      refine ⟨_, rfl, A.InvalidNumber, _, _, false, rfl, rfl, Or.inr ⟨d, _, rfl, hx⟩, xC, ClsV.own _, T.e_InvalidNumber.kit_ne T.e_InvalidRules (ne_ix T.nd 1 2 rfl rfl (by decide)) (ne_ix T.nd 0 2 rfl rfl (by decide)), _, rfl, _, rfl, iteT ?_⟩
      refine ⟨_, rfl, false, congrArg (fun z => V.bl z) (decide_eq_false (show ¬ v ≤ 31 by omega)), ?_⟩
      refine ⟨_, rfl, true, rfl, iteT ?_⟩
      refine ⟨_, rfl, rfl, rfl, d, _, _, rfl, hx, rfl, v, rfl, true, rfl, iteT ?_⟩
      refine ⟨_, rfl, rfl, rfl, d, _, _, rfl, hx, rfl, _, rfl, rfl, ?_⟩
      rw [show decide (V.int v = V.int v) = true from decide_eq_true rfl]
      intro x dx hxn hdx ndx
      refine ⟨x, dx, _, _, _, _, _, rfl, (by decide), upd_same, goodz.1, fun cc H2 hcc ncc old R => ⟨rfl, ?_⟩⟩
      have e2 := old_ex (A := A) hxn hdx old
      have z := upd_none (upd_none hcc).2
      refine ⟨(by show 5 ≤ sizeLine; decide), fun p hp => ?_⟩
      refine ⟨(by show 3 ≤ sizeLine; decide), fun r hr => ?_⟩
      have eA := (e1.trans eG).trans e2
      have eB := eA.trans (Ex.new (o := .lst (nI zero5)) hp)
      have nd : ndL v = zero5 := if_neg gb
      refine k r x cc p _ (back_none eB hr) (back_none (e1.trans eG) hxn) (back_none (e1.trans eG) z.2) (back_none eA hp) (eB.trans (Ex.new hr)) upd_same ?_ (fun z => absurd z gb) (fun _ => ?_)
      · rw [nd, ← goodz.2]
        exact (R.ex (Ex.new hp)).ex (Ex.new hr)
      · rw [nd]
        exact Ex.new hr _ _ upd_same
    · have c1 := of_decide_eq_false c1
      refine ⟨(by show 5 ≤ sizeLine; decide), fun q hq => ⟨_, rfl, ⟨_, SqL.of upd_same⟩, fun D hD => ?_⟩⟩
      have e0 : Ex H (upd H q (.lst (nI pows5))) := Ex.new hq
      have hq0 : upd H q (.lst (nI pows5)) q = some (.lst (nI pows5)) := upd_same
      refine lc_list (a := q) (xs := nI pows5) (fun i G => Ex (upd H q (.lst (nI pows5))) G ∧ G D = some (.lst ((bitsV v i).map V.int))) ⟨Ex.new hD, upd_same⟩ (fun i G _ z => SqL.of (z.1 _ _ hq0)) ?_ ?_
      · rintro i x G hx ⟨e, hd⟩
        obtain ⟨hi, rfl⟩ := nat_at hx
        have hi : i < 5 := hi
        obtain ⟨p0, p1⟩ := pow5_pos i hi
        refine ⟨rfl, ?_⟩
        refine ⟨_, rfl, _, rfl, _, _, rfl, rfl, wide_div (b := 60) (by omega) (by omega) (by decide) (by decide), Or.inl ⟨_, rfl, _, _, rfl, rfl, (by show (0 : Int) < 2; decide), ?_⟩⟩
        refine ⟨_, hd, small1000 (by unfold bitsV; rw [List.length_map, List.length_map, List.length_range]; omega), ?_, ?_⟩
        · exact fun b o ho => by
            rw [upd_ne (ne_of_none ho hD)]
            exact e b o ho
        · rw [upd_same]
          unfold bitsV
          rw [List.range_succ, List.map_append, List.map_append]
          rfl
      rintro H1 ⟨e, hd⟩
      have hd : H1 D = some (.lst ((bitsV v 5).map V.int)) := hd
      have e1 := e0.trans e
      have hD0 : H D = none := back_none e0 hD
      have gb : ¬ (0 ≤ v ∧ v < 32) := fun z => c1 z.1
      refine ⟨rfl, _, rfl, _, rfl, fun z1 z2 => absurd ⟨z1, z2⟩ gb, fun _ => fun d G eG hx => ?_⟩
      refine ⟨true, T.e_InvalidNumber.exm, fun _ a0 ha0 => ?_, fun z => (nomatch z)⟩
      have xC := T.e_InvalidNumber.exc T.cn T.ct
      refine ⟨_, rfl, A.InvalidNumber, _, _, true, rfl, rfl, Or.inr ⟨d, _, rfl, hx⟩, xC, ClsV.own _, T.e_InvalidNumber.kit_base T.e_MendError (ne_ix T.nd 1 0 rfl rfl (by decide)), _, rfl, iteT ?_⟩
      refine ⟨_, rfl, A.InvalidNumber, _, _, true, rfl, rfl, Or.inr ⟨d, _, rfl, hx⟩, xC, ClsV.ty "ValueError", T.e_InvalidNumber.kit_ve, ?_⟩
      refine ⟨_, rfl, _, rfl, iteT ?_⟩
      refine ⟨_, rfl, A.InvalidNumber, _, _, false, rfl, rfl, Or.inr ⟨d, _, rfl, hx⟩, xC, ClsV.own _, T.e_InvalidNumber.kit_ne T.e_InvalidRules (ne_ix T.nd 1 2 rfl rfl (by decide)) (ne_ix T.nd 0 2 rfl rfl (by decide)), _, rfl, _, rfl, iteT ?_⟩
      refine ⟨_, rfl, false, rfl, ?_⟩
      refine ⟨_, rfl, true, rfl, iteT ?_⟩
      refine ⟨_, rfl, rfl, rfl, d, _, _, rfl, hx, rfl, v, rfl, true, rfl, iteT ?_⟩
      refine ⟨_, rfl, rfl, rfl, d, _, _, rfl, hx, rfl, _, rfl, rfl, ?_⟩
      rw [show decide (V.int v = V.int v) = true from decide_eq_true rfl]
      intro x dx hxn hdx ndx
      refine ⟨x, dx, _, _, _, _, _, rfl, (by decide), upd_same, goodz.1, fun cc H2 hcc ncc old R => ⟨rfl, ?_⟩⟩
      have e2 := old_ex (A := A) hxn hdx old
      have z := upd_none (upd_none hcc).2
      refine ⟨(by show 5 ≤ sizeLine; decide), fun p hp => ?_⟩
      refine ⟨(by show 3 ≤ sizeLine; decide), fun r hr => ?_⟩
      have eA := (e1.trans eG).trans e2
      have eB := eA.trans (Ex.new (o := .lst (nI zero5)) hp)
      have nd : ndL v = zero5 := if_neg gb
      refine k r x cc p _ (back_none eB hr) (back_none (e1.trans eG) hxn) (back_none (e1.trans eG) z.2) (back_none eA hp) (eB.trans (Ex.new hr)) upd_same ?_ (fun z => absurd z gb) (fun _ => ?_)
      · rw [nd, ← goodz.2]
        exact (R.ex (Ex.new hp)).ex (Ex.new hr)
      · rw [nd]
        exact Ex.new hr _ _ upd_same

end

section
variable {P : Program} {w : World} {K : PySem.W.Frag} {mg : Str → Option Value} {base : Heap} {A : Ad}
def wI (bs : List Nat) (i : Nat) : List Int := (List.range i).map fun j => ((bs.getD j 0 : Nat) : Int) * ((pows5.getD j 0 : Nat) : Int)
theorem w_sum {bs : List Nat} (h : Bits bs) : (wI bs 5).sum = ((numF bs : Nat) : Int) := by
  obtain ⟨b0, b1, b2, b3, b4, rfl, h0, h1, h2, h3, h4⟩ := h.ex5
  show (b0 : Int) * 1 + ((b1 : Int) * 2 + ((b2 : Int) * 4 + ((b3 : Int) * 8 + ((b4 : Int) * 16 + 0)))) = ((b0 * 1 + b1 * 2 + b2 * 4 + b3 * 8 + b4 * 16 : Nat) : Int)
  omega
theorem pl_nm : ∀ i, i < 5 → pl (nm5.getD i "") = i := by decide
theorem rep_len2 : ∀ n, n < 32 → ("Rules(" : Str).length + (toString ((n : Nat) : Int) : Str).length ≤ 1000 ∧ (("Rules(" : Str) ++ (toString ((n : Nat) : Int) : Str)).length + (")" : Str).length ≤ 1000 := by decide +kernel
theorem rep_is2 : ∀ n, n < 32 → repF n = ("Rules(" : Str) ++ Str.ofString (toString ((n : Nat) : Int)) ++ (")" : Str) := by decide +kernel
def wdL (bs : List Nat) : List Str := [wordF (nm5.getD 0 "") (bs.getD 0 0), wordF (nm5.getD 1 "") (bs.getD 1 0), wordF (nm5.getD 2 "") (bs.getD 2 0), wordF (nm5.getD 3 "") (bs.getD 3 0), wordF (nm5.getD 4 "") (bs.getD 4 0)]
theorem wdL_at (bs : List Nat) {i : Nat} (h : i < 5) : atI ((wdL bs).map V.str) (i : Int) = some (V.str (wordF (nm5.getD i "") (bs.getD i 0))) := by
  match i, h with
  | 0, _ => rfl
  | 1, _ => rfl
  | 2, _ => rfl
  | 3, _ => rfl
  | 4, _ => rfl
theorem ok_law_kept (T : Txt K mg A)  (g_m_number : Okd P w K mg base CX0 1 A.m_number P_m_number (spNum A)) (g_law_integer : Okd P w K mg base CX0 1 A.law_integer P_law_integer spInt) (g_m_hook : Okd P w K mg base CX0 1 A.m_hook P_m_hook (spGet A 0)) (g_m_relay : Okd P w K mg base CX0 1 A.m_relay P_m_relay (spGet A 1)) (g_m_clamp : Okd P w K mg base CX0 1 A.m_clamp P_m_clamp (spGet A 2)) (g_m_trail : Okd P w K mg base CX0 1 A.m_trail P_m_trail (spGet A 3)) (g_m_wheel : Okd P w K mg base CX0 1 A.m_wheel P_m_wheel (spGet A 4)) (g_law_names : Okd P w K mg base CX0 1 A.law_names P_law_names spNames) (g_law_choices : Okd P w K mg base CX0 1 A.law_choices P_law_choices spTwo) (g_m_choice : Okd P w K mg base (L2N.CX P w) 3 A.m_choice P_m_choice (spCo A)) (g_m_repr : Okd P w K mg base CX0 3 A.m_repr P_m_repr (spRp A)) : Okd P w K mg base CX0 5 A.law_kept P_law_kept (spKept A) := by
  obtain ⟨fd, F⟩ := T.d_law_kept
  obtain ⟨fd_m_number, G_m_number, b_m_number⟩ := g_m_number
  obtain ⟨fd_law_integer, G_law_integer, b_law_integer⟩ := g_law_integer
  obtain ⟨fd_m_hook, G_m_hook, b_m_hook⟩ := g_m_hook
  obtain ⟨fd_m_relay, G_m_relay, b_m_relay⟩ := g_m_relay
  obtain ⟨fd_m_clamp, G_m_clamp, b_m_clamp⟩ := g_m_clamp
  obtain ⟨fd_m_trail, G_m_trail, b_m_trail⟩ := g_m_trail
  obtain ⟨fd_m_wheel, G_m_wheel, b_m_wheel⟩ := g_m_wheel
  obtain ⟨fd_law_names, G_law_names, b_law_names⟩ := g_law_names
  obtain ⟨fd_law_choices, G_law_choices, b_law_choices⟩ := g_law_choices
  obtain ⟨fd_m_choice, G_m_choice, b_m_choice⟩ := g_m_choice
  obtain ⟨fd_m_repr, G_m_repr, b_m_repr⟩ := g_m_repr
  refine ⟨fd, F.ok sc_law_kept (fun vs H Q E h => ?_) (fun cdv A' outer s H vs Q E hr h => ?_), F.binds fun _ _ _ _ _ _ us hl => match us, hl with | [_, _], _ => rfl⟩
  · obtain ⟨a, c, p, bs, rfl, _⟩ := h
    rfl
  · obtain ⟨a, c, p, bs, rfl, R, hl, k⟩ := h
    refine ⟨_, (pss_cons (ps_set (i := 2) sc_law_kept.nd rfl (Or.inl rfl) (pe_callB (cr_sum (by rfl)) (by rfl) T.n_sum (by decide +kernel) (pa_cons (pe_lc (own := [("k", 5)]) (tt := tYes) (by rfl) sc_law_kept.nd (pi_range1 (by rfl) T.n_range (pa_cons pe_int pa_nil)) (blkOk_by (own := [("k", 5)]) (N := N_law_kept) (sc := defScope s_law_kept) (by decide +kernel)) (fun _ _ _ _ _ => (pg_name (i := 5) sc_law_kept.nd rfl (Or.inl rfl))) (fun _ _ _ _ _ => pts_nil) (fun _ _ _ _ _ => (pe_op op_mul (pe_ix (ix_listK (K := K) rfl) (pv 1) (pv 5) (fun _ _ => rfl)) (pe_ix (ix_listK (K := K) rfl) (pe_lst (pa_cons pe_int (pa_cons pe_int (pa_cons pe_int (pa_cons pe_int (pa_cons pe_int pa_nil)))))) (pv 5) (fun _ _ => rfl))))) pa_nil)))
      (pss_cons (ps_set (i := 3) sc_law_kept.nd rfl (Or.inl rfl) (pe_prop (pv 0) T.cR T.pp_number G_m_number (hr.mono (by decide)) b_m_number .nil pass0 rfl))
      (pss_cons (ps_if (PW.pt (pw_or (pt_not (pt_val (pe_call G_law_integer (hr.mono (by decide)) (by rfl) T.g_law_integer T.k_law_integer b_law_integer .nil pass0 (pa_cons (pv 3) pa_nil)))) (pw_or1 (pt_cmpR op_ne (pv 3) (pv 2) (nomark _))))) (pss_one (ps_ret pe_bl)) pss_nil)
      (pss_cons (ps_set (i := 4) sc_law_kept.nd rfl (Or.inl rfl) (pe_lst (pa_cons (pe_prop (pv 0) T.cR T.pp_hook G_m_hook (hr.mono (by decide)) b_m_hook .nil pass0 rfl) (pa_cons (pe_prop (pv 0) T.cR T.pp_relay G_m_relay (hr.mono (by decide)) b_m_relay .nil pass0 rfl) (pa_cons (pe_prop (pv 0) T.cR T.pp_clamp G_m_clamp (hr.mono (by decide)) b_m_clamp .nil pass0 rfl) (pa_cons (pe_prop (pv 0) T.cR T.pp_trail G_m_trail (hr.mono (by decide)) b_m_trail .nil pass0 rfl) (pa_cons (pe_prop (pv 0) T.cR T.pp_wheel G_m_wheel (hr.mono (by decide)) b_m_wheel .nil pass0 rfl) pa_nil)))))))
      (pss_cons (ps_for PassesOwn.never rfl (pi_range1 (by rfl) T.n_range (pa_cons pe_int pa_nil)) (pg_name (i := 5) sc_law_kept.nd rfl (Or.inl rfl)) (pss_cons (ps_set (i := 6) sc_law_kept.nd rfl (Or.inl rfl) (pe_ix ix_list (pe_call0 G_law_names (hr.mono (by decide)) (by rfl) T.g_law_names T.k_law_names b_law_names .nil pass0) (pv 5) (fun _ _ => rfl)))
      (pss_cons (ps_set (i := 7) sc_law_kept.nd rfl (Or.inl rfl) (pe_ix ix_list (pe_call G_law_choices (hr.mono (by decide)) (by rfl) T.g_law_choices T.k_law_choices b_law_choices .nil pass0 (pa_cons (pv 6) pa_nil)) (pe_ix ix_list (pv 1) (pv 5) (fun _ _ => rfl)) (fun _ _ => rfl)))
      (pss_cons (ps_set (i := 8) sc_law_kept.nd rfl (Or.inl rfl) (MkS.pe_methS (pv 0) T.cR T.mt_choice G_m_choice (hr.mono (by decide)) b_m_choice (fun σ => L2N.passAt L2N.takes0N σ) (pa_cons (pv 6) pa_nil)))
      (pss_cons (ps_if (PW.pt (pw_or (pt_not (pt_val (pe_callB call_isi (by rfl) T.n_isinstance (by decide +kernel) (pa_cons (pe_ix ix_list (pv 4) (pv 5) (fun _ _ => rfl)) (pa_cons (pe_bltn (v := .ty "str") (u := .type "str") (by rfl) T.n_str (by decide +kernel) rfl) pa_nil))))) (pw_or1 (pt_cmpR op_ne (pe_ix ix_list (pv 4) (pv 5) (fun _ _ => rfl)) (pv 7) (nomark _))))) (pss_one (ps_ret pe_bl)) pss_nil)
      (pss_one (ps_if (PW.pt (pw_or (pt_not (pt_val (pe_callB call_isi (by rfl) T.n_isinstance (by decide +kernel) (pa_cons (pv 8) (pa_cons (pe_bltn (v := .ty "str") (u := .type "str") (by rfl) T.n_str (by decide +kernel) rfl) pa_nil))))) (pw_or1 (pt_cmpR op_ne (pv 8) (pv 7) (nomark _))))) (pss_one (ps_ret pe_bl)) pss_nil)))))))
      (pss_cons (ps_set (i := 9) sc_law_kept.nd rfl (Or.inl rfl) (pe_callB (OwI.call_reprI T.o_repr.1 T.o_repr.2 (raw0 G_m_repr b_m_repr) (hr.mono (by decide)) pass0) (by rfl) T.n_repr (by decide +kernel) (pa_cons (pv 0) pa_nil)))
      (pss_one (ps_ret (pe_and (pe_callB call_isi (by rfl) T.n_isinstance (by decide +kernel) (pa_cons (pv 9) (pa_cons (pe_bltn (v := .ty "str") (u := .type "str") (by rfl) T.n_str (by decide +kernel) rfl) pa_nil))) (pe_one (pe_cmpR op_eq (pv 9) (pe_op op_add_str (pe_op op_add_str pe_str (pe_callTy call_str_int (by rfl) T.n_str (by decide +kernel) (pa_cons (pv 2) pa_nil))) pe_str) (nomark _)))))))))))), ?_⟩
    have B := R.bits
    have n32 := num_lt B
    obtain ⟨dx, ha⟩ := R.at
    refine ⟨_, rfl, by decide, by decide, fun D hD => lc_range (lo := 0) (n := 5) (fun i G => Ex H G ∧ G D = some (.lst ((wI bs i).map V.int))) ⟨Ex.new hD, upd_same⟩ ?_ ?_⟩
    · rintro i G hi ⟨e, hd⟩
      have k0 : (0 : Int) + (i : Int) = ((i : Nat) : Int) := by omega
      rw [k0]
      refine ⟨rfl, ?_⟩
      refine ⟨_, rfl, _, rfl, p, _, _, _, rfl, rfl, (hl.ex e).sz, bitsI (K := K) hl B hi, ?_⟩
      refine ⟨(by show 5 ≤ sizeLine; decide), fun q hq => ?_⟩
      have nDq : D ≠ q := ne_of_none hd hq
      have b2 := B.at hi
      refine ⟨_, rfl, q, _, _, _, rfl, rfl, SqL.of upd_same, atN (xs := pows5) (by exact hi), _, _, rfl, rfl, Or.inl ⟨by omega, by omega⟩, ?_⟩
      refine ⟨_, (by rw [upd_ne nDq]; exact hd), small1000 (by unfold wI; rw [List.length_map, List.length_map, List.length_range]; omega), ?_, ?_⟩
      · exact fun b o ho => by
          rw [upd_ne (ne_of_none ho hD), upd_ne (ne_of_none (e b o ho) hq)]
          exact e b o ho
      · rw [upd_same]
        unfold wI
        rw [List.range_succ, List.map_append, List.map_append]
        rfl
    rintro H1 ⟨e1, hd⟩
    have hd : H1 D = some (.lst ((wI bs 5).map V.int)) := hd
    refine ⟨D, _, rfl, SqL.of hd, ?_⟩
    rw [w_sum B]
    refine ⟨_, rfl, a, dx, _, rfl, e1 _ _ ha, a, c, bs, rfl, R.ex e1, fun H2 e2 => ?_⟩
    replace e1 := e1.trans e2
    refine ⟨_, rfl, _, rfl, _, rfl, iteF ?_⟩
    refine ⟨_, rfl, _, rfl, rfl, _, rfl, ?_⟩
    refine ite_b (fun z => absurd (ne_self _) (by rw [z]; decide)) (fun _ => ?_)
    refine ⟨_, rfl, a, dx, _, rfl, e1 _ _ ha, a, c, bs, rfl, R.ex e1, _, rfl, a, dx, _, rfl, e1 _ _ ha, a, c, bs, rfl, R.ex e1, _, rfl, a, dx, _, rfl, e1 _ _ ha, a, c, bs, rfl, R.ex e1, _, rfl, a, dx, _, rfl, e1 _ _ ha, a, c, bs, rfl, R.ex e1, _, rfl, a, dx, _, rfl, e1 _ _ ha, a, c, bs, rfl, R.ex e1, (by show 5 ≤ sizeLine; decide), fun q hq => ?_⟩
    have hq0 : upd H2 q (.lst ((wdL bs).map V.str)) q = some (.lst ((wdL bs).map V.str)) := upd_same
    have eq : Ex H (upd H2 q (.lst ((wdL bs).map V.str))) := ex_new e1 hq
    refine ⟨_, rfl, by decide, by decide, for_range (lo := 0) (n := 5) (fun i σ G => ∃ v5 v6 v7 v8 : Option V, σ = [some (.ref a), some (.ref p), some (.int ((numF bs : Nat) : Int)), some (.int ((numF bs : Nat) : Int)), some (.ref q), v5, v6, v7, v8, none] ∧ Ex (upd H2 q (.lst ((wdL bs).map V.str))) G) ⟨none, none, none, none, rfl, Ex.refl _⟩ ?_ ?_⟩
    · rintro i σ G hi ⟨v5, v6, v7, v8, rfl, e⟩
      have k0 : (0 : Int) + (i : Int) = ((i : Nat) : Int) := by omega
      rw [k0]
      have at5 : atI (nm5.map V.str) ((i : Nat) : Int) = some (V.str (nm5.getD i "")) := atS (by exact hi)
      have eG := eq.trans e
      refine ⟨rfl, fun q1 G1 hq1 f1 hl1 => ?_⟩
      refine ⟨_, rfl, q1, _, _, _, rfl, rfl, hl1.sz, at5, ?_⟩
      refine ⟨_, rfl, _, rfl, fun q2 G2 hq2 f2 hl2 => ?_⟩
      have e12 := eG.trans (f1.trans f2)
      refine ⟨_, rfl, _, rfl, p, _, _, _, rfl, rfl, (hl.ex e12).sz, bitsI (K := K) hl B hi, q2, _, _, _, rfl, rfl, hl2.sz, two_at _ (B.at hi), ?_⟩
      refine ⟨_, rfl, a, dx, _, rfl, e12 _ _ ha, rfl, _, rfl, a, c, bs, _, rfl, nm5_nms (nm5_mem hi), R.ex e12, fun hin => ?_, fun hout => absurd (nm5_mem hi) hout⟩
      rw [pl_nm i hi]
      have hw2 : SqL K G2 q ((wdL bs).map V.str) := SqL.of ((f1.trans f2) _ _ (e _ _ hq0))
      refine ⟨_, rfl, _, rfl, q, _, _, _, rfl, rfl, hw2, wdL_at bs hi, _, _, _, _, true, rfl, ClsV.ty "str", TyX.base (TyOf.str _), kit_ty (by decide +kernel), _, rfl, iteF ?_⟩
      refine ⟨_, rfl, _, rfl, q, _, _, _, rfl, rfl, hw2, wdL_at bs hi, _, rfl, rfl, _, rfl, ?_⟩
      refine ite_b (fun z => absurd (ne_self _) (by rw [z]; decide)) (fun _ => ?_)
      refine ⟨_, rfl, _, _, _, _, true, rfl, ClsV.ty "str", TyX.base (TyOf.str _), kit_ty (by decide +kernel), _, rfl, iteF ?_⟩
      refine ⟨_, rfl, _, rfl, rfl, _, rfl, ?_⟩
      refine ite_b (fun z => absurd (ne_self _) (by rw [z]; decide)) (fun _ => ?_)
      exact ⟨_, _, _, _, rfl, e.trans (f1.trans f2)⟩
    · rintro σ G ⟨v5, v6, v7, v8, rfl, e⟩
      have eG := eq.trans e
      obtain ⟨l1, l2⟩ := rep_len2 _ n32
      refine ⟨_, rfl, a, dx, _, rfl, eG _ _ ha, a, c, bs, rfl, R.ex eG, fun G2 e2 => ⟨_, rfl, ?_⟩⟩
      refine ⟨_, rfl, _, _, _, _, true, rfl, ClsV.ty "str", TyX.base (TyOf.str _), kit_ty (by decide +kernel), true, rfl, iteT ?_⟩
      refine ⟨_, rfl, _, rfl, _, rfl, Nat.lt_of_le_of_lt (Nat.log2_le_self _) (by omega), _, _, rfl, rfl, Nat.le_trans l1 (by decide), _, _, rfl, rfl, Nat.le_trans l2 (by decide), rfl, ?_⟩
      rw [decide_eq_true (congrArg V.str (rep_is2 _ n32))]
      exact k G2 (eG.trans e2)

end

section
variable {P : Program} {w : World} {K : PySem.W.Frag} {mg : Str → Option Value} {base : Heap} {A : Ad}
def parF (way : Nat) (ws : List Str) (i : Nat) : List Nat := (List.range 5).map fun t => if ((pasF way).take i).contains t then bitF (nm5.getD t "") (ws.getD t "") else 0
theorem pas_lt {way i : Nat} (hw : way < 9) (hi : i < (pasF way).length) : (pasF way).getD i 0 < 5 := by
  have all : ∀ way, way < 9 → ∀ t ∈ pasF way, t < 5 := by decide
  rw [List.getD_eq_getElem?_getD, List.getElem?_eq_getElem hi]
  exact all way hw _ (List.getElem_mem _)
theorem par_len {way : Nat} {ws : List Str} {i : Nat} : (parF way ws i).length = 5 := by unfold parF; rw [List.length_map, List.length_range]
theorem par_end {way : Nat} {ws : List Str} : parF way ws (pasF way).length = dueF way ws := by
  unfold parF dueF
  rw [List.take_length]
theorem par_step {way i : Nat} {ws : List Str} (hw : way < 9) (hi : i < (pasF way).length) : parF way ws (i + 1) = (parF way ws i).set ((pasF way).getD i 0) (bitF (nm5.getD ((pasF way).getD i 0) "") (ws.getD ((pasF way).getD i 0) "")) := by
  match way, hw, i, hi with
  | 1, _, 0, _ => rfl
  | 2, _, 0, _ => rfl
  | 3, _, 0, _ => rfl
  | 4, _, 0, _ => rfl
  | 5, _, 0, _ => rfl
  | 6, _, 0, _ => rfl
  | 6, _, 1, _ => rfl
  | 6, _, 2, _ => rfl
  | 6, _, 3, _ => rfl
  | 6, _, 4, _ => rfl
  | 7, _, 0, _ => rfl
  | 7, _, 1, _ => rfl
  | 8, _, 0, _ => rfl
  | 8, _, 1, _ => rfl
  | 8, _, 2, _ => rfl
  | 8, _, 3, _ => rfl
  | 8, _, 4, _ => rfl
theorem due_some {way i : Nat} {ws : List Str} (hi : i < (pasF way).length) (bad : goodF (nm5.getD ((pasF way).getD i 0) "") (ws.getD ((pasF way).getD i 0) "") = false) (ok : ∀ j, j < i → goodF (nm5.getD ((pasF way).getD j 0) "") (ws.getD ((pasF way).getD j 0) "") = true) : dueB way ws = some ((pasF way).getD i 0) := by
  unfold dueB
  rw [List.find?_eq_some_iff_getElem]
  have gd : ∀ k (h : k < (pasF way).length), (pasF way).getD k 0 = (pasF way)[k] := fun k h => by
    rw [List.getD_eq_getElem?_getD, List.getElem?_eq_getElem h]
    rfl
  refine ⟨by rw [bad]; rfl, i, hi, (gd i hi).symm, fun j hj => ?_⟩
  have z := ok j hj
  rw [gd j (by omega)] at z
  rw [z]
  rfl
theorem due_none {way : Nat} {ws : List Str} (ok : ∀ j, j < (pasF way).length → goodF (nm5.getD ((pasF way).getD j 0) "") (ws.getD ((pasF way).getD j 0) "") = true) : dueB way ws = none := by
  unfold dueB
  rw [List.find?_eq_none]
  intro x hx
  obtain ⟨j, hj, rfl⟩ := List.mem_iff_getElem.mp hx
  have gd : (pasF way).getD j 0 = (pasF way)[j] := by
    rw [List.getD_eq_getElem?_getD, List.getElem?_eq_getElem hj]
    rfl
  have z := ok j hj
  rw [gd] at z
  rw [z]
  decide
theorem ok_law_due (T : Txt K mg A)  (g_law_names : Okd P w K mg base CX0 1 A.law_names P_law_names spNames) (g_law_choices : Okd P w K mg base CX0 1 A.law_choices P_law_choices spTwo) (g_law_good : Okd P w K mg base CX0 2 A.law_good P_law_good spGood) : Okd P w K mg base CX0 3 A.law_due P_law_due spDue := by
  obtain ⟨fd, F⟩ := T.d_law_due
  obtain ⟨fd_law_names, G_law_names, b_law_names⟩ := g_law_names
  obtain ⟨fd_law_choices, G_law_choices, b_law_choices⟩ := g_law_choices
  obtain ⟨fd_law_good, G_law_good, b_law_good⟩ := g_law_good
  refine ⟨fd, F.ok sc_law_due (fun vs H Q E h => ?_) (fun cdv A' outer s H vs Q E hr h => ?_), F.binds fun _ _ _ _ _ _ us hl => match us, hl with | [_, _], _ => rfl⟩
  · obtain ⟨way, p, ws, rfl, _⟩ := h
    rfl
  · obtain ⟨way, p, ws, rfl, hw9, W, k⟩ := h
    refine ⟨_, (pss_cons (ps_set (i := 2) sc_law_due.nd rfl (Or.inl rfl) (pe_ix ix_list (pe_lst (pa_cons (pe_lst pa_nil) (pa_cons (pe_lst (pa_cons pe_int pa_nil)) (pa_cons (pe_lst (pa_cons pe_int pa_nil)) (pa_cons (pe_lst (pa_cons pe_int pa_nil)) (pa_cons (pe_lst (pa_cons pe_int pa_nil)) (pa_cons (pe_lst (pa_cons pe_int pa_nil)) (pa_cons (pe_lst (pa_cons pe_int (pa_cons pe_int (pa_cons pe_int (pa_cons pe_int (pa_cons pe_int pa_nil)))))) (pa_cons (pe_lst (pa_cons pe_int (pa_cons pe_int pa_nil))) (pa_cons (pe_lst (pa_cons pe_int (pa_cons pe_int (pa_cons pe_int (pa_cons pe_int (pa_cons pe_int pa_nil)))))) pa_nil)))))))))) (pv 0) (fun _ _ => rfl)))
      (pss_cons (ps_set (i := 3) sc_law_due.nd rfl (Or.inl rfl) (pe_lst (pa_cons pe_int (pa_cons pe_int (pa_cons pe_int (pa_cons pe_int (pa_cons pe_int pa_nil)))))))
      (pss_cons (ps_for PassesOwn.never rfl (pi_list (pv 2)) (pg_name (i := 4) sc_law_due.nd rfl (Or.inl rfl)) (pss_cons (ps_set (i := 5) sc_law_due.nd rfl (Or.inl rfl) (pe_ix ix_list (pe_call0 G_law_names (hr.mono (by decide)) (by rfl) T.g_law_names T.k_law_names b_law_names .nil pass0) (pv 4) (fun _ _ => rfl)))
      (pss_cons (ps_if (pt_not (pt_val (pe_call G_law_good (hr.mono (by decide)) (by rfl) T.g_law_good T.k_law_good b_law_good .nil pass0 (pa_cons (pv 5) (pa_cons (pe_ix ix_list (pv 1) (pv 4) (fun _ _ => rfl)) pa_nil))))) (pss_one (ps_ret (pe_lst (pa_cons (pv 5) (pa_cons (pe_lst (pa_cons pe_int (pa_cons pe_int (pa_cons pe_int (pa_cons pe_int (pa_cons pe_int pa_nil)))))) pa_nil))))) pss_nil)
      (pss_one (ps_asg (pe_bm PySem.F.plainAttrs_list PySem.F.slot_list_index PySem.F.type_list_index mt_index (pe_call G_law_choices (hr.mono (by decide)) (by rfl) T.g_law_choices T.k_law_choices b_law_choices .nil pass0 (pa_cons (pv 5) pa_nil)) (pa_cons (pe_ix ix_list (pv 1) (pv 4) (fun _ _ => rfl)) pa_nil)) (pg_sub (pv 3) (pv 4) set_list))))))
      (pss_one (ps_ret (pe_lst (pa_cons pe_non (pa_cons (pv 3) pa_nil)))))))), ?_⟩
    refine ⟨(by show 0 ≤ sizeLine; decide), fun q0 hq0 => ?_⟩
    have l0 : ListN (upd H q0 (.lst [])) q0 [] := upd_same
    have e0 : Ex H (upd H q0 (.lst [])) := Ex.new hq0
    generalize L2.upd H q0 _ = H1 at l0 e0 ⊢
    refine ⟨(by show 1 ≤ sizeLine; decide), fun q1 hq1 => ?_⟩
    have l1 : ListN (upd H1 q1 (.lst [.int 0])) q1 [0] := upd_same
    have e1 : Ex H1 (upd H1 q1 (.lst [.int 0])) := Ex.new hq1
    generalize L2.upd H1 q1 _ = H2 at l1 e1 ⊢
    refine ⟨(by show 1 ≤ sizeLine; decide), fun q2 hq2 => ?_⟩
    have l2 : ListN (upd H2 q2 (.lst [.int 1])) q2 [1] := upd_same
    have e2 : Ex H2 (upd H2 q2 (.lst [.int 1])) := Ex.new hq2
    generalize L2.upd H2 q2 _ = H3 at l2 e2 ⊢
    refine ⟨(by show 1 ≤ sizeLine; decide), fun q3 hq3 => ?_⟩
    have l3 : ListN (upd H3 q3 (.lst [.int 2])) q3 [2] := upd_same
    have e3 : Ex H3 (upd H3 q3 (.lst [.int 2])) := Ex.new hq3
    generalize L2.upd H3 q3 _ = H4 at l3 e3 ⊢
    refine ⟨(by show 1 ≤ sizeLine; decide), fun q4 hq4 => ?_⟩
    have l4 : ListN (upd H4 q4 (.lst [.int 3])) q4 [3] := upd_same
    have e4 : Ex H4 (upd H4 q4 (.lst [.int 3])) := Ex.new hq4
    generalize L2.upd H4 q4 _ = H5 at l4 e4 ⊢
    refine ⟨(by show 1 ≤ sizeLine; decide), fun q5 hq5 => ?_⟩
    have l5 : ListN (upd H5 q5 (.lst [.int 4])) q5 [4] := upd_same
    have e5 : Ex H5 (upd H5 q5 (.lst [.int 4])) := Ex.new hq5
    generalize L2.upd H5 q5 _ = H6 at l5 e5 ⊢
    refine ⟨(by show 5 ≤ sizeLine; decide), fun q6 hq6 => ?_⟩
    have l6 : ListN (upd H6 q6 (.lst [.int 0, .int 1, .int 2, .int 3, .int 4])) q6 [0, 1, 2, 3, 4] := upd_same
    have e6 : Ex H6 (upd H6 q6 (.lst [.int 0, .int 1, .int 2, .int 3, .int 4])) := Ex.new hq6
    generalize L2.upd H6 q6 _ = H7 at l6 e6 ⊢
    refine ⟨(by show 2 ≤ sizeLine; decide), fun q7 hq7 => ?_⟩
    have l7 : ListN (upd H7 q7 (.lst [.int 0, .int 3])) q7 [0, 3] := upd_same
    have e7 : Ex H7 (upd H7 q7 (.lst [.int 0, .int 3])) := Ex.new hq7
    generalize L2.upd H7 q7 _ = H8 at l7 e7 ⊢
    refine ⟨(by show 5 ≤ sizeLine; decide), fun q8 hq8 => ?_⟩
    have l8 : ListN (upd H8 q8 (.lst [.int 0, .int 1, .int 2, .int 3, .int 4])) q8 [0, 1, 2, 3, 4] := upd_same
    have e8 : Ex H8 (upd H8 q8 (.lst [.int 0, .int 1, .int 2, .int 3, .int 4])) := Ex.new hq8
    generalize L2.upd H8 q8 _ = H9 at l8 e8 ⊢
    refine ⟨(by show 9 ≤ sizeLine; decide), fun q hq => ?_⟩
    have e9 : Ex H9 (upd H9 q (.lst [.ref q0, .ref q1, .ref q2, .ref q3, .ref q4, .ref q5, .ref q6, .ref q7, .ref q8])) := Ex.new hq
    have hq9 : upd H9 q (.lst [.ref q0, .ref q1, .ref q2, .ref q3, .ref q4, .ref q5, .ref q6, .ref q7, .ref q8]) q = some (.lst [.ref q0, .ref q1, .ref q2, .ref q3, .ref q4, .ref q5, .ref q6, .ref q7, .ref q8]) := upd_same
    generalize L2.upd H9 q _ = G0 at e9 hq9 ⊢
    have x8 := e9
    have x7 := e8.trans x8
    have x6 := e7.trans x7
    have x5 := e6.trans x6
    have x4 := e5.trans x5
    have x3 := e4.trans x4
    have x2 := e3.trans x3
    have x1 := e2.trans x2
    have x0 := e1.trans x1
    have eG0 := e0.trans x0
    obtain ⟨qw, hqw, lw⟩ : ∃ qw, atI [.ref q0, .ref q1, .ref q2, .ref q3, .ref q4, .ref q5, .ref q6, .ref q7, .ref q8] (way : Int) = some (V.ref qw) ∧ ListN G0 qw (pasF way) := by
      match way, hw9 with
      | 0, _ => exact ⟨q0, rfl, x0 _ _ l0⟩
      | 1, _ => exact ⟨q1, rfl, x1 _ _ l1⟩
      | 2, _ => exact ⟨q2, rfl, x2 _ _ l2⟩
      | 3, _ => exact ⟨q3, rfl, x3 _ _ l3⟩
      | 4, _ => exact ⟨q4, rfl, x4 _ _ l4⟩
      | 5, _ => exact ⟨q5, rfl, x5 _ _ l5⟩
      | 6, _ => exact ⟨q6, rfl, x6 _ _ l6⟩
      | 7, _ => exact ⟨q7, rfl, x7 _ _ l7⟩
      | 8, _ => exact ⟨q8, rfl, x8 _ _ l8⟩
    refine ⟨_, rfl, q, _, _, _, rfl, rfl, SqL.of hq9, hqw, ?_⟩
    refine ⟨(by show 5 ≤ sizeLine; decide), fun r hr => ?_⟩
    have er : Ex G0 (upd G0 r (.lst [.int 0, .int 0, .int 0, .int 0, .int 0])) := Ex.new hr
    have hr0 : ListN (upd G0 r (.lst [.int 0, .int 0, .int 0, .int 0, .int 0])) r zero5 := upd_same
    generalize L2.upd G0 r _ = G1 at er hr0 ⊢
    have eG1 := eG0.trans er
    have hrH : H r = none := back_none eG0 hr
    have lw1 : ListN G1 qw (pasF way) := er _ _ lw
    have nrq : r ≠ qw := fun z => by
      have lw : G0 qw = _ := lw
      rw [← z, hr] at lw
      cases lw
    refine ⟨_, rfl, qw, rfl, ⟨_, lw1.sz⟩, ?_⟩
    refine for_list (K := K) (a := qw) (xs := nI (pasF way)) (fun i σ G => ∃ v4 v5 : Option V, σ = [some (.int (way : Int)), some (.ref p), some (.ref qw), some (.ref r), v4, v5] ∧ Ex H G ∧ ListN G qw (pasF way) ∧ ListN G r (parF way ws i) ∧ ∀ j, j < i → goodF (nm5.getD ((pasF way).getD j 0) "") (ws.getD ((pasF way).getD j 0) "") = true) ⟨none, none, rfl, eG1, lw1, hr0, fun j hj => absurd hj (Nat.not_lt_zero j)⟩ (fun i σ G _ ⟨v4, v5, _, _, z, _⟩ => z.sz) ?_ ?_
    · rintro i x σ G hx ⟨v4, v5, rfl, e, hq4, hr4, hg⟩
      obtain ⟨hi, rfl⟩ := nat_at hx
      have t5 := pas_lt hw9 hi
      have st := due_some (ws := ws) hi
      have sp := par_step (ws := ws) hw9 hi
      generalize ht : (pasF way).getD i 0 = t at t5 st sp ⊢
      have at5 : atI (nm5.map V.str) ((t : Nat) : Int) = some (V.str (nm5.getD t "")) := atS (by exact t5)
      refine ⟨rfl, fun p1 G2 hp1 f1 hl1 => ?_⟩
      refine ⟨_, rfl, p1, _, _, _, rfl, rfl, hl1.sz, at5, ?_⟩
      have W1 := W.ex (e.trans f1)
      refine ⟨_, rfl, _, rfl, _, rfl, p, _, _, _, rfl, rfl, W1.1.sz, wordsI (K := K) W1 t5, _, _, rfl, fun G3 f2 => ⟨_, rfl, ?_⟩⟩
      cases g : goodF (nm5.getD t "") (ws.getD t "") with
      | false =>
        refine iteT ?_
        refine ⟨_, rfl, (by show 5 ≤ sizeLine; decide), fun z hz => ⟨(by show 2 ≤ sizeLine; decide), fun q3 hq3 => ?_⟩⟩
        have eA := (e.trans f1).trans f2
        have eB := ex_new (o := .lst [.int 0, .int 0, .int 0, .int 0, .int 0]) eA hz
        have db := st g hg
        refine k q3 z _ (back_none eB hq3) (back_none eA hz) (ex_new eB hq3) (by rw [db]; exact upd_same) ?_
        rw [show dueL way ws = zero5 from if_neg (by rw [db]; intro z; cases z)]
        exact Ex.new hq3 _ _ upd_same
      | true =>
        refine iteF ?_
        obtain ⟨hin, hin2⟩ := goodF_mem g
        refine ⟨_, rfl, _, rfl, fun q2 G4 hq2 f3 hl2 => ?_⟩
        have f := (f1.trans f2).trans f3
        have W4 := W.ex (e.trans f)
        refine ⟨.inl ⟨rfl, _, hl2.sz⟩, _, rfl, _, rfl, p, _, _, _, rfl, rfl, W4.1.sz, wordsI (K := K) W4 t5, q2, _, _, bitF (nm5.getD t "") (ws.getD t ""), _, rfl, rfl, hl2.sz, rfl, flat_str _, idxS hin2, eqS _, idxN, ?_⟩
        refine ⟨_, rfl, _, rfl, r, _, _, t, rfl, rfl, f _ _ hr4, Evl.ixN_nat (by rw [nI_len, par_len]; exact t5), ?_⟩
        rw [nI_set]
        refine ⟨_, _, rfl, fun b o ho => ?_, ?_, ?_, fun j hj => ?_⟩
        · rw [upd_ne (ne_of_none ho hrH)]
          exact (e.trans f) b o ho
        · show upd G4 r _ qw = _
          rw [upd_ne nrq.symm]
          exact f _ _ hq4
        · show upd G4 r _ r = _
          rw [upd_same, sp]
        · by_cases hji : j < i
          · exact hg j hji
          · have : j = i := by omega
            subst this
            rw [ht]
            exact g
    · rintro σ G ⟨v4, v5, rfl, e, hq4, hr4, hg⟩
      rw [nI_len] at hr4 hg
      have dn := due_none (ws := ws) (way := way) hg
      refine ⟨_, rfl, (by show 2 ≤ sizeLine; decide), fun q3 hq3 => ?_⟩
      refine k q3 r _ (back_none e hq3) hrH (ex_new e hq3) (by rw [dn]; exact upd_same) ?_
      rw [show dueL way ws = dueF way ws from if_pos dn, ← par_end]
      exact Ex.new hq3 _ _ hr4

end

section
variable {P : Program} {w : World} {K : PySem.W.Frag} {mg : Str → Option Value} {base : Heap} {A : Ad}
/-! ### lists of ints as data -/
def dI (xs : List Int) : PyData := .list (xs.map PyData.int)
theorem dpAll_I {K : PySem.W.Frag} {H : Hp} : ∀ xs : List Int, DpAll K H (xs.map V.int) (xs.map PyData.int)
  | [] => .nil
  | x :: xs => .cons (.int x) (dpAll_I xs)
theorem dp_I {K : PySem.W.Frag} {H : Hp} {a : Addr} {xs : List Int} (h : H a = some (.lst (xs.map V.int))) : Dp K H (.ref a) (dI xs) := .lst (SqL.of h) (dpAll_I xs)
theorem lay_I : ∀ xs : List Int, PyData.canLayAll0 (xs.map PyData.int) = true
  | [] => by simp [PyData.canLayAll0]
  | x :: xs => by
    simp only [List.map_cons, PyData.canLayAll0, PyData.canLay0, lay_I xs]
    rfl
theorem deep_I : ∀ xs : List Int, PyData.depthAll (xs.map PyData.int) ≤ 1
  | [] => by simp [PyData.depthAll]
  | x :: xs => by
    have := deep_I xs
    simp only [List.map_cons, PyData.depthAll, PyData.depth]
    omega
theorem canLay_I (xs : List Int) : PyData.canLay0 (dI xs) = true := by
  unfold dI
  simp only [PyData.canLay0]
  exact lay_I xs
theorem shaped_I (xs : List Int) : SeqAt.shaped (dI xs) = true := by
  have h2 : PyData.depth (dI xs) ≤ 64 := by
    have := deep_I xs
    unfold dI
    simp only [PyData.depth]
    omega
  unfold SeqAt.shaped
  rw [canLay_I, decide_eq_true h2]
  rfl
theorem eqvAll_I : ∀ xs ys : List Int, PyData.eqvAll (xs.map PyData.int) (ys.map PyData.int) = decide (xs = ys)
  | [], [] => by simp [PyData.eqvAll]
  | [], _ :: _ => by simp [PyData.eqvAll]
  | _ :: _, [] => by simp [PyData.eqvAll]
  | x :: xs, y :: ys => by
    have ih := eqvAll_I xs ys
    simp only [List.map_cons, PyData.eqvAll, PyData.eqv, ih]
    rw [Bool.eq_iff_iff]
    simp
theorem eqv_dI (xs ys : List Int) : PyData.eqv (dI xs) (dI ys) = decide (xs = ys) := by
  unfold dI
  simp only [PyData.eqv]
  exact eqvAll_I xs ys
theorem nI_I (bs : List Nat) : nI bs = (bs.map fun b : Nat => (b : Int)).map V.int := by
  unfold nI
  rw [List.map_map]
  rfl
def iI (bs : List Nat) : List Int := bs.map fun b : Nat => (b : Int)
theorem dp_N {K : PySem.W.Frag} {H : Hp} {a : Addr} {bs : List Nat} (h : ListN H a bs) : Dp K H (.ref a) (dI (iI bs)) := dp_I (by
  have h : H a = some (.lst (nI bs)) := h
  rw [nI_I] at h
  exact h)
theorem iI_inj : ∀ {bs cs : List Nat}, iI bs = iI cs → bs = cs
  | [], [], _ => rfl
  | [], _ :: _, h => by cases h
  | _ :: _, [], h => by cases h
  | b :: bs, c :: cs, h => by
    have h1 : (b : Int) = (c : Int) := (List.cons.inj h).1
    rw [iI_inj (List.cons.inj h).2, show b = c by omega]
theorem eqv_N (bs cs : List Nat) : PyData.eqv (dI (iI bs)) (dI (iI cs)) = decide (bs = cs) := by
  rw [eqv_dI, Bool.eq_iff_iff, decide_eq_true_eq, decide_eq_true_eq]
  exact ⟨iI_inj, fun z => by rw [z]⟩
theorem sw_dec (bs cs : List Nat) : decide (bs = cs) = decide (cs = bs) := by
  rw [Bool.eq_iff_iff, decide_eq_true_eq, decide_eq_true_eq]
  exact ⟨Eq.symm, Eq.symm⟩
theorem ok_law_both (T : Txt K mg A)  (g_m_eq : Okd P w K mg base CX0 3 A.m_eq P_m_eq (spEq A)) (g_law_kept : Okd P w K mg base CX0 5 A.law_kept P_law_kept (spKept A)) : Okd P w K mg base CX0 6 A.law_both P_law_both (spBoth A) := by
  obtain ⟨fd, F⟩ := T.d_law_both
  obtain ⟨fd_m_eq, G_m_eq, b_m_eq⟩ := g_m_eq
  obtain ⟨fd_law_kept, G_law_kept, b_law_kept⟩ := g_law_kept
  refine ⟨fd, F.ok sc_law_both (fun vs H Q E h => ?_) (fun cdv A' outer s H vs Q E hr h => ?_), F.binds fun _ _ _ _ _ _ us hl => match us, hl with | [_, _], _ => rfl⟩
  · obtain ⟨h, r, a0, a1, c0, c1, p0, p1, b0, b1, rfl, _⟩ := h
    rfl
  · obtain ⟨h, r, a0, a1, c0, c1, p0, p1, b0, b1, rfl, t, k⟩ := h
    refine ⟨_, (pss_cons (ps_set (i := 2) sc_law_both.nd rfl (Or.inl rfl) (pe_cmpR (OwI.op_ownI (fun _ _ => rfl) T.o_eq.1 T.o_eq.2 (raw0 G_m_eq b_m_eq) (hr.mono (by decide)) pass0) (pe_ix ix_list (pv 0) pe_int (fun _ _ => rfl)) (pe_ix ix_list (pv 0) pe_int (fun _ _ => rfl)) (nomark _)))
      (pss_cons (ps_set (i := 3) sc_law_both.nd rfl (Or.inl rfl) (pe_cmpR (OwI.op_ownI (fun _ _ => rfl) T.o_eq.1 T.o_eq.2 (raw0 G_m_eq b_m_eq) (hr.mono (by decide)) pass0) (pe_ix ix_list (pv 0) pe_int (fun _ _ => rfl)) (pe_ix ix_list (pv 0) pe_int (fun _ _ => rfl)) (nomark _)))
      (pss_cons (ps_set (i := 4) sc_law_both.nd rfl (Or.inl rfl) (pe_cmpR (op_eqD hr.units) (pe_ix ix_list (pv 1) pe_int (fun _ _ => rfl)) (pe_ix ix_list (pv 1) pe_int (fun _ _ => rfl)) (nomark _)))
      (pss_cons (ps_if (PW.pt (pw_or (pt_not (pt_val (pe_callB call_isi (by rfl) T.n_isinstance (by decide +kernel) (pa_cons (pv 2) (pa_cons (pe_bltn (v := .ty "bool") (u := .type "bool") (by rfl) T.n_bool (by decide +kernel) rfl) pa_nil))))) (pw_or (pt_cmpR op_ne (pv 2) (pv 4) (nomark _)) (pw_or (pt_not (pt_val (pe_callB call_isi (by rfl) T.n_isinstance (by decide +kernel) (pa_cons (pv 3) (pa_cons (pe_bltn (v := .ty "bool") (u := .type "bool") (by rfl) T.n_bool (by decide +kernel) rfl) pa_nil))))) (pw_or1 (pt_cmpR op_ne (pv 3) (pv 4) (nomark _))))))) (pss_one (ps_ret pe_bl)) pss_nil)
      (pss_one (ps_ret (pe_and (pe_call G_law_kept (hr.mono (by decide)) (by rfl) T.g_law_kept T.k_law_kept b_law_kept .nil pass0 (pa_cons (pe_ix ix_list (pv 0) pe_int (fun _ _ => rfl)) (pa_cons (pe_ix ix_list (pv 1) pe_int (fun _ _ => rfl)) pa_nil))) (pe_one (pe_call G_law_kept (hr.mono (by decide)) (by rfl) T.g_law_kept T.k_law_kept b_law_kept .nil pass0 (pa_cons (pe_ix ix_list (pv 0) pe_int (fun _ _ => rfl)) (pa_cons (pe_ix ix_list (pv 1) pe_int (fun _ _ => rfl)) pa_nil))))))))))), ?_⟩
    obtain ⟨dx0, ha0⟩ := t.r0.at
    obtain ⟨dx1, ha1⟩ := t.r1.at
    refine ⟨_, rfl, h, _, _, _, rfl, rfl, SqL.of t.hh, rfl, _, rfl, h, _, _, _, rfl, rfl, SqL.of t.hh, rfl, a0, dx0, _, a1, dx1, _, rfl, rfl, ha0, ha1, T.o_nf, a0, c0, a1, c1, b0, b1, rfl, t.r0, t.r1, fun H1 e1 => ?_⟩
    have t1 := t.ex e1
    refine ⟨_, rfl, h, _, _, _, rfl, rfl, SqL.of t1.hh, rfl, _, rfl, h, _, _, _, rfl, rfl, SqL.of t1.hh, rfl, a1, dx1, _, a0, dx0, _, rfl, rfl, e1 _ _ ha1, e1 _ _ ha0, T.o_nf, a1, c1, a0, c0, b1, b0, rfl, t1.r1, t1.r0, fun H2 e2 => ?_⟩
    rw [sw_dec b1 b0]
    have t2 := t1.ex e2
    refine ⟨_, rfl, r, _, _, _, rfl, rfl, SqL.of t2.hr, rfl, _, rfl, r, _, _, _, rfl, rfl, SqL.of t2.hr, rfl, _, _, dp_N t2.l0, dp_N t2.l1, shaped_I _, shaped_I _, ?_⟩
    rw [eqv_N]
    refine ⟨_, rfl, _, _, _, _, true, rfl, ClsV.ty "bool", TyX.base (TyOf.bl _), kit_ty (by decide +kernel), _, rfl, iteF ?_⟩
    refine ⟨_, rfl, _, rfl, rfl, _, rfl, ?_⟩
    refine ite_b (fun z => absurd (ne_self _) (by rw [z]; decide)) (fun _ => ?_)
    refine ⟨_, rfl, _, _, _, _, true, rfl, ClsV.ty "bool", TyX.base (TyOf.bl _), kit_ty (by decide +kernel), _, rfl, iteF ?_⟩
    refine ⟨_, rfl, _, rfl, rfl, _, rfl, ?_⟩
    refine ite_b (fun z => absurd (ne_self _) (by rw [z]; decide)) (fun _ => ?_)
    refine ⟨_, rfl, h, _, _, _, rfl, rfl, SqL.of t2.hh, rfl, _, rfl, r, _, _, _, rfl, rfl, SqL.of t2.hr, rfl, a0, c0, p0, b0, rfl, t2.r0, t2.l0, fun H3 e3 => ?_⟩
    have t3 := t2.ex e3
    refine ⟨true, rfl, iteT ?_⟩
    refine ⟨_, rfl, h, _, _, _, rfl, rfl, SqL.of t3.hh, rfl, _, rfl, r, _, _, _, rfl, rfl, SqL.of t3.hr, rfl, a1, c1, p1, b1, rfl, t3.r1, t3.l1, fun H4 e4 => ?_⟩
    exact k H4 (((e1.trans e2).trans e3).trans e4)

end

section
variable {P : Program} {w : World} {K : PySem.W.Frag} {mg : Str → Option Value} {base : Heap} {A : Ad}
theorem ok_law_every (T : Txt K mg A)  (g_law_numbered : Okd P w K mg base CX0 7 A.law_numbered P_law_numbered (spNmd A)) (g_law_kept : Okd P w K mg base CX0 5 A.law_kept P_law_kept (spKept A)) : Okd P w K mg base CX0 8 A.law_every P_law_every spCon := by
  obtain ⟨fd, F⟩ := T.d_law_every
  obtain ⟨fd_law_numbered, G_law_numbered, b_law_numbered⟩ := g_law_numbered
  obtain ⟨fd_law_kept, G_law_kept, b_law_kept⟩ := g_law_kept
  refine ⟨fd, F.ok sc_law_every (fun vs H Q E h => ?_) (fun cdv A' outer s H vs Q E hr h => ?_), F.binds fun _ _ _ _ _ _ us hl => match us, hl with | [], _ => rfl⟩
  · obtain ⟨rfl, _⟩ := h
    rfl
  · obtain ⟨rfl, k⟩ := h
    refine ⟨_, (pss_cons (ps_for PassesOwn.never rfl (pi_range2 (by rfl) T.n_range (pa_cons (pe_un un_neg pe_int) (pa_cons pe_int pa_nil))) (pg_name (i := 0) sc_law_every.nd rfl (Or.inl rfl)) (pss_cons (ps_asg (pe_call G_law_numbered (hr.mono (by decide)) (by rfl) T.g_law_numbered T.k_law_numbered b_law_numbered .nil pass0 (pa_cons (pv 0) pa_nil)) (pg_unl (by rfl) (pgs_cons (pg_name (i := 1) sc_law_every.nd rfl (Or.inl rfl)) (pgs_cons (pg_name (i := 2) sc_law_every.nd rfl (Or.inl rfl)) (pgs_cons (pg_name (i := 3) sc_law_every.nd rfl (Or.inl rfl)) pgs_nil)))))
      (pss_one (ps_if (PW.pt (pw_or (pt_not (pt_val (pv 1))) (pw_or1 (pt_not (pt_val (pe_call G_law_kept (hr.mono (by decide)) (by rfl) T.g_law_kept T.k_law_kept b_law_kept .nil pass0 (pa_cons (pv 2) (pa_cons (pv 3) pa_nil)))))))) (pss_one (ps_ret pe_bl)) pss_nil))))
      (pss_one (ps_ret pe_bl))), ?_⟩
    refine ⟨_, rfl, _, _, rfl, ⟨by decide, by decide, by decide, by decide⟩, for_range (lo := -2) (fun i σ G => ∃ v0 v1 v2 v3 : Option V, σ = [v0, v1, v2, v3] ∧ Ex H G) ⟨none, none, none, none, rfl, Ex.refl _⟩ ?_ ?_⟩
    · rintro i σ G hi ⟨v0, v1, v2, v3, rfl, e⟩
      have hi : i < 37 := hi
      generalize hv : (-2 : Int) + (i : Int) = v
      refine ⟨_, rfl, v, rfl, Nat.lt_of_le_of_lt (show v.natAbs ≤ 100 by omega) (by decide), fun q a c p G1 hq ha hc hp f1 hq1 R l1 l2 => ?_⟩
      have lp : ListN G1 p (ndL v) := by
        by_cases z : 0 ≤ v ∧ v < 32
        · exact l1 z
        · exact l2 z
      refine ⟨q, _, rfl, SqL.of hq1, rfl, _, _, rfl, _, _, rfl, _, _, rfl, rfl, ?_⟩
      refine ⟨_, rfl, _, rfl, ?_⟩
      refine iteF ?_
      refine ⟨_, rfl, _, rfl, a, c, p, _, rfl, R, lp, fun G2 f2 => ⟨_, rfl, iteF ?_⟩⟩
      exact ⟨_, _, _, _, rfl, (e.trans f1).trans f2⟩
    · rintro σ G ⟨v0, v1, v2, v3, rfl, e⟩
      exact k G e

end

section
variable {P : Program} {w : World} {K : PySem.W.Frag} {mg : Str → Option Value} {base : Heap} {A : Ad}
/-- of what kind an object is -/
def kdO : HO → Nat
  | .ins _ _ _ => 0
  | .dK _ => 1
  | .lst xs => xs.length
  | _ => 9
def KdAt (H : Hp) (x : Addr) (k : Nat) : Prop := ∃ o, H x = some o ∧ kdO o = k
theorem kd_ne {H : Hp} {x y : Addr} {i j : Nat} (hx : KdAt H x i) (hy : KdAt H y j) (h : i ≠ j) : x ≠ y := fun e => by
  obtain ⟨o, h1, rfl⟩ := hx
  obtain ⟨o2, h2, rfl⟩ := hy
  rw [e, h2] at h1
  injection h1 with h1
  exact h (by rw [h1])
theorem Ru.ka {A : Ad} {H : Hp} {a c : Addr} {bs : List Nat} (R : Ru A H a c bs) : KdAt H a 0 := by
  obtain ⟨dx, ha⟩ := R.at
  exact ⟨_, ha, rfl⟩
theorem Ru.kc {A : Ad} {H : Hp} {a c : Addr} {bs : List Nat} (R : Ru A H a c bs) : KdAt H c 1 := by
  obtain ⟨dx, kvs, ha, hc, r⟩ := R
  exact ⟨_, hc, rfl⟩
theorem kp {H : Hp} {p : Addr} {bs : List Nat} (h : ListN H p bs) (b : Bits bs) : KdAt H p 5 := ⟨_, h, by
  show (nI bs).length = 5
  rw [nI_len, b.len]⟩
theorem Strm.kd {H : Hp} {s : Addr} (S : Strm H s) : KdAt H s 3 := by
  obtain ⟨r, x, t, hb, _⟩ := S
  exact ⟨_, hb, rfl⟩
section
variable {A : Ad} {H G H' : Hp} {h r s a0 a1 c0 c1 p0 p1 an cn pn : Addr} {b0 b1 bn : List Nat}
theorem Two.kh (t : Two A H h r a0 a1 c0 c1 p0 p1 b0 b1) : KdAt H h 2 := ⟨_, t.hh, rfl⟩
theorem Two.kr (t : Two A H h r a0 a1 c0 c1 p0 p1 b0 b1) : KdAt H r 2 := ⟨_, t.hr, rfl⟩
theorem Two.k0 (t : Two A H h r a0 a1 c0 c1 p0 p1 b0 b1) : KdAt H p0 5 := kp t.l0 t.r0.bits
theorem Two.k1 (t : Two A H h r a0 a1 c0 c1 p0 p1 b0 b1) : KdAt H p1 5 := kp t.l1 t.r1.bits
theorem Two.nhr (t : Two A H h r a0 a1 c0 c1 p0 p1 b0 b1) : h ≠ r := fun e => by
  have z := t.hh
  rw [e, t.hr] at z
  injection z with z
  injection z with z
  injection z with z
  injection z with z
  exact kd_ne t.r0.ka t.k0 (by decide) z.symm
/-- all that belongs to it stays where something else is altered -/
theorem Two.keep (t : Two A H h r a0 a1 c0 c1 p0 p1 b0 b1) (k : ∀ x i o, i ≠ 3 → KdAt H x i → H x = some o → H' x = some o) : Two A H' h r a0 a1 c0 c1 p0 p1 b0 b1 :=
  ⟨k _ _ _ (by decide) t.kh t.hh, k _ _ _ (by decide) t.kr t.hr, t.r0.keep (fun o => k _ _ o (by decide) t.r0.ka) (fun o => k _ _ o (by decide) t.r0.kc), t.r1.keep (fun o => k _ _ o (by decide) t.r1.ka) (fun o => k _ _ o (by decide) t.r1.kc),
    k _ _ _ (by decide) t.k0 t.l0, k _ _ _ (by decide) t.k1 t.l1, t.nc, t.np⟩
theorem Two.mut (t : Two A H h r a0 a1 c0 c1 p0 p1 b0 b1) (S : Strm H s) (m : Mut s H H') : Two A H' h r a0 a1 c0 c1 p0 p1 b0 b1 := t.keep fun x _ o n3 kx ho => m x o (kd_ne kx S.kd n3) ho
theorem Two.put0 (t : Two A G h r a0 a1 c0 c1 p0 p1 b0 b1) (Rn : Ru A G an cn bn) (ln : ListN G pn bn) (n1 : cn ≠ c1) (n2 : pn ≠ p1) (keep : ∀ b o, b ≠ h → b ≠ r → G b = some o → H' b = some o)
    (hh : H' h = some (.lst [.ref an, .ref a1])) (hr : H' r = some (.lst [.ref pn, .ref p1])) : Two A H' h r an a1 cn c1 pn p1 bn b1 := by
  have kk : ∀ x i o, i ≠ 2 → KdAt G x i → G x = some o → H' x = some o := fun x i o n2 kx ho => keep x o (kd_ne kx t.kh n2) (kd_ne kx t.kr n2) ho
  exact ⟨hh, hr, Rn.keep (fun o => kk _ _ o (by decide) Rn.ka) (fun o => kk _ _ o (by decide) Rn.kc), t.r1.keep (fun o => kk _ _ o (by decide) t.r1.ka) (fun o => kk _ _ o (by decide) t.r1.kc),
    kk _ _ _ (by decide) (kp ln Rn.bits) ln, kk _ _ _ (by decide) t.k1 t.l1, n1, n2⟩
theorem Two.put1 (t : Two A G h r a0 a1 c0 c1 p0 p1 b0 b1) (Rn : Ru A G an cn bn) (ln : ListN G pn bn) (n1 : cn ≠ c0) (n2 : pn ≠ p0) (keep : ∀ b o, b ≠ h → b ≠ r → G b = some o → H' b = some o)
    (hh : H' h = some (.lst [.ref a0, .ref an])) (hr : H' r = some (.lst [.ref p0, .ref pn])) : Two A H' h r a0 an c0 cn p0 pn b0 bn := by
  have kk : ∀ x i o, i ≠ 2 → KdAt G x i → G x = some o → H' x = some o := fun x i o n2 kx ho => keep x o (kd_ne kx t.kh n2) (kd_ne kx t.kr n2) ho
  exact ⟨hh, hr, t.r0.keep (fun o => kk _ _ o (by decide) t.r0.ka) (fun o => kk _ _ o (by decide) t.r0.kc), Rn.keep (fun o => kk _ _ o (by decide) Rn.ka) (fun o => kk _ _ o (by decide) Rn.kc),
    kk _ _ _ (by decide) t.k0 t.l0, kk _ _ _ (by decide) (kp ln Rn.bits) ln, n1.symm, n2.symm⟩
theorem But.refl {xs : List Addr} : But xs H H := fun _ _ _ z => z
theorem But.mut {xs : List Addr} (x : But xs H G) (hs : s ∈ xs) (m : Mut s G H') : But xs H H' := fun b o nb ho => m b o (fun e => nb (e ▸ hs)) (x b o nb ho)
theorem But.ex {xs : List Addr} (x : But xs H G) (e : Ex G H') : But xs H H' := fun b o nb ho => e b o (x b o nb ho)
theorem But.back {xs : List Addr} {x : Addr} (b : But xs H G) (all : ∀ y ∈ xs, G y ≠ none) (hx : G x = none) : H x = none := by
  cases e : H x with
  | none => rfl
  | some o =>
    by_cases m : x ∈ xs
    · exact absurd hx (all x m)
    · rw [b x o m e] at hx
      cases hx
theorem KdAt.some {x : Addr} {i : Nat} (kx : KdAt H x i) : H x ≠ none := fun z => by
  obtain ⟨o, ho, _⟩ := kx
  rw [z] at ho
  cases ho
theorem all7 (S : Strm H s) (t : Two A H h r a0 a1 c0 c1 p0 p1 b0 b1) : ∀ y ∈ [s, h, r, c0, c1, p0, p1], H y ≠ none := fun y hy => by
  simp only [List.mem_cons, List.not_mem_nil, or_false] at hy
  rcases hy with rfl | rfl | rfl | rfl | rfl | rfl | rfl
  · exact S.kd.some
  · exact t.kh.some
  · exact t.kr.some
  · exact t.r0.kc.some
  · exact t.r1.kc.some
  · exact t.k0.some
  · exact t.k1.some
theorem But.two {xs : List Addr} (x : But xs H G) (hs : s ∈ xs) (hr : r ∈ xs) (m : ∀ b o, b ≠ s → b ≠ r → G b = some o → H' b = some o) : But xs H H' := fun b o nb ho => m b o (fun e => nb (e ▸ hs)) (fun e => nb (e ▸ hr)) (x b o nb ho)
end
theorem ok_law_round (T : Txt K mg A)  (g_law_draw : Okd P w K mg base CX0 1 A.law_draw P_law_draw spDraw) (g_m_copy : Okd P w K mg base (L2N.CX P w) 7 A.m_copy P_m_copy (spCp A)) (g_law_value : Okd P w K mg base CX0 2 A.law_value P_law_value spVal) (g_law_numbered : Okd P w K mg base CX0 7 A.law_numbered P_law_numbered (spNmd A)) (g_law_pick_name : Okd P w K mg base CX0 2 A.law_pick_name P_law_pick_name spPN) (g_law_chosen : Okd P w K mg base CX0 4 A.law_chosen P_law_chosen (spChn A)) (g_law_changed : Okd P w K mg base CX0 4 A.law_changed P_law_changed (spChg A)) (g_law_pick_word : Okd P w K mg base CX0 2 A.law_pick_word P_law_pick_word spPW) : Okd P w K mg base CX0 8 A.law_round P_law_round (spRound A) := by
  obtain ⟨fd, F⟩ := T.d_law_round
  obtain ⟨fd_law_draw, G_law_draw, b_law_draw⟩ := g_law_draw
  obtain ⟨fd_m_copy, G_m_copy, b_m_copy⟩ := g_m_copy
  obtain ⟨fd_law_value, G_law_value, b_law_value⟩ := g_law_value
  obtain ⟨fd_law_numbered, G_law_numbered, b_law_numbered⟩ := g_law_numbered
  obtain ⟨fd_law_pick_name, G_law_pick_name, b_law_pick_name⟩ := g_law_pick_name
  obtain ⟨fd_law_chosen, G_law_chosen, b_law_chosen⟩ := g_law_chosen
  obtain ⟨fd_law_changed, G_law_changed, b_law_changed⟩ := g_law_changed
  obtain ⟨fd_law_pick_word, G_law_pick_word, b_law_pick_word⟩ := g_law_pick_word
  refine ⟨fd, F.ok sc_law_round (fun vs H Q E h => ?_) (fun cdv A' outer s H vs Q E hr h => ?_), F.binds fun _ _ _ _ _ _ us hl => match us, hl with | [_, _, _], _ => rfl⟩
  · obtain ⟨s1, h, r, a0, a1, c0, c1, p0, p1, b0, b1, rfl, _⟩ := h
    rfl
  · obtain ⟨s1, h, r, a0, a1, c0, c1, p0, p1, b0, b1, rfl, S, t, k⟩ := h
    refine ⟨_, (pss_cons (ps_set (i := 3) sc_law_round.nd rfl (Or.inl rfl) (pe_call G_law_draw (hr.mono (by decide)) (by rfl) T.g_law_draw T.k_law_draw b_law_draw .nil pass0 (pa_cons (pv 0) (pa_cons pe_int pa_nil))))
      (pss_cons (ps_set (i := 4) sc_law_round.nd rfl (Or.inl rfl) (pe_call G_law_draw (hr.mono (by decide)) (by rfl) T.g_law_draw T.k_law_draw b_law_draw .nil pass0 (pa_cons (pv 0) (pa_cons pe_int pa_nil))))
      (pss_cons (ps_if (pt_cmpR op_eq (pv 4) pe_int (nomark _)) (pss_cons (ps_asg (MkS.pe_methS0 (pe_ix ix_list (pv 1) (pv 3) (fun _ _ => rfl)) T.cR T.mt_copy G_m_copy (hr.mono (by decide)) b_m_copy (fun σ => L2N.passAt L2N.takes0N σ)) (pg_sub (pv 1) (pe_op op_sub pe_int (pv 3)) set_list))
      (pss_cons (ps_asg (pe_callTy call_list_of (by rfl) T.n_list (by decide +kernel) (pa_cons (pe_ix ix_list (pv 2) (pv 3) (fun _ _ => rfl)) pa_nil)) (pg_sub (pv 2) (pe_op op_sub pe_int (pv 3)) set_list))
      (pss_one (ps_ret (pe_callB call_isi (by rfl) T.n_isinstance (by decide +kernel) (pa_cons (pe_ix ix_list (pv 1) (pe_op op_sub pe_int (pv 3)) (fun _ _ => rfl)) (pa_cons (pe_glob (v := .ref A.Rules) rfl T.g_Rules rfl) pa_nil))))))) pss_nil)
      (pss_cons (ps_if (pt_cmpR op_eq (pv 4) pe_int (nomark _)) (pss_cons (ps_set (i := 5) sc_law_round.nd rfl (Or.inl rfl) (pe_call G_law_value (hr.mono (by decide)) (by rfl) T.g_law_value T.k_law_value b_law_value .nil pass0 (pa_cons (pv 0) pa_nil)))
      (pss_cons (ps_asg (pe_call G_law_numbered (hr.mono (by decide)) (by rfl) T.g_law_numbered T.k_law_numbered b_law_numbered .nil pass0 (pa_cons (pv 5) pa_nil)) (pg_unl (by rfl) (pgs_cons (pg_name (i := 6) sc_law_round.nd rfl (Or.inl rfl)) (pgs_cons (pg_name (i := 7) sc_law_round.nd rfl (Or.inl rfl)) (pgs_cons (pg_name (i := 8) sc_law_round.nd rfl (Or.inl rfl)) pgs_nil)))))
      (pss_cons (ps_if (PW.pt (pw_and (pt_cmpR op_le pe_int (pv 5) (nomark _)) (pw_and1 (pt_cmpR op_le (pv 5) pe_int (nomark _))))) (pss_cons (ps_asg (pv 7) (pg_sub (pv 1) (pv 3) set_list))
      (pss_one (ps_asg (pv 8) (pg_sub (pv 2) (pv 3) set_list)))) pss_nil)
      (pss_one (ps_ret (pv 6)))))) pss_nil)
      (pss_cons (ps_set (i := 9) sc_law_round.nd rfl (Or.inl rfl) (pe_call G_law_pick_name (hr.mono (by decide)) (by rfl) T.g_law_pick_name T.k_law_pick_name b_law_pick_name .nil pass0 (pa_cons (pv 0) pa_nil)))
      (pss_cons (ps_if (pt_cmpR op_eq (pv 4) pe_int (nomark _)) (pss_one (ps_ret (pe_call G_law_chosen (hr.mono (by decide)) (by rfl) T.g_law_chosen T.k_law_chosen b_law_chosen .nil pass0 (pa_cons (pe_ix ix_list (pv 1) (pv 3) (fun _ _ => rfl)) (pa_cons (pe_ix ix_list (pv 2) (pv 3) (fun _ _ => rfl)) (pa_cons (pv 9) pa_nil)))))) pss_nil)
      (pss_one (ps_ret (pe_call G_law_changed (hr.mono (by decide)) (by rfl) T.g_law_changed T.k_law_changed b_law_changed .nil pass0 (pa_cons (pe_ix ix_list (pv 1) (pv 3) (fun _ _ => rfl)) (pa_cons (pe_ix ix_list (pv 2) (pv 3) (fun _ _ => rfl)) (pa_cons (pv 9) (pa_cons (pe_call G_law_pick_word (hr.mono (by decide)) (by rfl) T.g_law_pick_word T.k_law_pick_word b_law_pick_word .nil pass0 (pa_cons (pv 0) (pa_cons (pv 9) (pa_cons pe_bl pa_nil)))) pa_nil))))))))))))), ?_⟩
    have B0 : But [s1, h, r, c0, c1, p0, p1] H H := But.refl
    refine ⟨_, rfl, s1, 2, rfl, by decide, by decide, S, fun one H1 o0 o1 S1 M1 => ?_⟩
    have t1 := t.mut S M1
    have B1 := B0.mut (by simp) M1
    have oc : one = 0 ∨ one = 1 := by omega
    rcases oc with rfl | rfl
    · refine ⟨_, rfl, s1, 8, rfl, by decide, by decide, S1, fun deed H2 _ _ S2 M2 => ?_⟩
      have t2 := t1.mut S1 M2
      have B2 := B1.mut (by simp) M2
      obtain ⟨dx, ha⟩ := t2.r0.at
      refine ⟨_, rfl, rfl, _, rfl, ?_⟩
      refine ite_b (fun _ => ?_) (fun _ => ?_)
      · refine ⟨_, rfl, _, rfl, h, _, _, _, rfl, rfl, SqL.of t2.hh, rfl, a0, dx, _, rfl, ha, rfl, a0, c0, b0, rfl, t2.r0, fun an cn G1 han hcn f1 Rn => ?_⟩
        have t3 := t2.ex f1
        refine ⟨_, rfl, _, rfl, _, _, rfl, rfl, h, _, _, 1, rfl, rfl, t3.hh, rfl, ?_⟩
        have g2h : upd G1 h (.lst [.ref a0, .ref an]) h = some (.lst [.ref a0, .ref an]) := upd_same
        have k2 : ∀ b o, b ≠ h → G1 b = some o → upd G1 h (.lst [.ref a0, .ref an]) b = some o := fun b o nb ho => by
          rw [upd_ne nb]
          exact ho
        have z2 : ∀ b, upd G1 h (.lst [.ref a0, .ref an]) b = none → G1 b = none := fun b hb => (upd_none hb).2
        refine ⟨_, rfl, _, rfl, r, _, _, _, rfl, rfl, SqL.of (k2 _ _ t3.nhr.symm t3.hr), rfl, p0, _, rfl, Or.inl (SqL.of (k2 _ _ (kd_ne t3.k0 t3.kh (by decide)) t3.l0)), fun pn hpn => ?_⟩
        have f3 := Ex.new (o := .lst (nI b0)) hpn
        have nrp : r ≠ pn := ne_of_none (k2 _ _ t3.nhr.symm t3.hr) hpn
        refine ⟨_, rfl, _, rfl, _, _, rfl, rfl, r, _, _, 1, rfl, rfl, f3 _ _ (k2 _ _ t3.nhr.symm t3.hr), rfl, ?_⟩
        have g1p := z2 pn hpn
        have t4 := t3.ex (Ex.new (o := .lst (nI b0)) g1p)
        have keep : ∀ b o, b ≠ h → b ≠ r → upd G1 pn (.lst (nI b0)) b = some o → upd (upd (upd G1 h (.lst [.ref a0, .ref an])) pn (.lst (nI b0))) r (.lst [.ref p0, .ref pn]) b = some o := fun b o nh nr ho => by
          rw [upd_ne nr]
          by_cases e : b = pn
          · subst e
            rw [upd_same] at ho ⊢
            exact ho
          · rw [upd_ne e] at ho ⊢
            exact k2 b o nh ho
        have npc : cn ≠ c0 := fun e => by
          have z := t2.r0.kc
          rw [← e] at z
          obtain ⟨o, ho, _⟩ := z
          rw [hcn] at ho
          cases ho
        have npp : pn ≠ p0 := fun e => by
          have z : G1 p0 = _ := t3.l0
          rw [← e, g1p] at z
          cases z
        have T4 := t4.put1 (Rn.ex (Ex.new (o := .lst (nI b0)) g1p)) upd_same npc npp keep (by rw [upd_ne t3.nhr]; exact f3 _ _ g2h) upd_same
        refine ⟨_, rfl, _, rfl, _, _, rfl, rfl, h, _, _, _, rfl, rfl, SqL.of T4.hh, rfl, _, _, _, _, true, rfl, ClsV.own _, T.ty T4.r1, kit_self, ?_⟩
        refine k a0 an c0 cn p0 pn b0 b0 _ ((B2.ex f1).two (s := h) (r := r) (by simp) (by simp) fun b o n1 n2 ho => keep b o n1 n2 (Ex.new g1p b o ho)) T4 (fun x hx => ?_)
        have all2 := all7 S2 t2
        simp only [List.mem_cons, List.not_mem_nil, or_false] at hx
        rcases hx with rfl | rfl | rfl | rfl
        · exact Or.inr (by simp)
        · exact Or.inl (B2.back all2 hcn)
        · exact Or.inr (by simp)
        · exact Or.inl (B2.back all2 (back_none f1 g1p))
      refine ⟨_, rfl, rfl, _, rfl, ?_⟩
      refine ite_b (fun _ => ?_) (fun _ => ?_)
      · refine ⟨_, rfl, s1, rfl, S2, fun v H3 hv S3 M3 => ?_⟩
        have t3 := t2.mut S2 M3
        have B3 := B2.mut (s := s1) (by simp) M3
        refine ⟨_, rfl, v, rfl, hv, fun q an cn pn H4 hq han hcn hpn f4 hq4 Rn l1 l2 => ?_⟩
        have t4 := t3.ex f4
        have B4 := B3.ex f4
        refine ⟨q, _, rfl, SqL.of hq4, rfl, _, _, rfl, _, _, rfl, _, _, rfl, rfl, ?_⟩
        have old : ∀ G, But [s1, h, r, c0, c1, p0, p1] H G → Two A G h r a0 a1 c0 c1 p0 p1 b0 b1 → Q (.bl true) G := fun G B t => k a0 a1 c0 c1 p0 p1 b0 b1 G B t fun x hx => Or.inr hx
        refine ⟨_, rfl, _, _, rfl, rfl, _, rfl, ?_⟩
        refine ite_b (fun g0 => ?_) (fun _ => ?_)
        · refine ⟨_, rfl, _, _, rfl, rfl, _, rfl, ?_⟩
          refine ite_b (fun g1 => ?_) (fun _ => ?_)
          · have g0 := of_decide_eq_true g0
            have g1 := of_decide_eq_true g1
            have lp := l1 ⟨g0, by omega⟩
            refine ⟨_, rfl, _, rfl, _, rfl, h, _, _, 0, rfl, rfl, t4.hh, rfl, ?_⟩
            have k5 : ∀ b o, b ≠ h → H4 b = some o → upd H4 h (.lst [.ref an, .ref a1]) b = some o := fun b o nb ho => by
              rw [upd_ne nb]
              exact ho
            refine ⟨_, rfl, _, rfl, _, rfl, r, _, _, 0, rfl, rfl, k5 _ _ t4.nhr.symm t4.hr, rfl, ?_⟩
            have keep : ∀ b o, b ≠ h → b ≠ r → H4 b = some o → upd (upd H4 h (.lst [.ref an, .ref a1])) r (.lst [.ref pn, .ref p1]) b = some o := fun b o nh nr ho => by
              rw [upd_ne nr]
              exact k5 b o nh ho
            have npc : cn ≠ c1 := fun e => by
              have z := t3.r1.kc
              rw [← e] at z
              obtain ⟨o, ho, _⟩ := z
              rw [hcn] at ho
              cases ho
            have npp : pn ≠ p1 := fun e => by
              have z : H3 p1 = _ := t3.l1
              rw [← e, hpn] at z
              cases z
            have T5 := t4.put0 Rn lp npc npp keep (by rw [upd_ne t4.nhr]; exact upd_same) upd_same
            refine ⟨_, rfl, ?_⟩
            refine k an a1 cn c1 pn p1 (ndL v) b1 _ (B4.two (s := h) (r := r) (by simp) (by simp) keep) T5 (fun x hx => ?_)
            have all3 := all7 S3 t3
            simp only [List.mem_cons, List.not_mem_nil, or_false] at hx
            rcases hx with rfl | rfl | rfl | rfl
            · exact Or.inl (B3.back all3 hcn)
            · exact Or.inr (by simp)
            · exact Or.inl (B3.back all3 hpn)
            · exact Or.inr (by simp)
          · exact ⟨_, rfl, old _ B4 t4⟩
        · exact ⟨_, rfl, old _ B4 t4⟩
      refine ⟨_, rfl, s1, rfl, S2, fun nn H3 hnn S3 M3 => ?_⟩
      have t3 := t2.mut S2 M3
      have B3 := B2.mut (s := s1) (by simp) M3
      refine ⟨_, rfl, rfl, _, rfl, ?_⟩
      refine ite_b (fun _ => ?_) (fun _ => ?_)
      · refine ⟨_, rfl, _, rfl, h, _, _, _, rfl, rfl, SqL.of t3.hh, rfl, _, rfl, _, rfl, r, _, _, _, rfl, rfl, SqL.of t3.hr, rfl, _, rfl, a0, c0, p0, b0, nn, rfl, hnn, t3.r0, t3.l0, fun H4 e4 => ?_⟩
        exact k a0 a1 c0 c1 p0 p1 b0 b1 H4 (B3.ex e4) (t3.ex e4) fun x hx => Or.inr hx
      refine ⟨_, rfl, _, rfl, h, _, _, _, rfl, rfl, SqL.of t3.hh, rfl, _, rfl, _, rfl, r, _, _, _, rfl, rfl, SqL.of t3.hr, rfl, _, rfl, _, rfl, _, rfl, s1, nn, false, rfl, S3, fun w1 H4 hw1 S4 M4 => ?_⟩
      have t4 := t3.mut S3 M4
      have B4 := B3.mut (s := s1) (by simp) M4
      refine ⟨a0, c0, p0, b0, nn, w1, rfl, hnn, hw1, t4.r0, t4.l0, fun cs H5 keep R5 l5 => ?_⟩
      have kk : ∀ x i o, i ≠ 1 → i ≠ 5 → KdAt H4 x i → H4 x = some o → H5 x = some o := fun x i o n1 n5 kx ho => keep x o (kd_ne kx t4.r0.kc n1) (kd_ne kx t4.k0 n5) ho
      have ro : Ru A H5 a1 c1 b1 := t4.r1.keep (fun o => kk _ _ o (by decide) (by decide) t4.r1.ka) (fun o => keep _ o t4.nc.symm (kd_ne t4.r1.kc t4.k0 (by decide)))
      have lo : ListN H5 p1 b1 := keep _ _ (kd_ne t4.k1 t4.r0.kc (by decide)) t4.np.symm t4.l1
      exact k a0 a1 c0 c1 p0 p1 cs b1 H5 (B4.two (s := c0) (r := p0) (by simp) (by simp) keep) ⟨kk _ _ _ (by decide) (by decide) t4.kh t4.hh, kk _ _ _ (by decide) (by decide) t4.kr t4.hr, R5, ro, l5, lo, t4.nc, t4.np⟩ fun x hx => Or.inr hx
    · refine ⟨_, rfl, s1, 8, rfl, by decide, by decide, S1, fun deed H2 _ _ S2 M2 => ?_⟩
      have t2 := t1.mut S1 M2
      have B2 := B1.mut (by simp) M2
      obtain ⟨dx, ha⟩ := t2.r1.at
      refine ⟨_, rfl, rfl, _, rfl, ?_⟩
      refine ite_b (fun _ => ?_) (fun _ => ?_)
      · refine ⟨_, rfl, _, rfl, h, _, _, _, rfl, rfl, SqL.of t2.hh, rfl, a1, dx, _, rfl, ha, rfl, a1, c1, b1, rfl, t2.r1, fun an cn G1 han hcn f1 Rn => ?_⟩
        have t3 := t2.ex f1
        refine ⟨_, rfl, _, rfl, _, _, rfl, rfl, h, _, _, 0, rfl, rfl, t3.hh, rfl, ?_⟩
        have g2h : upd G1 h (.lst [.ref an, .ref a1]) h = some (.lst [.ref an, .ref a1]) := upd_same
        have k2 : ∀ b o, b ≠ h → G1 b = some o → upd G1 h (.lst [.ref an, .ref a1]) b = some o := fun b o nb ho => by
          rw [upd_ne nb]
          exact ho
        have z2 : ∀ b, upd G1 h (.lst [.ref an, .ref a1]) b = none → G1 b = none := fun b hb => (upd_none hb).2
        refine ⟨_, rfl, _, rfl, r, _, _, _, rfl, rfl, SqL.of (k2 _ _ t3.nhr.symm t3.hr), rfl, p1, _, rfl, Or.inl (SqL.of (k2 _ _ (kd_ne t3.k1 t3.kh (by decide)) t3.l1)), fun pn hpn => ?_⟩
        have f3 := Ex.new (o := .lst (nI b1)) hpn
        have nrp : r ≠ pn := ne_of_none (k2 _ _ t3.nhr.symm t3.hr) hpn
        refine ⟨_, rfl, _, rfl, _, _, rfl, rfl, r, _, _, 0, rfl, rfl, f3 _ _ (k2 _ _ t3.nhr.symm t3.hr), rfl, ?_⟩
        have g1p := z2 pn hpn
        have t4 := t3.ex (Ex.new (o := .lst (nI b1)) g1p)
        have keep : ∀ b o, b ≠ h → b ≠ r → upd G1 pn (.lst (nI b1)) b = some o → upd (upd (upd G1 h (.lst [.ref an, .ref a1])) pn (.lst (nI b1))) r (.lst [.ref pn, .ref p1]) b = some o := fun b o nh nr ho => by
          rw [upd_ne nr]
          by_cases e : b = pn
          · subst e
            rw [upd_same] at ho ⊢
            exact ho
          · rw [upd_ne e] at ho ⊢
            exact k2 b o nh ho
        have npc : cn ≠ c1 := fun e => by
          have z := t2.r1.kc
          rw [← e] at z
          obtain ⟨o, ho, _⟩ := z
          rw [hcn] at ho
          cases ho
        have npp : pn ≠ p1 := fun e => by
          have z : G1 p1 = _ := t3.l1
          rw [← e, g1p] at z
          cases z
        have T4 := t4.put0 (Rn.ex (Ex.new (o := .lst (nI b1)) g1p)) upd_same npc npp keep (by rw [upd_ne t3.nhr]; exact f3 _ _ g2h) upd_same
        refine ⟨_, rfl, _, rfl, _, _, rfl, rfl, h, _, _, _, rfl, rfl, SqL.of T4.hh, rfl, _, _, _, _, true, rfl, ClsV.own _, T.ty T4.r0, kit_self, ?_⟩
        refine k an a1 cn c1 pn p1 b1 b1 _ ((B2.ex f1).two (s := h) (r := r) (by simp) (by simp) fun b o n1 n2 ho => keep b o n1 n2 (Ex.new g1p b o ho)) T4 (fun x hx => ?_)
        have all2 := all7 S2 t2
        simp only [List.mem_cons, List.not_mem_nil, or_false] at hx
        rcases hx with rfl | rfl | rfl | rfl
        · exact Or.inl (B2.back all2 hcn)
        · exact Or.inr (by simp)
        · exact Or.inl (B2.back all2 (back_none f1 g1p))
        · exact Or.inr (by simp)
      refine ⟨_, rfl, rfl, _, rfl, ?_⟩
      refine ite_b (fun _ => ?_) (fun _ => ?_)
      · refine ⟨_, rfl, s1, rfl, S2, fun v H3 hv S3 M3 => ?_⟩
        have t3 := t2.mut S2 M3
        have B3 := B2.mut (s := s1) (by simp) M3
        refine ⟨_, rfl, v, rfl, hv, fun q an cn pn H4 hq han hcn hpn f4 hq4 Rn l1 l2 => ?_⟩
        have t4 := t3.ex f4
        have B4 := B3.ex f4
        refine ⟨q, _, rfl, SqL.of hq4, rfl, _, _, rfl, _, _, rfl, _, _, rfl, rfl, ?_⟩
        have old : ∀ G, But [s1, h, r, c0, c1, p0, p1] H G → Two A G h r a0 a1 c0 c1 p0 p1 b0 b1 → Q (.bl true) G := fun G B t => k a0 a1 c0 c1 p0 p1 b0 b1 G B t fun x hx => Or.inr hx
        refine ⟨_, rfl, _, _, rfl, rfl, _, rfl, ?_⟩
        refine ite_b (fun g0 => ?_) (fun _ => ?_)
        · refine ⟨_, rfl, _, _, rfl, rfl, _, rfl, ?_⟩
          refine ite_b (fun g1 => ?_) (fun _ => ?_)
          · have g0 := of_decide_eq_true g0
            have g1 := of_decide_eq_true g1
            have lp := l1 ⟨g0, by omega⟩
            refine ⟨_, rfl, _, rfl, _, rfl, h, _, _, 1, rfl, rfl, t4.hh, rfl, ?_⟩
            have k5 : ∀ b o, b ≠ h → H4 b = some o → upd H4 h (.lst [.ref a0, .ref an]) b = some o := fun b o nb ho => by
              rw [upd_ne nb]
              exact ho
            refine ⟨_, rfl, _, rfl, _, rfl, r, _, _, 1, rfl, rfl, k5 _ _ t4.nhr.symm t4.hr, rfl, ?_⟩
            have keep : ∀ b o, b ≠ h → b ≠ r → H4 b = some o → upd (upd H4 h (.lst [.ref a0, .ref an])) r (.lst [.ref p0, .ref pn]) b = some o := fun b o nh nr ho => by
              rw [upd_ne nr]
              exact k5 b o nh ho
            have npc : cn ≠ c0 := fun e => by
              have z := t3.r0.kc
              rw [← e] at z
              obtain ⟨o, ho, _⟩ := z
              rw [hcn] at ho
              cases ho
            have npp : pn ≠ p0 := fun e => by
              have z : H3 p0 = _ := t3.l0
              rw [← e, hpn] at z
              cases z
            have T5 := t4.put1 Rn lp npc npp keep (by rw [upd_ne t4.nhr]; exact upd_same) upd_same
            refine ⟨_, rfl, ?_⟩
            refine k a0 an c0 cn p0 pn b0 (ndL v) _ (B4.two (s := h) (r := r) (by simp) (by simp) keep) T5 (fun x hx => ?_)
            have all3 := all7 S3 t3
            simp only [List.mem_cons, List.not_mem_nil, or_false] at hx
            rcases hx with rfl | rfl | rfl | rfl
            · exact Or.inr (by simp)
            · exact Or.inl (B3.back all3 hcn)
            · exact Or.inr (by simp)
            · exact Or.inl (B3.back all3 hpn)
          · exact ⟨_, rfl, old _ B4 t4⟩
        · exact ⟨_, rfl, old _ B4 t4⟩
      refine ⟨_, rfl, s1, rfl, S2, fun nn H3 hnn S3 M3 => ?_⟩
      have t3 := t2.mut S2 M3
      have B3 := B2.mut (s := s1) (by simp) M3
      refine ⟨_, rfl, rfl, _, rfl, ?_⟩
      refine ite_b (fun _ => ?_) (fun _ => ?_)
      · refine ⟨_, rfl, _, rfl, h, _, _, _, rfl, rfl, SqL.of t3.hh, rfl, _, rfl, _, rfl, r, _, _, _, rfl, rfl, SqL.of t3.hr, rfl, _, rfl, a1, c1, p1, b1, nn, rfl, hnn, t3.r1, t3.l1, fun H4 e4 => ?_⟩
        exact k a0 a1 c0 c1 p0 p1 b0 b1 H4 (B3.ex e4) (t3.ex e4) fun x hx => Or.inr hx
      refine ⟨_, rfl, _, rfl, h, _, _, _, rfl, rfl, SqL.of t3.hh, rfl, _, rfl, _, rfl, r, _, _, _, rfl, rfl, SqL.of t3.hr, rfl, _, rfl, _, rfl, _, rfl, s1, nn, false, rfl, S3, fun w1 H4 hw1 S4 M4 => ?_⟩
      have t4 := t3.mut S3 M4
      have B4 := B3.mut (s := s1) (by simp) M4
      refine ⟨a1, c1, p1, b1, nn, w1, rfl, hnn, hw1, t4.r1, t4.l1, fun cs H5 keep R5 l5 => ?_⟩
      have kk : ∀ x i o, i ≠ 1 → i ≠ 5 → KdAt H4 x i → H4 x = some o → H5 x = some o := fun x i o n1 n5 kx ho => keep x o (kd_ne kx t4.r1.kc n1) (kd_ne kx t4.k1 n5) ho
      have ro : Ru A H5 a0 c0 b0 := t4.r0.keep (fun o => kk _ _ o (by decide) (by decide) t4.r0.ka) (fun o => keep _ o t4.nc (kd_ne t4.r0.kc t4.k1 (by decide)))
      have lo : ListN H5 p0 b0 := keep _ _ (kd_ne t4.k0 t4.r1.kc (by decide)) t4.np t4.l0
      exact k a0 a1 c0 c1 p0 p1 b0 cs H5 (B4.two (s := c1) (r := p1) (by simp) (by simp) keep) ⟨kk _ _ _ (by decide) (by decide) t4.kh t4.hh, kk _ _ _ (by decide) (by decide) t4.kr t4.hr, ro, R5, lo, l5, t4.nc, t4.np⟩ fun x hx => Or.inr hx

end

section
variable {P : Program} {w : World} {K : PySem.W.Frag} {mg : Str → Option Value} {base : Heap} {A : Ad}
theorem Mut.ex_of {b : Addr} {H G G' : Hp} (e : Ex H G) (hb : H b = none) (m : Mut b G G') : Ex H G' := fun x o ho => m x o (ne_of_none ho hb) (e x o ho)
theorem But.ex_of {xs : List Addr} {H G G' : Hp} (e : Ex H G) (hx : ∀ x ∈ xs, H x = none) (m : But xs G G') : Ex H G' := fun x o ho => m x o (fun z => by
  have := hx x z
  rw [ho] at this
  cases this) (e x o ho)
/-- two rules whose parts were not there at the start -/
def Anew (A : Ad) (H G : Hp) (h r : Addr) : Prop := ∃ (a0 a1 c0 c1 p0 p1 : Addr) (b0 b1 : List Nat), Two A G h r a0 a1 c0 c1 p0 p1 b0 b1 ∧ (∀ x ∈ [h, r, c0, c1, p0, p1], H x = none)
def spLaw (K : PySem.W.Frag) : Sp := fun vs H Q _ => ∃ (a : Addr) (ns : List Int), vs = [.ref a] ∧ SqL K H a (ns.map V.int) ∧ ns.length ≤ 63 ∧ ∀ H', Q (.bl true) H'
theorem ok_law {fd : FuncData} (T : Txt K mg A) (F : Fun K "law" "law" s_law A.law fd) (g_m_init : OkI P w K mg base A) (g_law_stream : Okd P w K mg base CX0 2 A.law_stream P_law_stream (spStrm K)) (g_law_draw : Okd P w K mg base CX0 1 A.law_draw P_law_draw spDraw) (g_law_names : Okd P w K mg base CX0 1 A.law_names P_law_names spNames) (g_law_pick_word : Okd P w K mg base CX0 2 A.law_pick_word P_law_pick_word spPW) (g_law_due : Okd P w K mg base CX0 3 A.law_due P_law_due spDue) (g_law_made : Okd P w K mg base CX0 7 A.law_made P_law_made (spMade A)) (g_law_constants : Okd P w K mg base CX0 2 A.law_constants P_law_constants spCon) (g_law_both : Okd P w K mg base CX0 6 A.law_both P_law_both (spBoth A)) (g_law_every : Okd P w K mg base CX0 8 A.law_every P_law_every spCon) (g_law_round : Okd P w K mg base CX0 8 A.law_round P_law_round (spRound A)) : FnOk P w K mg base CX0 9 A.law fd P_law (spLaw K) := by
  obtain ⟨fd_law_stream, G_law_stream, b_law_stream⟩ := g_law_stream
  obtain ⟨fd_law_draw, G_law_draw, b_law_draw⟩ := g_law_draw
  obtain ⟨fd_law_names, G_law_names, b_law_names⟩ := g_law_names
  obtain ⟨fd_law_pick_word, G_law_pick_word, b_law_pick_word⟩ := g_law_pick_word
  obtain ⟨fd_law_due, G_law_due, b_law_due⟩ := g_law_due
  obtain ⟨fd_law_made, G_law_made, b_law_made⟩ := g_law_made
  obtain ⟨fd_law_constants, G_law_constants, b_law_constants⟩ := g_law_constants
  obtain ⟨fd_law_both, G_law_both, b_law_both⟩ := g_law_both
  obtain ⟨fd_law_every, G_law_every, b_law_every⟩ := g_law_every
  obtain ⟨fd_law_round, G_law_round, b_law_round⟩ := g_law_round
  obtain ⟨fd_m_init, G_m_init, WY⟩ := g_m_init
  obtain ⟨mv_none, kb_none⟩ := WY.k_none
  refine F.ok sc_law (fun vs H Q E h => ?_) (fun cdv A' outer s H vs Q E hr h => ?_)
  · obtain ⟨a, ns, rfl, _⟩ := h
    rfl
  · obtain ⟨a, ns, rfl, hs, hlen63, k⟩ := h
    refine ⟨_, (pss_cons (ps_set (i := 1) sc_law.nd rfl (Or.inr rfl) (pe_call G_law_stream (hr.mono (by decide)) (by rfl) T.g_law_stream T.k_law_stream b_law_stream .nil pass0 (pa_cons (pv 0) (pa_cons pe_int pa_nil))))
      (pss_cons (ps_set (i := 2) sc_law.nd rfl (Or.inl rfl) (pe_call G_law_draw (hr.mono (by decide)) (by rfl) T.g_law_draw T.k_law_draw b_law_draw .nil pass0 (pa_cons (pv 1) (pa_cons pe_int pa_nil))))
      (pss_cons (ps_set (i := 3) sc_law.nd rfl (Or.inr rfl) (pe_cmpR op_eq (pe_call G_law_draw (hr.mono (by decide)) (by rfl) T.g_law_draw T.k_law_draw b_law_draw .nil pass0 (pa_cons (pv 1) (pa_cons pe_int pa_nil))) pe_int (nomark _)))
      (pss_cons (ps_set (i := 4) sc_law.nd rfl (Or.inl rfl) (pe_cmpR op_eq (pe_call G_law_draw (hr.mono (by decide)) (by rfl) T.g_law_draw T.k_law_draw b_law_draw .nil pass0 (pa_cons (pv 1) (pa_cons pe_int pa_nil))) pe_int (nomark _)))
      (pss_cons (ps_set (i := 5) sc_law.nd rfl (Or.inl rfl) (pe_call G_law_draw (hr.mono (by decide)) (by rfl) T.g_law_draw T.k_law_draw b_law_draw .nil pass0 (pa_cons (pv 1) (pa_cons pe_int pa_nil))))
      (pss_cons (ps_setLc (i := 6) (own := [("name", 16)]) (tt := tYes) (by rfl) sc_law.nd rfl rfl (sw_true rfl rfl rfl (by decide +kernel)) (pi_list (pe_call0 G_law_names (hr.mono (by decide)) (by rfl) T.g_law_names T.k_law_names b_law_names .nil pass0)) (blkOk_by (own := [("name", 16)]) (N := N_law) (sc := defScope s_law) (by decide +kernel)) (fun _ _ _ _ _ => (pg_name (i := 16) sc_law.nd rfl (Or.inl rfl))) (fun _ _ _ _ _ => pts_nil) (fun _ _ _ _ _ => (pe_call G_law_pick_word (hr.mono (by decide)) (by rfl) T.g_law_pick_word T.k_law_pick_word b_law_pick_word .nil pass0 (pa_cons (pv 1) (pa_cons (pv 16) (pa_cons (pv 3) pa_nil))))))
      (pss_cons (ps_asg (pe_call G_law_due (hr.mono (by decide)) (by rfl) T.g_law_due T.k_law_due b_law_due .nil pass0 (pa_cons (pv 2) (pa_cons (pv 6) pa_nil))) (pg_unl (by rfl) (pgs_cons (pg_name (i := 7) sc_law.nd rfl (Or.inl rfl)) (pgs_cons (pg_name (i := 8) sc_law.nd rfl (Or.inl rfl)) pgs_nil))))
      (pss_cons (ps_asg (pe_call G_law_made (hr.mono (by decide)) (by rfl) T.g_law_made T.k_law_made b_law_made .nil pass0 (pa_cons (pv 2) (pa_cons (pv 6) (pa_cons (pv 7) pa_nil)))) (pg_unl (by rfl) (pgs_cons (pg_name (i := 9) sc_law.nd rfl (Or.inl rfl)) (pgs_cons (pg_name (i := 10) sc_law.nd rfl (Or.inl rfl)) pgs_nil))))
      (pss_cons (ps_if (pt_not (pt_val (pv 9))) (pss_one (ps_ret pe_bl)) pss_nil)
      (pss_cons (ps_set (i := 11) sc_law.nd rfl (Or.inl rfl) (pe_lst (pa_cons (pv 10) (pa_cons (MkS.pe_makeS T.mkR G_m_init (hr.mono (by decide)) (by rfl) T.g_Rules kb_none (fun σ => L2N.passAt L2N.takes0N σ) pk_nil) pa_nil))))
      (pss_cons (ps_set (i := 12) sc_law.nd rfl (Or.inl rfl) (pe_lst (pa_cons (pv 8) (pa_cons (pe_lst (pa_cons pe_int (pa_cons pe_int (pa_cons pe_int (pa_cons pe_int (pa_cons pe_int pa_nil)))))) pa_nil))))
      (pss_cut (ps_if (PW.pt (pw_or (pt_not (pt_val (pe_call0 G_law_constants (hr.mono (by decide)) (by rfl) T.g_law_constants T.k_law_constants b_law_constants .nil pass0))) (pw_or (pt_not (pt_val (pe_call G_law_both (hr.mono (by decide)) (by rfl) T.g_law_both T.k_law_both b_law_both .nil pass0 (pa_cons (pv 11) (pa_cons (pv 12) pa_nil))))) (pw_or1 (PW.pt (pw_and (pt_val (pv 4)) (pw_and1 (pt_not (pt_val (pe_call0 G_law_every (hr.mono (by decide)) (by rfl) T.g_law_every T.k_law_every b_law_every .nil pass0)))))))))) (pss_one (ps_ret pe_bl)) pss_nil)
      (pss_cons (ps_for PassesOwn.never rfl (pi_range1 (by rfl) T.n_range (pa_cons (pv 5) pa_nil)) (pg_name (i := 13) sc_law.nd rfl (Or.inl rfl)) (pss_cons (ps_set (i := 14) sc_law.nd rfl (Or.inl rfl) (pe_call G_law_stream (hr.mono (by decide)) (by rfl) T.g_law_stream T.k_law_stream b_law_stream .nil pass0 (pa_cons (pv 0) (pa_cons (pe_op op_add pe_int (pv 13)) pa_nil))))
      (pss_cons (ps_set (i := 15) sc_law.nd rfl (Or.inl rfl) (pe_cmpR op_gt (pe_call G_law_draw (hr.mono (by decide)) (by rfl) T.g_law_draw T.k_law_draw b_law_draw .nil pass0 (pa_cons (pv 14) (pa_cons pe_int pa_nil))) pe_int (nomark _)))
      (pss_cons (ps_if (pt_not (pt_val (pe_call G_law_round (hr.mono (by decide)) (by rfl) T.g_law_round T.k_law_round b_law_round .nil pass0 (pa_cons (pv 14) (pa_cons (pv 11) (pa_cons (pv 12) pa_nil)))))) (pss_one (ps_ret pe_bl)) pss_nil)
      (pss_one (ps_if (PW.pt (pw_and (pt_val (pv 15)) (pw_and1 (pt_not (pt_val (pe_call G_law_both (hr.mono (by decide)) (by rfl) T.g_law_both T.k_law_both b_law_both .nil pass0 (pa_cons (pv 11) (pa_cons (pv 12) pa_nil)))))))) (pss_one (ps_ret pe_bl)) pss_nil))))))
      (pss_one (ps_ret (pe_call G_law_both (hr.mono (by decide)) (by rfl) T.g_law_both T.k_law_both b_law_both .nil pass0 (pa_cons (pv 11) (pa_cons (pv 12) pa_nil)))))))))))))))))), ?_⟩
    refine ⟨_, rfl, a, ns, 0, rfl, by decide, hs, fun s0 G1 hs0 e1 S1 => ?_⟩
    refine ⟨_, rfl, s0, 9, rfl, by decide, by decide, S1, fun way G2 w0 w9 S2 M2 => ?_⟩
    obtain ⟨way, rfl⟩ := Int.eq_ofNat_of_zero_le w0
    have hw9 : way < 9 := by omega
    have e2 := Mut.ex_of e1 hs0 M2
    refine ⟨_, rfl, s0, 2, rfl, by decide, by decide, S2, fun d1 G3 _ _ S3 M3 => ⟨rfl, ?_⟩⟩
    have e3 := Mut.ex_of e2 hs0 M3
    refine ⟨_, rfl, s0, 8, rfl, by decide, by decide, S3, fun d2 G4 _ _ S4 M4 => ⟨rfl, ?_⟩⟩
    have e4 := Mut.ex_of e3 hs0 M4
    refine ⟨_, rfl, s0, 62, rfl, by decide, by decide, S4, fun turns G5 n0 n1 S5 M5 => ?_⟩
    have e5 := Mut.ex_of e4 hs0 M5
    obtain ⟨turns, rfl⟩ := Int.eq_ofNat_of_zero_le n0
    refine ⟨rfl, fun q G6 hq f6 hl6 => ?_⟩
    have e6 := e5.trans f6
    have S6 := S5.ex f6
    have nqs : q ≠ s0 := S5.ne hq
    refine ⟨q, rfl, ⟨_, hl6.sz⟩, fun D hD => ?_⟩
    have nDs : D ≠ s0 := S6.ne hD
    have nDq : D ≠ q := (ne_of_none hl6 hD).symm
    have hD0 := back_none e6 hD
    refine lc_list (a := q) (xs := nm5.map V.str) (fun i G => Ex H G ∧ Strm G s0 ∧ ListS G q nm5 ∧ ∃ ws : List Str, ws.length = i ∧ (∀ w ∈ ws, w ∈ wds) ∧ ListS G D ws) ⟨ex_new e6 hD, S6.ex (Ex.new hD), Ex.new hD _ _ hl6, [], rfl, (fun w hw => by cases hw), upd_same⟩ (fun i G _ z => z.2.2.1.sz) ?_ ?_
    · rintro i x G hx ⟨e, S, hl, ws, hlen, hw, hd⟩
      obtain ⟨hi, rfl⟩ := nm5_at hx
      refine ⟨rfl, ?_⟩
      refine ⟨_, rfl, _, rfl, _, rfl, s0, nm5.getD i "", _, rfl, S, fun w1 G7 hw1 S7 M7 => ?_⟩
      refine ⟨_, M7 _ _ nDs hd, small1000 (by rw [List.length_map]; omega), ?_, ?_, ?_, ws ++ [w1], by rw [List.length_append, hlen]; rfl, ?_, ?_⟩
      · exact fun b o ho => by
          rw [upd_ne (ne_of_none ho hD0)]
          exact (Mut.ex_of e hs0 M7) b o ho
      · exact S7.keep fun o ho => by
          rw [upd_ne nDs.symm]
          exact ho
      · show upd G7 D _ q = _
        rw [upd_ne nDq.symm]
        exact M7 _ _ nqs hl
      · intro y hy
        rcases List.mem_append.mp hy with z | z
        · exact hw y z
        · rw [List.mem_singleton.mp z]
          exact hw1
      · show upd G7 D _ D = _
        rw [upd_same, List.map_append]
        rfl
    rintro G7 ⟨e7, S7, _, ws, hlen, hw, hd⟩
    have W : Words G7 D ws := ⟨hd, hlen, hw⟩
    refine ⟨_, rfl, _, rfl, way, D, ws, rfl, hw9, W, fun q1 p0 G8 hq1 hp0 f8 hq8 l8 => ?_⟩
    refine ⟨q1, _, rfl, SqL.of hq8, rfl, _, _, rfl, _, _, rfl, rfl, ?_⟩
    refine ⟨_, rfl, _, rfl, _, rfl, way, D, ws, rfl, hw9, W.ex f8, fun q2 a0 c0 G9 hq2 ha0 hc0 f9 hq9 R0 => ?_⟩
    refine ⟨q2, _, rfl, SqL.of hq9, rfl, _, _, rfl, _, _, rfl, rfl, ?_⟩
    refine ⟨_, rfl, _, rfl, ?_⟩
    refine iteF ?_
    have e9 := (e7.trans f8).trans f9
    have l9 := f9 _ _ l8
    refine ⟨_, rfl, rfl, fun a1 dx ha1 hdx ndx => ?_⟩
    refine ⟨a1, dx, _, _, _, _, _, rfl, (by decide), upd_same, fun _ c1 G10 hcc ncc old R1 => ⟨rfl, ?_⟩, fun i hi => by rw [goodz.1] at hi; cases hi⟩
    have f10 := old_ex (A := A) ha1 hdx old
    have hc1 : G9 c1 = none := (upd_none (upd_none hcc).2).2
    rw [goodz.2] at R1
    refine ⟨(by show 2 ≤ sizeLine; decide), fun h hh => ?_⟩
    refine ⟨_, rfl, (by show 5 ≤ sizeLine; decide), fun p1 hp1 => ⟨(by show 2 ≤ sizeLine; decide), fun r hr => ?_⟩⟩
    have x1 := Ex.new (o := .lst [.ref a0, .ref a1]) hh
    have x2 := Ex.new (o := .lst (nI zero5)) hp1
    have x3 := Ex.new (o := .lst [.ref p0, .ref p1]) hr
    have x23 := x2.trans x3
    have x123 := x1.trans x23
    have eA := ((e9.trans f10).trans x123)
    have hh0 : H h = none := back_none (e9.trans f10) hh
    have hp10 : H p1 = none := back_none ((e9.trans f10).trans x1) hp1
    have hr0 : H r = none := back_none (((e9.trans f10).trans x1).trans x2) hr
    have t0 : Two A _ h r a0 a1 c0 c1 p0 p1 (dueL way ws) zero5 := {
      hh := x23 _ _ upd_same
      hr := upd_same
      r0 := (R0.ex f10).ex x123
      r1 := R1.ex x123
      l0 := x123 _ _ (f10 _ _ l9)
      l1 := x3 _ _ upd_same
      nc := fun z => by
        have kc := R0.kc
        obtain ⟨o, ho, _⟩ := kc
        rw [z, hc1] at ho
        cases ho
      np := ne_of_none (x1 _ _ (f10 _ _ l9)) hp1 }
    have an : ∀ x ∈ [h, r, c0, c1, p0, p1], H x = none := fun x hx => by
      simp only [List.mem_cons, List.not_mem_nil, or_false] at hx
      rcases hx with rfl | rfl | rfl | rfl | rfl | rfl
      · exact hh0
      · exact hr0
      · exact back_none (e7.trans f8) hc0
      · exact back_none e9 hc1
      · exact back_none e7 hp0
      · exact hp10
    have A0 : Anew A H _ h r := ⟨a0, a1, c0, c1, p0, p1, _, _, t0, an⟩
    generalize upd (upd (upd G10 h _) p1 _) r _ = GA at eA A0 ⊢
    generalize decide (V.int d1 = V.int 0) = cl
    generalize decide (V.int d2 = V.int 0) = ev
    generalize badV (dueB way ws) = bv
    have done : ∀ G G', Ex H G → Anew A H G h r → Ex G G' → Ex H G' ∧ Anew A H G' h r := fun G G' e A0 f => by
      obtain ⟨a0, a1, c0, c1, p0, p1, b0, b1, t, z⟩ := A0
      exact ⟨e.trans f, a0, a1, c0, c1, p0, p1, b0, b1, t.ex f, z⟩
    refine ⟨fun σ G => σ = [some (.ref a), some (.ref s0), some (.int (way : Int)), some (.bl cl), some (.bl ev), some (.int (turns : Int)), some (.ref D), some bv, some (.ref p0), some (.bl true), some (.ref a0), some (.ref h), some (.ref r), none, none, none, none] ∧ Ex H G ∧ Anew A H G h r, ?_, ?_⟩
    · refine ⟨rfl, fun GB fB => ⟨_, rfl, iteF ?_⟩⟩
      obtain ⟨eB, AB⟩ := done _ _ eA A0 fB
      obtain ⟨a2, a3, c2, c3, p2, p3, b2, b3, tB, zB⟩ := id AB
      refine ⟨_, rfl, _, rfl, h, r, a2, a3, c2, c3, p2, p3, b2, b3, rfl, tB, fun GC fC => ⟨_, rfl, iteF ?_⟩⟩
      obtain ⟨eC, AC⟩ := done _ _ eB AB fC
      refine ⟨_, rfl, _, rfl, ?_⟩
      refine ite_b (fun _ => ?_) (fun _ => ?_)
      · refine ⟨rfl, fun GD fD => ⟨_, rfl, iteF ?_⟩⟩
        obtain ⟨eD, AD⟩ := done _ _ eC AC fD
        exact ⟨rfl, eD, AD⟩
      · refine iteF ?_
        exact ⟨rfl, eC, AC⟩
    rintro σ G ⟨rfl, eG, AG⟩
    refine ⟨_, rfl, _, rfl, by omega, by omega, for_range (lo := 0) (n := turns) (fun i σ G => ∃ v13 v14 v15 : Option V, σ = [some (.ref a), some (.ref s0), some (.int (way : Int)), some (.bl cl), some (.bl ev), some (.int (turns : Int)), some (.ref D), some bv, some (.ref p0), some (.bl true), some (.ref a0), some (.ref h), some (.ref r), v13, v14, v15, none] ∧ Ex H G ∧ Anew A H G h r) ⟨none, none, none, rfl, eG, AG⟩ ?_ ?_⟩
    · rintro i σ G hi ⟨v13, v14, v15, rfl, e, An⟩
      have eq1 : (1 : Int) + (0 + (i : Int)) = ((1 + i : Nat) : Int) := by omega
      refine ⟨_, rfl, _, rfl, _, _, rfl, rfl, a, ns, 1 + i, congrArg (fun z : Int => [V.ref a, V.int z]) eq1, by omega, sqL_ex e hs, fun s1 GB hs1 fB SB => ?_⟩
      obtain ⟨eB, AB⟩ := done _ _ e An fB
      have hs10 : H s1 = none := back_none e hs1
      refine ⟨_, rfl, s1, 3, rfl, by decide, by decide, SB, fun d3 GC _ _ SC MC => ?_⟩
      have eC := Mut.ex_of eB hs10 MC
      obtain ⟨a2, a3, c2, c3, p2, p3, b2, b3, tB, zB⟩ := AB
      have tC := tB.mut SB MC
      refine ⟨_, _, rfl, rfl, ?_⟩
      refine ⟨_, rfl, _, rfl, _, rfl, s1, h, r, a2, a3, c2, c3, p2, p3, b2, b3, rfl, SC, tC, fun a4 a5 c4 c5 p4 p5 b4 b5 GD BD tD nD => ⟨_, rfl, iteF ?_⟩⟩
      have eD : Ex H GD := But.ex_of eC (fun x hx => by
        rcases List.mem_cons.mp hx with rfl | hx
        · exact hs10
        · exact zB x hx) BD
      have zD : ∀ x ∈ [h, r, c4, c5, p4, p5], H x = none := fun x hx => by
        rcases List.mem_cons.mp hx with rfl | hx
        · exact zB _ (by simp)
        rcases List.mem_cons.mp hx with rfl | hx
        · exact zB _ (by simp)
        rcases nD x hx with z | z
        · exact back_none eC z
        · exact zB x (List.mem_cons_of_mem _ (List.mem_cons_of_mem _ z))
      have AD : Anew A H GD h r := ⟨a4, a5, c4, c5, p4, p5, b4, b5, tD, zD⟩
      refine ⟨_, rfl, _, rfl, ?_⟩
      refine ite_b (fun _ => ?_) (fun _ => ?_)
      · refine ⟨_, rfl, _, rfl, h, r, a4, a5, c4, c5, p4, p5, b4, b5, rfl, tD, fun GE fE => ⟨_, rfl, iteF ?_⟩⟩
        obtain ⟨eE, AE⟩ := done _ _ eD AD fE
        exact ⟨_, _, _, rfl, eE, AE⟩
      · refine iteF ?_
        exact ⟨_, _, _, rfl, eD, AD⟩
    · rintro σ G ⟨v13, v14, v15, rfl, e, An⟩
      obtain ⟨a2, a3, c2, c3, p2, p3, b2, b3, tB, zB⟩ := An
      exact ⟨_, rfl, _, rfl, h, r, a2, a3, c2, c3, p2, p3, b2, b3, rfl, tB, fun GE fE => k GE⟩

end
end Pv
namespace Pv
open PySem L2 Evl
theorem all_mk {l : PySem.W.OpenLaw} {w : World} {K : PySem.W.Frag} {h : Heap} {mg : Str → Option Value} {fa f_m_init kd_in f_m_hook f_m_relay f_m_clamp f_m_trail f_m_wheel f_m_number f_m_change f_m_choice f_m_copy f_m_numbered f_m_eq f_m_repr f_law_integer f_law_cell f_law_stream f_law_draw f_law_names f_law_choices f_law_good f_law_pick_name f_law_pick_word f_law_called f_law_due f_law_made f_law_changed f_law_chosen f_law_numbered f_law_value f_law_kept f_law_both f_law_constants f_law_round f_law_every f_law c_WORDS wk0 wk1 wk2 wk3 wk4 c_MendError N_MendError_ c_InvalidNumber N_InvalidNumber_ i_InvalidNumber c_InvalidRules N_InvalidRules_ i_InvalidRules c_Rules c_NAMES p_hook p_relay p_clamp p_trail p_wheel p_number p_numbered : Addr}
    {od_m_init an_m_init od_m_hook an_m_hook od_m_relay an_m_relay od_m_clamp an_m_clamp od_m_trail an_m_trail od_m_wheel an_m_wheel od_m_number an_m_number od_m_change an_m_change od_m_choice an_m_choice od_m_copy an_m_copy od_m_numbered an_m_numbered od_m_eq an_m_eq od_m_repr an_m_repr od_law_integer an_law_integer od_law_cell an_law_cell od_law_stream an_law_stream od_law_draw an_law_draw od_law_names an_law_names od_law_choices an_law_choices od_law_good an_law_good od_law_pick_name an_law_pick_name od_law_pick_word an_law_pick_word od_law_called an_law_called od_law_due an_law_due od_law_made an_law_made od_law_changed an_law_changed od_law_chosen an_law_chosen od_law_numbered an_law_numbered od_law_value an_law_value od_law_kept an_law_kept od_law_both an_law_both od_law_constants an_law_constants od_law_round an_law_round od_law_every an_law_every od_law an_law wod0 wod1 wod2 wod3 wod4 dd_MendError dd_InvalidNumber od_i_InvalidNumber an_i_InvalidNumber dd_InvalidRules od_i_InvalidRules an_i_InvalidRules odNM : Option Addr}
    {sl_m_init sl_m_hook sl_m_relay sl_m_clamp sl_m_trail sl_m_wheel sl_m_number sl_m_change sl_m_choice sl_m_copy sl_m_numbered sl_m_eq sl_m_repr sl_law_integer sl_law_cell sl_law_stream sl_law_draw sl_law_names sl_law_choices sl_law_good sl_law_pick_name sl_law_pick_word sl_law_called sl_law_due sl_law_made sl_law_changed sl_law_chosen sl_law_numbered sl_law_value sl_law_kept sl_law_both sl_law_constants sl_law_round sl_law_every sl_law wsl0 wsl1 wsl2 wsl3 wsl4 sl_i_InvalidNumber sl_i_InvalidRules slNM : Array (Option Value)}
    {oc_m_init doc_m_init pm_m_init cd_m_init ct_m_init oc_m_hook doc_m_hook pm_m_hook cd_m_hook ct_m_hook kV_m_hook oc_m_relay doc_m_relay pm_m_relay cd_m_relay ct_m_relay kV_m_relay oc_m_clamp doc_m_clamp pm_m_clamp cd_m_clamp ct_m_clamp kV_m_clamp oc_m_trail doc_m_trail pm_m_trail cd_m_trail ct_m_trail kV_m_trail oc_m_wheel doc_m_wheel pm_m_wheel cd_m_wheel ct_m_wheel kV_m_wheel oc_m_number doc_m_number pm_m_number cd_m_number ct_m_number kV_m_number oc_m_change doc_m_change pm_m_change cd_m_change ct_m_change kV_m_change oc_m_choice doc_m_choice pm_m_choice cd_m_choice ct_m_choice kV_m_choice oc_m_copy doc_m_copy pm_m_copy cd_m_copy ct_m_copy kV_m_copy oc_m_numbered doc_m_numbered pm_m_numbered cd_m_numbered ct_m_numbered kV_m_numbered oc_m_eq doc_m_eq pm_m_eq cd_m_eq ct_m_eq kV_m_eq oc_m_repr doc_m_repr pm_m_repr cd_m_repr ct_m_repr kV_m_repr oc_law_integer doc_law_integer pm_law_integer cd_law_integer ct_law_integer kV_law_integer oc_law_cell doc_law_cell pm_law_cell cd_law_cell ct_law_cell kV_law_cell oc_law_stream doc_law_stream pm_law_stream cd_law_stream ct_law_stream kV_law_stream oc_law_draw doc_law_draw pm_law_draw cd_law_draw ct_law_draw kV_law_draw oc_law_names doc_law_names pm_law_names cd_law_names ct_law_names kV_law_names oc_law_choices doc_law_choices pm_law_choices cd_law_choices ct_law_choices kV_law_choices oc_law_good doc_law_good pm_law_good cd_law_good ct_law_good kV_law_good oc_law_pick_name doc_law_pick_name pm_law_pick_name cd_law_pick_name ct_law_pick_name kV_law_pick_name oc_law_pick_word doc_law_pick_word pm_law_pick_word cd_law_pick_word ct_law_pick_word kV_law_pick_word oc_law_called doc_law_called pm_law_called cd_law_called ct_law_called kV_law_called oc_law_due doc_law_due pm_law_due cd_law_due ct_law_due kV_law_due oc_law_made doc_law_made pm_law_made cd_law_made ct_law_made kV_law_made oc_law_changed doc_law_changed pm_law_changed cd_law_changed ct_law_changed kV_law_changed oc_law_chosen doc_law_chosen pm_law_chosen cd_law_chosen ct_law_chosen kV_law_chosen oc_law_numbered doc_law_numbered pm_law_numbered cd_law_numbered ct_law_numbered kV_law_numbered oc_law_value doc_law_value pm_law_value cd_law_value ct_law_value kV_law_value oc_law_kept doc_law_kept pm_law_kept cd_law_kept ct_law_kept kV_law_kept oc_law_both doc_law_both pm_law_both cd_law_both ct_law_both kV_law_both oc_law_constants doc_law_constants pm_law_constants cd_law_constants ct_law_constants kV_law_constants oc_law_round doc_law_round pm_law_round cd_law_round ct_law_round kV_law_round oc_law_every doc_law_every pm_law_every cd_law_every ct_law_every kV_law_every oc_law doc_law pm_law cd_law ct_law kV_law oc_i_InvalidNumber kV_i_InvalidNumber doc_i_InvalidNumber pm_i_InvalidNumber cd_i_InvalidNumber ct_i_InvalidNumber oc_i_InvalidRules kV_i_InvalidRules doc_i_InvalidRules pm_i_InvalidRules cd_i_InvalidRules ct_i_InvalidRules : Value}
    {dt0 dt1 dt2 dt3 dt4 wt0 wt1 wt2 wt3 wt4 wx0 wx1 wx2 wx3 wx4 wy0 wy1 wy2 wy3 wy4 ct32 nt0 nt1 nt2 nt3 nt4 : Tok}
    {wep wn0 wn1 wn2 wn3 wn4 nNM : Nat}
    {nm_MendError q_MendError nm_InvalidNumber q_InvalidNumber nm_InvalidRules q_InvalidRules : Str}
    {bs_MendError sub_MendError bm_MendError bs_InvalidNumber sub_InvalidNumber bs_InvalidRules sub_InvalidRules rr_hook rr_relay rr_clamp rr_trail rr_wheel rr_number rr_numbered : List Value}
    {sn_MendError sn_InvalidNumber sn_InvalidRules : List Str}
    {ab_MendError ab_InvalidNumber ab_InvalidRules : Bool}
    {col_MendError col_InvalidNumber col_InvalidRules : Option Bool}
    {k0_MendError k1_MendError k2_MendError k3_MendError k5_MendError k0_InvalidNumber k1_InvalidNumber k2_InvalidNumber k3_InvalidNumber k5_InvalidNumber k0_InvalidRules k1_InvalidRules k2_InvalidRules k3_InvalidRules k5_InvalidRules : Option Value}
    (X : K.In h) (G : h.Ns mainGlobals mg) (hfa : mg "law" = some (.ref fa))
    (a_Rules : PySem.W.nsIn K mainGlobals "Rules" = some (some (.ref c_Rules)))
    (rm2 : PySem.W.findIn K (.ref c_Rules) "__init__" = some (some (.ref f_m_init)))
    (me_change : PySem.W.findIn K (.ref c_Rules) "change" = some (some (.ref f_m_change)))
    (me_choice : PySem.W.findIn K (.ref c_Rules) "choice" = some (some (.ref f_m_choice)))
    (me_copy : PySem.W.findIn K (.ref c_Rules) "copy" = some (some (.ref f_m_copy)))
    (pa_hook : PySem.W.findIn K (.ref c_Rules) "hook" = some (some (.ref p_hook)))
    (pd_hook : PySem.W.recIn K p_hook "property" = some (.ref f_m_hook :: rr_hook))
    (pa_relay : PySem.W.findIn K (.ref c_Rules) "relay" = some (some (.ref p_relay)))
    (pd_relay : PySem.W.recIn K p_relay "property" = some (.ref f_m_relay :: rr_relay))
    (pa_clamp : PySem.W.findIn K (.ref c_Rules) "clamp" = some (some (.ref p_clamp)))
    (pd_clamp : PySem.W.recIn K p_clamp "property" = some (.ref f_m_clamp :: rr_clamp))
    (pa_trail : PySem.W.findIn K (.ref c_Rules) "trail" = some (some (.ref p_trail)))
    (pd_trail : PySem.W.recIn K p_trail "property" = some (.ref f_m_trail :: rr_trail))
    (pa_wheel : PySem.W.findIn K (.ref c_Rules) "wheel" = some (some (.ref p_wheel)))
    (pd_wheel : PySem.W.recIn K p_wheel "property" = some (.ref f_m_wheel :: rr_wheel))
    (pa_number : PySem.W.findIn K (.ref c_Rules) "number" = some (some (.ref p_number)))
    (pd_number : PySem.W.recIn K p_number "property" = some (.ref f_m_number :: rr_number))
    (u1 : PySem.W.findCls K (.ref c_Rules) (.type "type") "numbered" = some (.get (.builtin "classmethod.__get__") (.ref p_numbered) .none (.ref c_Rules)))
    (u2 : PySem.W.recIn K p_numbered "classmethod" = some (.ref f_m_numbered :: rr_numbered))
    (o1 : PySem.W.findIn K (.ref c_Rules) "__eq__" = some (some (.ref f_m_eq)))
    (o4 : PySem.W.findIn K (.ref c_Rules) "__repr__" = some (some (.ref f_m_repr)))
    (l_m_init : K.lookup f_m_init = some ⟨oc_m_init, od_m_init, .func (PySem.W.fnOf "__init__" "Rules.__init__" (defArgs s_m_init) (defBody s_m_init) (defScope s_m_init) .none (.ref kd_in) doc_m_init pm_m_init an_m_init cd_m_init ct_m_init), sl_m_init⟩)
    (cd_is_m_init : PySem.W.codeIn K cd_m_init "Rules.__init__" = true)
    (k_m_init : PySem.W.keepIn K (.ref f_m_init) = true)
    (kd_hook : PySem.W.nsIn K kd_in "hook" = some (some (.str "back" dt0)))
    (kd_relay : PySem.W.nsIn K kd_in "relay" = some (some (.str "near" dt1)))
    (kd_clamp : PySem.W.nsIn K kd_in "clamp" = some (some (.str "inner" dt2)))
    (kd_trail : PySem.W.nsIn K kd_in "trail" = some (some (.str "near" dt3)))
    (kd_wheel : PySem.W.nsIn K kd_in "wheel" = some (some (.str "even" dt4)))
    (l_m_hook : K.lookup f_m_hook = some ⟨oc_m_hook, od_m_hook, .func (PySem.W.fnOf "hook" "Rules.hook" (defArgs s_m_hook) (defBody s_m_hook) (defScope s_m_hook) .none kV_m_hook doc_m_hook pm_m_hook an_m_hook cd_m_hook ct_m_hook), sl_m_hook⟩)
    (cd_is_m_hook : PySem.W.codeIn K cd_m_hook "Rules.hook" = true)
    (k_m_hook : PySem.W.keepIn K (.ref f_m_hook) = true)
    (l_m_relay : K.lookup f_m_relay = some ⟨oc_m_relay, od_m_relay, .func (PySem.W.fnOf "relay" "Rules.relay" (defArgs s_m_relay) (defBody s_m_relay) (defScope s_m_relay) .none kV_m_relay doc_m_relay pm_m_relay an_m_relay cd_m_relay ct_m_relay), sl_m_relay⟩)
    (cd_is_m_relay : PySem.W.codeIn K cd_m_relay "Rules.relay" = true)
    (k_m_relay : PySem.W.keepIn K (.ref f_m_relay) = true)
    (l_m_clamp : K.lookup f_m_clamp = some ⟨oc_m_clamp, od_m_clamp, .func (PySem.W.fnOf "clamp" "Rules.clamp" (defArgs s_m_clamp) (defBody s_m_clamp) (defScope s_m_clamp) .none kV_m_clamp doc_m_clamp pm_m_clamp an_m_clamp cd_m_clamp ct_m_clamp), sl_m_clamp⟩)
    (cd_is_m_clamp : PySem.W.codeIn K cd_m_clamp "Rules.clamp" = true)
    (k_m_clamp : PySem.W.keepIn K (.ref f_m_clamp) = true)
    (l_m_trail : K.lookup f_m_trail = some ⟨oc_m_trail, od_m_trail, .func (PySem.W.fnOf "trail" "Rules.trail" (defArgs s_m_trail) (defBody s_m_trail) (defScope s_m_trail) .none kV_m_trail doc_m_trail pm_m_trail an_m_trail cd_m_trail ct_m_trail), sl_m_trail⟩)
    (cd_is_m_trail : PySem.W.codeIn K cd_m_trail "Rules.trail" = true)
    (k_m_trail : PySem.W.keepIn K (.ref f_m_trail) = true)
    (l_m_wheel : K.lookup f_m_wheel = some ⟨oc_m_wheel, od_m_wheel, .func (PySem.W.fnOf "wheel" "Rules.wheel" (defArgs s_m_wheel) (defBody s_m_wheel) (defScope s_m_wheel) .none kV_m_wheel doc_m_wheel pm_m_wheel an_m_wheel cd_m_wheel ct_m_wheel), sl_m_wheel⟩)
    (cd_is_m_wheel : PySem.W.codeIn K cd_m_wheel "Rules.wheel" = true)
    (k_m_wheel : PySem.W.keepIn K (.ref f_m_wheel) = true)
    (l_m_number : K.lookup f_m_number = some ⟨oc_m_number, od_m_number, .func (PySem.W.fnOf "number" "Rules.number" (defArgs s_m_number) (defBody s_m_number) (defScope s_m_number) .none kV_m_number doc_m_number pm_m_number an_m_number cd_m_number ct_m_number), sl_m_number⟩)
    (cd_is_m_number : PySem.W.codeIn K cd_m_number "Rules.number" = true)
    (k_m_number : PySem.W.keepIn K (.ref f_m_number) = true)
    (l_m_change : K.lookup f_m_change = some ⟨oc_m_change, od_m_change, .func (PySem.W.fnOf "change" "Rules.change" (defArgs s_m_change) (defBody s_m_change) (defScope s_m_change) .none kV_m_change doc_m_change pm_m_change an_m_change cd_m_change ct_m_change), sl_m_change⟩)
    (cd_is_m_change : PySem.W.codeIn K cd_m_change "Rules.change" = true)
    (k_m_change : PySem.W.keepIn K (.ref f_m_change) = true)
    (l_m_choice : K.lookup f_m_choice = some ⟨oc_m_choice, od_m_choice, .func (PySem.W.fnOf "choice" "Rules.choice" (defArgs s_m_choice) (defBody s_m_choice) (defScope s_m_choice) .none kV_m_choice doc_m_choice pm_m_choice an_m_choice cd_m_choice ct_m_choice), sl_m_choice⟩)
    (cd_is_m_choice : PySem.W.codeIn K cd_m_choice "Rules.choice" = true)
    (k_m_choice : PySem.W.keepIn K (.ref f_m_choice) = true)
    (l_m_copy : K.lookup f_m_copy = some ⟨oc_m_copy, od_m_copy, .func (PySem.W.fnOf "copy" "Rules.copy" (defArgs s_m_copy) (defBody s_m_copy) (defScope s_m_copy) .none kV_m_copy doc_m_copy pm_m_copy an_m_copy cd_m_copy ct_m_copy), sl_m_copy⟩)
    (cd_is_m_copy : PySem.W.codeIn K cd_m_copy "Rules.copy" = true)
    (k_m_copy : PySem.W.keepIn K (.ref f_m_copy) = true)
    (l_m_numbered : K.lookup f_m_numbered = some ⟨oc_m_numbered, od_m_numbered, .func (PySem.W.fnOf "numbered" "Rules.numbered" (defArgs s_m_numbered) (defBody s_m_numbered) (defScope s_m_numbered) .none kV_m_numbered doc_m_numbered pm_m_numbered an_m_numbered cd_m_numbered ct_m_numbered), sl_m_numbered⟩)
    (cd_is_m_numbered : PySem.W.codeIn K cd_m_numbered "Rules.numbered" = true)
    (k_m_numbered : PySem.W.keepIn K (.ref f_m_numbered) = true)
    (l_m_eq : K.lookup f_m_eq = some ⟨oc_m_eq, od_m_eq, .func (PySem.W.fnOf "__eq__" "Rules.__eq__" (defArgs s_m_eq) (defBody s_m_eq) (defScope s_m_eq) .none kV_m_eq doc_m_eq pm_m_eq an_m_eq cd_m_eq ct_m_eq), sl_m_eq⟩)
    (cd_is_m_eq : PySem.W.codeIn K cd_m_eq "Rules.__eq__" = true)
    (k_m_eq : PySem.W.keepIn K (.ref f_m_eq) = true)
    (l_m_repr : K.lookup f_m_repr = some ⟨oc_m_repr, od_m_repr, .func (PySem.W.fnOf "__repr__" "Rules.__repr__" (defArgs s_m_repr) (defBody s_m_repr) (defScope s_m_repr) .none kV_m_repr doc_m_repr pm_m_repr an_m_repr cd_m_repr ct_m_repr), sl_m_repr⟩)
    (cd_is_m_repr : PySem.W.codeIn K cd_m_repr "Rules.__repr__" = true)
    (k_m_repr : PySem.W.keepIn K (.ref f_m_repr) = true)
    (a_law_integer : PySem.W.nsIn K mainGlobals "_law_integer" = some (some (.ref f_law_integer)))
    (l_law_integer : K.lookup f_law_integer = some ⟨oc_law_integer, od_law_integer, .func (PySem.W.fnOf "_law_integer" "_law_integer" (defArgs s_law_integer) (defBody s_law_integer) (defScope s_law_integer) .none kV_law_integer doc_law_integer pm_law_integer an_law_integer cd_law_integer ct_law_integer), sl_law_integer⟩)
    (cd_is_law_integer : PySem.W.codeIn K cd_law_integer "_law_integer" = true)
    (k_law_integer : PySem.W.keepIn K (.ref f_law_integer) = true)
    (a_law_cell : PySem.W.nsIn K mainGlobals "_law_cell" = some (some (.ref f_law_cell)))
    (l_law_cell : K.lookup f_law_cell = some ⟨oc_law_cell, od_law_cell, .func (PySem.W.fnOf "_law_cell" "_law_cell" (defArgs s_law_cell) (defBody s_law_cell) (defScope s_law_cell) .none kV_law_cell doc_law_cell pm_law_cell an_law_cell cd_law_cell ct_law_cell), sl_law_cell⟩)
    (cd_is_law_cell : PySem.W.codeIn K cd_law_cell "_law_cell" = true)
    (k_law_cell : PySem.W.keepIn K (.ref f_law_cell) = true)
    (a_law_stream : PySem.W.nsIn K mainGlobals "_law_stream" = some (some (.ref f_law_stream)))
    (l_law_stream : K.lookup f_law_stream = some ⟨oc_law_stream, od_law_stream, .func (PySem.W.fnOf "_law_stream" "_law_stream" (defArgs s_law_stream) (defBody s_law_stream) (defScope s_law_stream) .none kV_law_stream doc_law_stream pm_law_stream an_law_stream cd_law_stream ct_law_stream), sl_law_stream⟩)
    (cd_is_law_stream : PySem.W.codeIn K cd_law_stream "_law_stream" = true)
    (k_law_stream : PySem.W.keepIn K (.ref f_law_stream) = true)
    (a_law_draw : PySem.W.nsIn K mainGlobals "_law_draw" = some (some (.ref f_law_draw)))
    (l_law_draw : K.lookup f_law_draw = some ⟨oc_law_draw, od_law_draw, .func (PySem.W.fnOf "_law_draw" "_law_draw" (defArgs s_law_draw) (defBody s_law_draw) (defScope s_law_draw) .none kV_law_draw doc_law_draw pm_law_draw an_law_draw cd_law_draw ct_law_draw), sl_law_draw⟩)
    (cd_is_law_draw : PySem.W.codeIn K cd_law_draw "_law_draw" = true)
    (k_law_draw : PySem.W.keepIn K (.ref f_law_draw) = true)
    (a_law_names : PySem.W.nsIn K mainGlobals "_law_names" = some (some (.ref f_law_names)))
    (l_law_names : K.lookup f_law_names = some ⟨oc_law_names, od_law_names, .func (PySem.W.fnOf "_law_names" "_law_names" (defArgs s_law_names) (defBody s_law_names) (defScope s_law_names) .none kV_law_names doc_law_names pm_law_names an_law_names cd_law_names ct_law_names), sl_law_names⟩)
    (cd_is_law_names : PySem.W.codeIn K cd_law_names "_law_names" = true)
    (k_law_names : PySem.W.keepIn K (.ref f_law_names) = true)
    (a_law_choices : PySem.W.nsIn K mainGlobals "_law_choices" = some (some (.ref f_law_choices)))
    (l_law_choices : K.lookup f_law_choices = some ⟨oc_law_choices, od_law_choices, .func (PySem.W.fnOf "_law_choices" "_law_choices" (defArgs s_law_choices) (defBody s_law_choices) (defScope s_law_choices) .none kV_law_choices doc_law_choices pm_law_choices an_law_choices cd_law_choices ct_law_choices), sl_law_choices⟩)
    (cd_is_law_choices : PySem.W.codeIn K cd_law_choices "_law_choices" = true)
    (k_law_choices : PySem.W.keepIn K (.ref f_law_choices) = true)
    (a_law_good : PySem.W.nsIn K mainGlobals "_law_good" = some (some (.ref f_law_good)))
    (l_law_good : K.lookup f_law_good = some ⟨oc_law_good, od_law_good, .func (PySem.W.fnOf "_law_good" "_law_good" (defArgs s_law_good) (defBody s_law_good) (defScope s_law_good) .none kV_law_good doc_law_good pm_law_good an_law_good cd_law_good ct_law_good), sl_law_good⟩)
    (cd_is_law_good : PySem.W.codeIn K cd_law_good "_law_good" = true)
    (k_law_good : PySem.W.keepIn K (.ref f_law_good) = true)
    (a_law_pick_name : PySem.W.nsIn K mainGlobals "_law_pick_name" = some (some (.ref f_law_pick_name)))
    (l_law_pick_name : K.lookup f_law_pick_name = some ⟨oc_law_pick_name, od_law_pick_name, .func (PySem.W.fnOf "_law_pick_name" "_law_pick_name" (defArgs s_law_pick_name) (defBody s_law_pick_name) (defScope s_law_pick_name) .none kV_law_pick_name doc_law_pick_name pm_law_pick_name an_law_pick_name cd_law_pick_name ct_law_pick_name), sl_law_pick_name⟩)
    (cd_is_law_pick_name : PySem.W.codeIn K cd_law_pick_name "_law_pick_name" = true)
    (k_law_pick_name : PySem.W.keepIn K (.ref f_law_pick_name) = true)
    (a_law_pick_word : PySem.W.nsIn K mainGlobals "_law_pick_word" = some (some (.ref f_law_pick_word)))
    (l_law_pick_word : K.lookup f_law_pick_word = some ⟨oc_law_pick_word, od_law_pick_word, .func (PySem.W.fnOf "_law_pick_word" "_law_pick_word" (defArgs s_law_pick_word) (defBody s_law_pick_word) (defScope s_law_pick_word) .none kV_law_pick_word doc_law_pick_word pm_law_pick_word an_law_pick_word cd_law_pick_word ct_law_pick_word), sl_law_pick_word⟩)
    (cd_is_law_pick_word : PySem.W.codeIn K cd_law_pick_word "_law_pick_word" = true)
    (k_law_pick_word : PySem.W.keepIn K (.ref f_law_pick_word) = true)
    (a_law_called : PySem.W.nsIn K mainGlobals "_law_called" = some (some (.ref f_law_called)))
    (l_law_called : K.lookup f_law_called = some ⟨oc_law_called, od_law_called, .func (PySem.W.fnOf "_law_called" "_law_called" (defArgs s_law_called) (defBody s_law_called) (defScope s_law_called) .none kV_law_called doc_law_called pm_law_called an_law_called cd_law_called ct_law_called), sl_law_called⟩)
    (cd_is_law_called : PySem.W.codeIn K cd_law_called "_law_called" = true)
    (k_law_called : PySem.W.keepIn K (.ref f_law_called) = true)
    (a_law_due : PySem.W.nsIn K mainGlobals "_law_due" = some (some (.ref f_law_due)))
    (l_law_due : K.lookup f_law_due = some ⟨oc_law_due, od_law_due, .func (PySem.W.fnOf "_law_due" "_law_due" (defArgs s_law_due) (defBody s_law_due) (defScope s_law_due) .none kV_law_due doc_law_due pm_law_due an_law_due cd_law_due ct_law_due), sl_law_due⟩)
    (cd_is_law_due : PySem.W.codeIn K cd_law_due "_law_due" = true)
    (k_law_due : PySem.W.keepIn K (.ref f_law_due) = true)
    (a_law_made : PySem.W.nsIn K mainGlobals "_law_made" = some (some (.ref f_law_made)))
    (l_law_made : K.lookup f_law_made = some ⟨oc_law_made, od_law_made, .func (PySem.W.fnOf "_law_made" "_law_made" (defArgs s_law_made) (defBody s_law_made) (defScope s_law_made) .none kV_law_made doc_law_made pm_law_made an_law_made cd_law_made ct_law_made), sl_law_made⟩)
    (cd_is_law_made : PySem.W.codeIn K cd_law_made "_law_made" = true)
    (k_law_made : PySem.W.keepIn K (.ref f_law_made) = true)
    (a_law_changed : PySem.W.nsIn K mainGlobals "_law_changed" = some (some (.ref f_law_changed)))
    (l_law_changed : K.lookup f_law_changed = some ⟨oc_law_changed, od_law_changed, .func (PySem.W.fnOf "_law_changed" "_law_changed" (defArgs s_law_changed) (defBody s_law_changed) (defScope s_law_changed) .none kV_law_changed doc_law_changed pm_law_changed an_law_changed cd_law_changed ct_law_changed), sl_law_changed⟩)
    (cd_is_law_changed : PySem.W.codeIn K cd_law_changed "_law_changed" = true)
    (k_law_changed : PySem.W.keepIn K (.ref f_law_changed) = true)
    (a_law_chosen : PySem.W.nsIn K mainGlobals "_law_chosen" = some (some (.ref f_law_chosen)))
    (l_law_chosen : K.lookup f_law_chosen = some ⟨oc_law_chosen, od_law_chosen, .func (PySem.W.fnOf "_law_chosen" "_law_chosen" (defArgs s_law_chosen) (defBody s_law_chosen) (defScope s_law_chosen) .none kV_law_chosen doc_law_chosen pm_law_chosen an_law_chosen cd_law_chosen ct_law_chosen), sl_law_chosen⟩)
    (cd_is_law_chosen : PySem.W.codeIn K cd_law_chosen "_law_chosen" = true)
    (k_law_chosen : PySem.W.keepIn K (.ref f_law_chosen) = true)
    (a_law_numbered : PySem.W.nsIn K mainGlobals "_law_numbered" = some (some (.ref f_law_numbered)))
    (l_law_numbered : K.lookup f_law_numbered = some ⟨oc_law_numbered, od_law_numbered, .func (PySem.W.fnOf "_law_numbered" "_law_numbered" (defArgs s_law_numbered) (defBody s_law_numbered) (defScope s_law_numbered) .none kV_law_numbered doc_law_numbered pm_law_numbered an_law_numbered cd_law_numbered ct_law_numbered), sl_law_numbered⟩)
    (cd_is_law_numbered : PySem.W.codeIn K cd_law_numbered "_law_numbered" = true)
    (k_law_numbered : PySem.W.keepIn K (.ref f_law_numbered) = true)
    (a_law_value : PySem.W.nsIn K mainGlobals "_law_value" = some (some (.ref f_law_value)))
    (l_law_value : K.lookup f_law_value = some ⟨oc_law_value, od_law_value, .func (PySem.W.fnOf "_law_value" "_law_value" (defArgs s_law_value) (defBody s_law_value) (defScope s_law_value) .none kV_law_value doc_law_value pm_law_value an_law_value cd_law_value ct_law_value), sl_law_value⟩)
    (cd_is_law_value : PySem.W.codeIn K cd_law_value "_law_value" = true)
    (k_law_value : PySem.W.keepIn K (.ref f_law_value) = true)
    (a_law_kept : PySem.W.nsIn K mainGlobals "_law_kept" = some (some (.ref f_law_kept)))
    (l_law_kept : K.lookup f_law_kept = some ⟨oc_law_kept, od_law_kept, .func (PySem.W.fnOf "_law_kept" "_law_kept" (defArgs s_law_kept) (defBody s_law_kept) (defScope s_law_kept) .none kV_law_kept doc_law_kept pm_law_kept an_law_kept cd_law_kept ct_law_kept), sl_law_kept⟩)
    (cd_is_law_kept : PySem.W.codeIn K cd_law_kept "_law_kept" = true)
    (k_law_kept : PySem.W.keepIn K (.ref f_law_kept) = true)
    (a_law_both : PySem.W.nsIn K mainGlobals "_law_both" = some (some (.ref f_law_both)))
    (l_law_both : K.lookup f_law_both = some ⟨oc_law_both, od_law_both, .func (PySem.W.fnOf "_law_both" "_law_both" (defArgs s_law_both) (defBody s_law_both) (defScope s_law_both) .none kV_law_both doc_law_both pm_law_both an_law_both cd_law_both ct_law_both), sl_law_both⟩)
    (cd_is_law_both : PySem.W.codeIn K cd_law_both "_law_both" = true)
    (k_law_both : PySem.W.keepIn K (.ref f_law_both) = true)
    (a_law_constants : PySem.W.nsIn K mainGlobals "_law_constants" = some (some (.ref f_law_constants)))
    (l_law_constants : K.lookup f_law_constants = some ⟨oc_law_constants, od_law_constants, .func (PySem.W.fnOf "_law_constants" "_law_constants" (defArgs s_law_constants) (defBody s_law_constants) (defScope s_law_constants) .none kV_law_constants doc_law_constants pm_law_constants an_law_constants cd_law_constants ct_law_constants), sl_law_constants⟩)
    (cd_is_law_constants : PySem.W.codeIn K cd_law_constants "_law_constants" = true)
    (k_law_constants : PySem.W.keepIn K (.ref f_law_constants) = true)
    (a_law_round : PySem.W.nsIn K mainGlobals "_law_round" = some (some (.ref f_law_round)))
    (l_law_round : K.lookup f_law_round = some ⟨oc_law_round, od_law_round, .func (PySem.W.fnOf "_law_round" "_law_round" (defArgs s_law_round) (defBody s_law_round) (defScope s_law_round) .none kV_law_round doc_law_round pm_law_round an_law_round cd_law_round ct_law_round), sl_law_round⟩)
    (cd_is_law_round : PySem.W.codeIn K cd_law_round "_law_round" = true)
    (k_law_round : PySem.W.keepIn K (.ref f_law_round) = true)
    (a_law_every : PySem.W.nsIn K mainGlobals "_law_every" = some (some (.ref f_law_every)))
    (l_law_every : K.lookup f_law_every = some ⟨oc_law_every, od_law_every, .func (PySem.W.fnOf "_law_every" "_law_every" (defArgs s_law_every) (defBody s_law_every) (defScope s_law_every) .none kV_law_every doc_law_every pm_law_every an_law_every cd_law_every ct_law_every), sl_law_every⟩)
    (cd_is_law_every : PySem.W.codeIn K cd_law_every "_law_every" = true)
    (k_law_every : PySem.W.keepIn K (.ref f_law_every) = true)
    (a_law : PySem.W.nsIn K mainGlobals "law" = some (some (.ref f_law)))
    (l_law : K.lookup f_law = some ⟨oc_law, od_law, .func (PySem.W.fnOf "law" "law" (defArgs s_law) (defBody s_law) (defScope s_law) .none kV_law doc_law pm_law an_law cd_law ct_law), sl_law⟩)
    (cd_is_law : PySem.W.codeIn K cd_law "law" = true)
    (k_law : PySem.W.keepIn K (.ref f_law) = true)
    (a_WORDS : PySem.W.nsIn K mainGlobals "_WORDS" = some (some (.ref c_WORDS)))
    (sm_WORDS : (c_WORDS == sysModules) = false)
    (l_WORDS : K.lookup c_WORDS = some ⟨.type "dict", none, .dict #[⟨PyData.keyHash w.params "hook", .str "hook" wt0, .ref wk0⟩, ⟨PyData.keyHash w.params "relay", .str "relay" wt1, .ref wk1⟩, ⟨PyData.keyHash w.params "clamp", .str "clamp" wt2, .ref wk2⟩, ⟨PyData.keyHash w.params "trail", .str "trail" wt3, .ref wk3⟩, ⟨PyData.keyHash w.params "wheel", .str "wheel" wt4, .ref wk4⟩] wep, #[]⟩)
    (l_W0 : K.lookup wk0 = some ⟨.type "tuple", wod0, .seq #[.str "back" wx0, .str "forward" wy0] wn0, wsl0⟩)
    (l_W1 : K.lookup wk1 = some ⟨.type "tuple", wod1, .seq #[.str "near" wx1, .str "far" wy1] wn1, wsl1⟩)
    (l_W2 : K.lookup wk2 = some ⟨.type "tuple", wod2, .seq #[.str "inner" wx2, .str "outer" wy2] wn2, wsl2⟩)
    (l_W3 : K.lookup wk3 = some ⟨.type "tuple", wod3, .seq #[.str "near" wx3, .str "far" wy3] wn3, wsl3⟩)
    (l_W4 : K.lookup wk4 = some ⟨.type "tuple", wod4, .seq #[.str "even" wx4, .str "odd" wy4] wn4, wsl4⟩)
    (a_MendError : PySem.W.nsIn K mainGlobals "MendError" = some (some (.ref c_MendError)))
    (x_MendError : K.lookup c_MendError = some (excClassObj nm_MendError q_MendError c_MendError N_MendError_ bs_MendError bm_MendError true sn_MendError sub_MendError ab_MendError col_MendError dd_MendError k0_MendError k1_MendError k2_MendError k3_MendError k5_MendError "ValueError.__new__"))
    (a_InvalidNumber : PySem.W.nsIn K mainGlobals "InvalidNumber" = some (some (.ref c_InvalidNumber)))
    (x_InvalidNumber : K.lookup c_InvalidNumber = some (excClassObj nm_InvalidNumber q_InvalidNumber c_InvalidNumber N_InvalidNumber_ bs_InvalidNumber [.ref c_MendError, .type "ValueError", .type "Exception", .type "BaseException", .type "object"] true sn_InvalidNumber sub_InvalidNumber ab_InvalidNumber col_InvalidNumber dd_InvalidNumber k0_InvalidNumber k1_InvalidNumber k2_InvalidNumber k3_InvalidNumber k5_InvalidNumber "ValueError.__new__"))
    (kc_InvalidNumber : PySem.W.keepIn K (.ref c_InvalidNumber) = true)
    (sa_InvalidNumber : PySem.W.findIn K (.ref c_InvalidNumber) "__setattr__" = some (some (.builtin "object.__setattr__")))
    (ga_InvalidNumber : PySem.W.findIn K (.ref c_InvalidNumber) "__getattribute__" = some (some (.builtin "BaseException.__getattribute__")))
    (gg_InvalidNumber : PySem.W.findIn K (.ref c_InvalidNumber) "__getattr__" = some none)
    (ca_InvalidNumber : PySem.W.findIn K (.ref c_InvalidNumber) "__class__" = some (some (.builtin "object.__class__")))
    (i_is_InvalidNumber : PySem.W.findIn K (.ref c_InvalidNumber) "__init__" = some (some (.ref i_InvalidNumber)))
    (t_InvalidNumber : PySem.W.typeIn K (.ref i_InvalidNumber) = some (.type "function"))
    (nf_InvalidNumber : PySem.W.findIn K (.ref c_InvalidNumber) "value" = some none)
    (l_i_InvalidNumber : K.lookup i_InvalidNumber = some ⟨oc_i_InvalidNumber, od_i_InvalidNumber, .func (PySem.W.fnOf "__init__" "InvalidNumber.__init__" (defArgs s_InvalidNumber) (defBody s_InvalidNumber) (defScope s_InvalidNumber) .none kV_i_InvalidNumber doc_i_InvalidNumber pm_i_InvalidNumber an_i_InvalidNumber cd_i_InvalidNumber ct_i_InvalidNumber), sl_i_InvalidNumber⟩)
    (cd_is_i_InvalidNumber : PySem.W.codeIn K cd_i_InvalidNumber "InvalidNumber.__init__" = true)
    (k_i_InvalidNumber : PySem.W.keepIn K (.ref i_InvalidNumber) = true)
    (a_InvalidRules : PySem.W.nsIn K mainGlobals "InvalidRules" = some (some (.ref c_InvalidRules)))
    (x_InvalidRules : K.lookup c_InvalidRules = some (excClassObj nm_InvalidRules q_InvalidRules c_InvalidRules N_InvalidRules_ bs_InvalidRules [.ref c_MendError, .type "ValueError", .type "Exception", .type "BaseException", .type "object"] true sn_InvalidRules sub_InvalidRules ab_InvalidRules col_InvalidRules dd_InvalidRules k0_InvalidRules k1_InvalidRules k2_InvalidRules k3_InvalidRules k5_InvalidRules "ValueError.__new__"))
    (kc_InvalidRules : PySem.W.keepIn K (.ref c_InvalidRules) = true)
    (sa_InvalidRules : PySem.W.findIn K (.ref c_InvalidRules) "__setattr__" = some (some (.builtin "object.__setattr__")))
    (ga_InvalidRules : PySem.W.findIn K (.ref c_InvalidRules) "__getattribute__" = some (some (.builtin "BaseException.__getattribute__")))
    (gg_InvalidRules : PySem.W.findIn K (.ref c_InvalidRules) "__getattr__" = some none)
    (ca_InvalidRules : PySem.W.findIn K (.ref c_InvalidRules) "__class__" = some (some (.builtin "object.__class__")))
    (i_is_InvalidRules : PySem.W.findIn K (.ref c_InvalidRules) "__init__" = some (some (.ref i_InvalidRules)))
    (t_InvalidRules : PySem.W.typeIn K (.ref i_InvalidRules) = some (.type "function"))
    (nf_InvalidRules : PySem.W.findIn K (.ref c_InvalidRules) "name" = some none)
    (l_i_InvalidRules : K.lookup i_InvalidRules = some ⟨oc_i_InvalidRules, od_i_InvalidRules, .func (PySem.W.fnOf "__init__" "InvalidRules.__init__" (defArgs s_InvalidRules) (defBody s_InvalidRules) (defScope s_InvalidRules) .none kV_i_InvalidRules doc_i_InvalidRules pm_i_InvalidRules an_i_InvalidRules cd_i_InvalidRules ct_i_InvalidRules), sl_i_InvalidRules⟩)
    (cd_is_i_InvalidRules : PySem.W.codeIn K cd_i_InvalidRules "InvalidRules.__init__" = true)
    (k_i_InvalidRules : PySem.W.keepIn K (.ref i_InvalidRules) = true)
    (cn : PySem.W.specialIn K (.builtin "object.__class__") "__get__" = some (some (.builtin "getset_descriptor.__get__")))
    (ct : PySem.W.takesIn K (.builtin "object.__class__") = some true)
    (nd : [c_MendError, c_InvalidNumber, c_InvalidRules].Nodup)
    (rc1 : PySem.W.plainGet K c_Rules Str.empty = true)
    (rc2 : PySem.W.hasDictIn K c_Rules = true)
    (rc3 : PySem.W.plainOver K c_Rules = true)
    (rc4 : PySem.W.findIn K (.ref c_Rules) "__setattr__" = some (some (.builtin "object.__setattr__")))
    (rm1 : PySem.W.makesIn K c_Rules = true)
    (rm3 : PySem.W.isFn K (.ref f_m_init) = true)
    (rm4 : PySem.W.keepIn K (.ref c_Rules) = true)
    (mf_change : PySem.W.isFn K (.ref f_m_change) = true)
    (mf_choice : PySem.W.isFn K (.ref f_m_choice) = true)
    (mf_copy : PySem.W.isFn K (.ref f_m_copy) = true)
    (pb_hook : PySem.W.specialIn K (.ref p_hook) "__get__" = some (some (.builtin "property.__get__")))
    (pc_hook : PySem.W.takesIn K (.ref p_hook) = some true)
    (pb_relay : PySem.W.specialIn K (.ref p_relay) "__get__" = some (some (.builtin "property.__get__")))
    (pc_relay : PySem.W.takesIn K (.ref p_relay) = some true)
    (pb_clamp : PySem.W.specialIn K (.ref p_clamp) "__get__" = some (some (.builtin "property.__get__")))
    (pc_clamp : PySem.W.takesIn K (.ref p_clamp) = some true)
    (pb_trail : PySem.W.specialIn K (.ref p_trail) "__get__" = some (some (.builtin "property.__get__")))
    (pc_trail : PySem.W.takesIn K (.ref p_trail) = some true)
    (pb_wheel : PySem.W.specialIn K (.ref p_wheel) "__get__" = some (some (.builtin "property.__get__")))
    (pc_wheel : PySem.W.takesIn K (.ref p_wheel) = some true)
    (pb_number : PySem.W.specialIn K (.ref p_number) "__get__" = some (some (.builtin "property.__get__")))
    (pc_number : PySem.W.takesIn K (.ref p_number) = some true)
    (nc_is : PySem.W.findIn K (.ref c_Rules) "_choices" = some none)
    (rq1 : PySem.W.readsIn K c_Rules (.type "type") = true)
    (rq2 : PySem.W.specialIn K (.ref c_Rules) "__getattribute__" = some (some (.builtin "type.__getattribute__")))
    (v_NAMES : PySem.W.findCls K (.ref c_Rules) (.type "type") "NAMES" = some (.val (.ref c_NAMES)))
    (l_NAMES : K.lookup c_NAMES = some ⟨.type "tuple", odNM, .seq #[.str "hook" nt0, .str "relay" nt1, .str "clamp" nt2, .str "trail" nt3, .str "wheel" nt4] nNM, slNM⟩)
    (v_COUNT : PySem.W.findCls K (.ref c_Rules) (.type "type") "COUNT" = some (.val (.int 32 ct32)))
    (u3 : PySem.W.fnIn K f_m_numbered = true)
    (o2 : PySem.W.isFn K (.ref f_m_eq) = true)
    (o3 : PySem.W.notFirst K c_Rules (.ref c_Rules) = true)
    (o5 : PySem.W.isFn K (.ref f_m_repr) = true)
    (cc_is : PySem.W.findIn K (.ref c_Rules) "__class__" = some (some (.builtin "object.__class__")))
    (co_is : PySem.W.mroIn K c_Rules (.type "object") = some true)
    (z_int : PySem.W.nsIn K mainGlobals "int" = some none)
    (z_bool : PySem.W.nsIn K mainGlobals "bool" = some none)
    (z_str : PySem.W.nsIn K mainGlobals "str" = some none)
    (z_list : PySem.W.nsIn K mainGlobals "list" = some none)
    (z_tuple : PySem.W.nsIn K mainGlobals "tuple" = some none)
    (z_len : PySem.W.nsIn K mainGlobals "len" = some none)
    (z_range : PySem.W.nsIn K mainGlobals "range" = some none)
    (z_enumerate : PySem.W.nsIn K mainGlobals "enumerate" = some none)
    (z_isinstance : PySem.W.nsIn K mainGlobals "isinstance" = some none)
    (z_sum : PySem.W.nsIn K mainGlobals "sum" = some none)
    (z_repr : PySem.W.nsIn K mainGlobals "repr" = some none)
    (z_ValueError : PySem.W.nsIn K mainGlobals "ValueError" = some none)
    : ∃ fd : FuncData, (∀ (s : Shared) (v : Value), BindsTo s fd ⟨[v], []⟩ [("script", v)]) ∧ ∀ base : Heap, K.In base → base.Ns mainGlobals mg → FnOk l.prog w K mg base CX0 9 fa fd ["script"] (spLaw K) := by
  have e := hfa.symm.trans (PySem.W.mg_of X G a_law)
  cases e
  obtain ⟨A, hA⟩ : ∃ A : Ad, A = ⟨f_m_init, f_m_hook, f_m_relay, f_m_clamp, f_m_trail, f_m_wheel, f_m_number, f_m_change, f_m_choice, f_m_copy, f_m_numbered, f_m_eq, f_m_repr, f_law_integer, f_law_cell, f_law_stream, f_law_draw, f_law_names, f_law_choices, f_law_good, f_law_pick_name, f_law_pick_word, f_law_called, f_law_due, f_law_made, f_law_changed, f_law_chosen, f_law_numbered, f_law_value, f_law_kept, f_law_both, f_law_constants, f_law_round, f_law_every, fa, c_WORDS, c_MendError, c_InvalidNumber, c_InvalidRules, i_InvalidNumber, i_InvalidRules, c_Rules, c_NAMES, p_hook, p_relay, p_clamp, p_trail, p_wheel, p_number, p_numbered⟩ := ⟨_, rfl⟩
  have T : Txt K mg A := {
    d_m_init := by rw [hA]; exact ⟨_, ⟨_, _, _, _, _, _, _, _, _, _, rfl, l_m_init, cd_is_m_init, Or.inl ⟨rfl, rfl⟩, Or.inr ⟨kd_in, rfl, fun q hq => by
      simp only [kwsR, List.mem_cons, List.not_mem_nil, or_false] at hq
      rcases hq with rfl | rfl | rfl | rfl | rfl
      · exact ⟨_, kd_hook, ⟨_, rfl⟩⟩
      · exact ⟨_, kd_relay, ⟨_, rfl⟩⟩
      · exact ⟨_, kd_clamp, ⟨_, rfl⟩⟩
      · exact ⟨_, kd_trail, ⟨_, rfl⟩⟩
      · exact ⟨_, kd_wheel, ⟨_, rfl⟩⟩⟩⟩, k_m_init⟩,
    d_m_hook := by rw [hA]; exact ⟨_, fun_mk (st := s_m_hook) l_m_hook cd_is_m_hook k_m_hook⟩,
    d_m_relay := by rw [hA]; exact ⟨_, fun_mk (st := s_m_relay) l_m_relay cd_is_m_relay k_m_relay⟩,
    d_m_clamp := by rw [hA]; exact ⟨_, fun_mk (st := s_m_clamp) l_m_clamp cd_is_m_clamp k_m_clamp⟩,
    d_m_trail := by rw [hA]; exact ⟨_, fun_mk (st := s_m_trail) l_m_trail cd_is_m_trail k_m_trail⟩,
    d_m_wheel := by rw [hA]; exact ⟨_, fun_mk (st := s_m_wheel) l_m_wheel cd_is_m_wheel k_m_wheel⟩,
    d_m_number := by rw [hA]; exact ⟨_, fun_mk (st := s_m_number) l_m_number cd_is_m_number k_m_number⟩,
    d_m_change := by rw [hA]; exact ⟨_, fun_mk (st := s_m_change) l_m_change cd_is_m_change k_m_change⟩,
    d_m_choice := by rw [hA]; exact ⟨_, fun_mk (st := s_m_choice) l_m_choice cd_is_m_choice k_m_choice⟩,
    d_m_copy := by rw [hA]; exact ⟨_, fun_mk (st := s_m_copy) l_m_copy cd_is_m_copy k_m_copy⟩,
    d_m_numbered := by rw [hA]; exact ⟨_, fun_mk (st := s_m_numbered) l_m_numbered cd_is_m_numbered k_m_numbered⟩,
    d_m_eq := by rw [hA]; exact ⟨_, fun_mk (st := s_m_eq) l_m_eq cd_is_m_eq k_m_eq⟩,
    d_m_repr := by rw [hA]; exact ⟨_, fun_mk (st := s_m_repr) l_m_repr cd_is_m_repr k_m_repr⟩,
    g_law_integer := by rw [hA]; exact PySem.W.mg_of X G a_law_integer,
    k_law_integer := by rw [hA]; exact k_law_integer,
    d_law_integer := by rw [hA]; exact ⟨_, fun_mk (st := s_law_integer) l_law_integer cd_is_law_integer k_law_integer⟩,
    g_law_cell := by rw [hA]; exact PySem.W.mg_of X G a_law_cell,
    k_law_cell := by rw [hA]; exact k_law_cell,
    d_law_cell := by rw [hA]; exact ⟨_, fun_mk (st := s_law_cell) l_law_cell cd_is_law_cell k_law_cell⟩,
    g_law_stream := by rw [hA]; exact PySem.W.mg_of X G a_law_stream,
    k_law_stream := by rw [hA]; exact k_law_stream,
    d_law_stream := by rw [hA]; exact ⟨_, fun_mk (st := s_law_stream) l_law_stream cd_is_law_stream k_law_stream⟩,
    g_law_draw := by rw [hA]; exact PySem.W.mg_of X G a_law_draw,
    k_law_draw := by rw [hA]; exact k_law_draw,
    d_law_draw := by rw [hA]; exact ⟨_, fun_mk (st := s_law_draw) l_law_draw cd_is_law_draw k_law_draw⟩,
    g_law_names := by rw [hA]; exact PySem.W.mg_of X G a_law_names,
    k_law_names := by rw [hA]; exact k_law_names,
    d_law_names := by rw [hA]; exact ⟨_, fun_mk (st := s_law_names) l_law_names cd_is_law_names k_law_names⟩,
    g_law_choices := by rw [hA]; exact PySem.W.mg_of X G a_law_choices,
    k_law_choices := by rw [hA]; exact k_law_choices,
    d_law_choices := by rw [hA]; exact ⟨_, fun_mk (st := s_law_choices) l_law_choices cd_is_law_choices k_law_choices⟩,
    g_law_good := by rw [hA]; exact PySem.W.mg_of X G a_law_good,
    k_law_good := by rw [hA]; exact k_law_good,
    d_law_good := by rw [hA]; exact ⟨_, fun_mk (st := s_law_good) l_law_good cd_is_law_good k_law_good⟩,
    g_law_pick_name := by rw [hA]; exact PySem.W.mg_of X G a_law_pick_name,
    k_law_pick_name := by rw [hA]; exact k_law_pick_name,
    d_law_pick_name := by rw [hA]; exact ⟨_, fun_mk (st := s_law_pick_name) l_law_pick_name cd_is_law_pick_name k_law_pick_name⟩,
    g_law_pick_word := by rw [hA]; exact PySem.W.mg_of X G a_law_pick_word,
    k_law_pick_word := by rw [hA]; exact k_law_pick_word,
    d_law_pick_word := by rw [hA]; exact ⟨_, fun_mk (st := s_law_pick_word) l_law_pick_word cd_is_law_pick_word k_law_pick_word⟩,
    g_law_called := by rw [hA]; exact PySem.W.mg_of X G a_law_called,
    k_law_called := by rw [hA]; exact k_law_called,
    d_law_called := by rw [hA]; exact ⟨_, fun_mk (st := s_law_called) l_law_called cd_is_law_called k_law_called⟩,
    g_law_due := by rw [hA]; exact PySem.W.mg_of X G a_law_due,
    k_law_due := by rw [hA]; exact k_law_due,
    d_law_due := by rw [hA]; exact ⟨_, fun_mk (st := s_law_due) l_law_due cd_is_law_due k_law_due⟩,
    g_law_made := by rw [hA]; exact PySem.W.mg_of X G a_law_made,
    k_law_made := by rw [hA]; exact k_law_made,
    d_law_made := by rw [hA]; exact ⟨_, fun_mk (st := s_law_made) l_law_made cd_is_law_made k_law_made⟩,
    g_law_changed := by rw [hA]; exact PySem.W.mg_of X G a_law_changed,
    k_law_changed := by rw [hA]; exact k_law_changed,
    d_law_changed := by rw [hA]; exact ⟨_, fun_mk (st := s_law_changed) l_law_changed cd_is_law_changed k_law_changed⟩,
    g_law_chosen := by rw [hA]; exact PySem.W.mg_of X G a_law_chosen,
    k_law_chosen := by rw [hA]; exact k_law_chosen,
    d_law_chosen := by rw [hA]; exact ⟨_, fun_mk (st := s_law_chosen) l_law_chosen cd_is_law_chosen k_law_chosen⟩,
    g_law_numbered := by rw [hA]; exact PySem.W.mg_of X G a_law_numbered,
    k_law_numbered := by rw [hA]; exact k_law_numbered,
    d_law_numbered := by rw [hA]; exact ⟨_, fun_mk (st := s_law_numbered) l_law_numbered cd_is_law_numbered k_law_numbered⟩,
    g_law_value := by rw [hA]; exact PySem.W.mg_of X G a_law_value,
    k_law_value := by rw [hA]; exact k_law_value,
    d_law_value := by rw [hA]; exact ⟨_, fun_mk (st := s_law_value) l_law_value cd_is_law_value k_law_value⟩,
    g_law_kept := by rw [hA]; exact PySem.W.mg_of X G a_law_kept,
    k_law_kept := by rw [hA]; exact k_law_kept,
    d_law_kept := by rw [hA]; exact ⟨_, fun_mk (st := s_law_kept) l_law_kept cd_is_law_kept k_law_kept⟩,
    g_law_both := by rw [hA]; exact PySem.W.mg_of X G a_law_both,
    k_law_both := by rw [hA]; exact k_law_both,
    d_law_both := by rw [hA]; exact ⟨_, fun_mk (st := s_law_both) l_law_both cd_is_law_both k_law_both⟩,
    g_law_constants := by rw [hA]; exact PySem.W.mg_of X G a_law_constants,
    k_law_constants := by rw [hA]; exact k_law_constants,
    d_law_constants := by rw [hA]; exact ⟨_, fun_mk (st := s_law_constants) l_law_constants cd_is_law_constants k_law_constants⟩,
    g_law_round := by rw [hA]; exact PySem.W.mg_of X G a_law_round,
    k_law_round := by rw [hA]; exact k_law_round,
    d_law_round := by rw [hA]; exact ⟨_, fun_mk (st := s_law_round) l_law_round cd_is_law_round k_law_round⟩,
    g_law_every := by rw [hA]; exact PySem.W.mg_of X G a_law_every,
    k_law_every := by rw [hA]; exact k_law_every,
    d_law_every := by rw [hA]; exact ⟨_, fun_mk (st := s_law_every) l_law_every cd_is_law_every k_law_every⟩,
    g_law := by rw [hA]; exact PySem.W.mg_of X G a_law,
    k_law := by rw [hA]; exact k_law,
    d_law := by rw [hA]; exact ⟨_, fun_mk (st := s_law) l_law cd_is_law k_law⟩,
    g_WORDS := by rw [hA]; exact PySem.W.mg_of X G a_WORDS,
    e_MendError := by rw [hA]; exact ⟨PySem.W.mg_of X G a_MendError, ⟨_, _, _, _, _, _, _, _, _, _, _, _, _, _, _, x_MendError⟩⟩,
    e_InvalidNumber := by rw [hA]; exact ⟨PySem.W.mg_of X G a_InvalidNumber, kc_InvalidNumber, ⟨_, _, _, _, _, _, _, _, _, _, _, _, _, _, x_InvalidNumber⟩, sa_InvalidNumber, ga_InvalidNumber, gg_InvalidNumber, ca_InvalidNumber⟩,
    f_InvalidNumber := by rw [hA]; exact ⟨i_is_InvalidNumber, t_InvalidNumber, nf_InvalidNumber, ⟨_, fun_mk (st := s_InvalidNumber) l_i_InvalidNumber cd_is_i_InvalidNumber k_i_InvalidNumber⟩⟩,
    e_InvalidRules := by rw [hA]; exact ⟨PySem.W.mg_of X G a_InvalidRules, kc_InvalidRules, ⟨_, _, _, _, _, _, _, _, _, _, _, _, _, _, x_InvalidRules⟩, sa_InvalidRules, ga_InvalidRules, gg_InvalidRules, ca_InvalidRules⟩,
    f_InvalidRules := by rw [hA]; exact ⟨i_is_InvalidRules, t_InvalidRules, nf_InvalidRules, ⟨_, fun_mk (st := s_InvalidRules) l_i_InvalidRules cd_is_i_InvalidRules k_i_InvalidRules⟩⟩,
    cn := cn,
    ct := ct,
    nd := by rw [hA]; exact nd,
    g_Rules := by rw [hA]; exact PySem.W.mg_of X G a_Rules,
    cR := by rw [hA]; exact ⟨rc1, rc2, rc3, rc4⟩,
    mkR := by rw [hA]; exact ⟨rm1, rm2, rm3, rm4⟩,
    mt_change := by rw [hA]; exact ⟨me_change, mf_change, k_m_change⟩,
    mt_choice := by rw [hA]; exact ⟨me_choice, mf_choice, k_m_choice⟩,
    mt_copy := by rw [hA]; exact ⟨me_copy, mf_copy, k_m_copy⟩,
    pp_hook := by rw [hA]; exact ⟨pa_hook, pb_hook, pc_hook, _, pd_hook⟩,
    pp_relay := by rw [hA]; exact ⟨pa_relay, pb_relay, pc_relay, _, pd_relay⟩,
    pp_clamp := by rw [hA]; exact ⟨pa_clamp, pb_clamp, pc_clamp, _, pd_clamp⟩,
    pp_trail := by rw [hA]; exact ⟨pa_trail, pb_trail, pc_trail, _, pd_trail⟩,
    pp_wheel := by rw [hA]; exact ⟨pa_wheel, pb_wheel, pc_wheel, _, pd_wheel⟩,
    pp_number := by rw [hA]; exact ⟨pa_number, pb_number, pc_number, _, pd_number⟩,
    nc := by rw [hA]; exact nc_is,
    rd := by rw [hA]; exact ⟨rq1, rq2⟩,
    cv_NAMES := by rw [hA]; exact ⟨v_NAMES, rfl⟩,
    tN := by rw [hA]; exact tup5s l_NAMES,
    lN := by rw [hA]; exact ⟨_, l_NAMES, rfl⟩,
    cv_COUNT := by rw [hA]; exact ⟨_, v_COUNT, ⟨_, rfl⟩⟩,
    cm := by rw [hA]; exact ⟨u1, ⟨_, u2⟩, u3⟩,
    o_eq := by rw [hA]; exact ⟨o1, o2⟩,
    o_nf := by rw [hA]; exact o3,
    o_repr := by rw [hA]; exact ⟨o4, o5⟩,
    cc := by rw [hA]; exact cc_is,
    co := by rw [hA]; exact co_is,
    n_int := PySem.W.mg_none_of X G z_int,
    n_bool := PySem.W.mg_none_of X G z_bool,
    n_str := PySem.W.mg_none_of X G z_str,
    n_list := PySem.W.mg_none_of X G z_list,
    n_tuple := PySem.W.mg_none_of X G z_tuple,
    n_len := PySem.W.mg_none_of X G z_len,
    n_range := PySem.W.mg_none_of X G z_range,
    n_enumerate := PySem.W.mg_none_of X G z_enumerate,
    n_isinstance := PySem.W.mg_none_of X G z_isinstance,
    n_sum := PySem.W.mg_none_of X G z_sum,
    n_repr := PySem.W.mg_none_of X G z_repr,
    n_ValueError := PySem.W.mg_none_of X G z_ValueError }
  have hW : WdK w K A.WORDS := by rw [hA]; exact words_mk12 sm_WORDS l_WORDS l_W0 l_W1 l_W2 l_W3 l_W4
  have FL := fun_mk (st := s_law) l_law cd_is_law k_law
  have eL : A.law = fa := by rw [hA]
  refine ⟨PySem.W.fnOf "law" "law" (defArgs s_law) (defBody s_law) (defScope s_law) .none kV_law doc_law pm_law an_law cd_law ct_law, fun s v => .of_eq rfl, fun base _ _ => ?_⟩
  rw [← eL] at FL ⊢
  have g_InvalidNumber := ok_InvalidNumber (P := l.prog) (w := w) (base := base) T 
  have g_InvalidRules := ok_InvalidRules (P := l.prog) (w := w) (base := base) T 
  have g_m_change := ok_m_change (P := l.prog) (w := w) (base := base) T hW g_InvalidRules
  have h_m_change := okh_m_change (P := l.prog) (w := w) (base := base) T hW 
  have g_m_hook := ok_m_hook (P := l.prog) (w := w) (base := base) T 
  have g_m_relay := ok_m_relay (P := l.prog) (w := w) (base := base) T 
  have g_m_clamp := ok_m_clamp (P := l.prog) (w := w) (base := base) T 
  have g_m_trail := ok_m_trail (P := l.prog) (w := w) (base := base) T 
  have g_m_wheel := ok_m_wheel (P := l.prog) (w := w) (base := base) T 
  have g_m_choice := ok_m_choice (P := l.prog) (w := w) (base := base) T hW g_InvalidRules
  have g_m_number := ok_m_number (P := l.prog) (w := w) (base := base) T hW 
  have g_law_integer := ok_law_integer (P := l.prog) (w := w) (base := base) T 
  have h_law_integer := okh_law_integer (P := l.prog) (w := w) (base := base) T 
  have g_law_cell := ok_law_cell (P := l.prog) (w := w) (base := base) T 
  have g_law_stream := ok_law_stream (P := l.prog) (w := w) (base := base) T g_law_cell
  have g_law_draw := ok_law_draw (P := l.prog) (w := w) (base := base) T 
  have g_law_names := ok_law_names (P := l.prog) (w := w) (base := base) T 
  have g_law_choices := ok_law_choices (P := l.prog) (w := w) (base := base) T 
  have g_law_good := ok_law_good (P := l.prog) (w := w) (base := base) T g_law_names g_law_choices
  have g_law_pick_name := ok_law_pick_name (P := l.prog) (w := w) (base := base) T g_law_draw g_law_names
  have g_law_pick_word := ok_law_pick_word (P := l.prog) (w := w) (base := base) T g_law_draw g_law_names g_law_choices
  have g_m_eq := ok_m_eq (P := l.prog) (w := w) (base := base) T g_m_number
  have g_m_repr := ok_m_repr (P := l.prog) (w := w) (base := base) T g_m_number
  have g_m_init := ok_m_init (P := l.prog) (w := w) (base := base) T g_m_change
  have h_m_init := okh_m_init (P := l.prog) (w := w) (base := base) T h_m_change
  have g_m_numbered := ok_m_numbered (P := l.prog) (w := w) (base := base) T hW g_m_init g_InvalidNumber
  have g_m_copy := ok_m_copy (P := l.prog) (w := w) (base := base) T g_m_numbered g_m_number
  have g_law_called := ok_law_called (P := l.prog) (w := w) (base := base) T g_m_init
  have g_law_value := ok_law_value (P := l.prog) (w := w) (base := base) T g_law_draw
  have g_law_chosen := ok_law_chosen (P := l.prog) (w := w) (base := base) T g_law_names g_m_choice g_law_choices
  have g_law_constants := ok_law_constants (P := l.prog) (w := w) (base := base) T g_law_integer g_law_names
  have g_law_changed := ok_law_changed (P := l.prog) (w := w) (base := base) T g_law_good g_m_change g_law_choices g_law_names
  have g_law_made := ok_law_made (P := l.prog) (w := w) (base := base) T h_m_init g_law_called
  have g_law_numbered := ok_law_numbered (P := l.prog) (w := w) (base := base) T h_m_init g_m_numbered h_law_integer
  have g_law_kept := ok_law_kept (P := l.prog) (w := w) (base := base) T g_m_number g_law_integer g_m_hook g_m_relay g_m_clamp g_m_trail g_m_wheel g_law_names g_law_choices g_m_choice g_m_repr
  have g_law_due := ok_law_due (P := l.prog) (w := w) (base := base) T g_law_names g_law_choices g_law_good
  have g_law_both := ok_law_both (P := l.prog) (w := w) (base := base) T g_m_eq g_law_kept
  have g_law_every := ok_law_every (P := l.prog) (w := w) (base := base) T g_law_numbered g_law_kept
  have g_law_round := ok_law_round (P := l.prog) (w := w) (base := base) T g_law_draw g_m_copy g_law_value g_law_numbered g_law_pick_name g_law_chosen g_law_changed g_law_pick_word
  exact ok_law T FL g_m_init g_law_stream g_law_draw g_law_names g_law_pick_word g_law_due g_law_made g_law_constants g_law_both g_law_every g_law_round
theorem walk {l : PySem.W.OpenLaw} {q : Program} {loose : List Str} {XP : (Str → Option Value) → Heap → Prop} {YP : World → Heap → Prop} {d : DefRec} {K : Params → PySem.W.Frag} (hn : l.most = some 63) (hdf : d.params.defaults = [])
    (hY : ∀ (w : World) (h : Heap), YP w h → (K w.params).In h)
    (F : ∀ (w : World) (mg : Str → Option Value) (fa : Addr) (h : Heap), (K w.params).In h → h.Ns mainGlobals mg → mg d.name = some (.ref fa) →
      ∃ fd : FuncData, (∀ (s : Shared) (u : Value), BindsTo s fd ⟨[u], []⟩ [("script", u)]) ∧ ∀ base : Heap, (K w.params).In base → base.Ns mainGlobals mg → FnOk l.prog w (K w.params) mg base CX0 9 fa fd ["script"] (spLaw (K w.params))) :
    PySem.W.WalkO q loose XP YP l.row.toRowW d [] (fun f vs => PySem.call f vs) :=
  L2.walk_of (n := 63) (k := 9) (x := "script") (CX := fun _ => CX0) (sp := fun w => spLaw (K w.params)) hn (by decide) hdf ⟨rfl, by decide, by decide⟩ hY F (fun _ _ a ns hl _ hS => ⟨a, ns, rfl, hS, hl, fun _ => rfl⟩) fun _ _ _ _ _ z => z
end Pv

open PySem PySem.W PyProof.Rows
set_option maxRecDepth 100000 in
set_option maxHeartbeats 0 in
theorem PySem.Challenge.cw_peermend_k12_rules_kept_right_holds : PySem.Challenge.rw_peermend_k12_rules_kept_right.Holds := by
  w_on; o_law; k_head; (case hw => w_witness2)
  k_fill
  refine Pv.walk (l := PySem.Challenge.rw_peermend_k12_rules_kept_right) rfl rfl (fun w h Y => PySem.W.kIn_of Y) ?F
  case F =>
    intro w mg fa h KX G hmg
    refine' Pv.all_mk KX G hmg ?qa_Rules ?qrm2 ?qme_change ?qme_choice ?qme_copy ?qpa_hook ?qpd_hook ?qpa_relay ?qpd_relay ?qpa_clamp ?qpd_clamp ?qpa_trail ?qpd_trail ?qpa_wheel ?qpd_wheel ?qpa_number ?qpd_number ?qu1 ?qu2 ?qo1 ?qo4 ?ql_m_init ?qcd_is_m_init ?qk_m_init ?qkd_hook ?qkd_relay ?qkd_clamp ?qkd_trail ?qkd_wheel ?ql_m_hook ?qcd_is_m_hook ?qk_m_hook ?ql_m_relay ?qcd_is_m_relay ?qk_m_relay ?ql_m_clamp ?qcd_is_m_clamp ?qk_m_clamp ?ql_m_trail ?qcd_is_m_trail ?qk_m_trail ?ql_m_wheel ?qcd_is_m_wheel ?qk_m_wheel ?ql_m_number ?qcd_is_m_number ?qk_m_number ?ql_m_change ?qcd_is_m_change ?qk_m_change ?ql_m_choice ?qcd_is_m_choice ?qk_m_choice ?ql_m_copy ?qcd_is_m_copy ?qk_m_copy ?ql_m_numbered ?qcd_is_m_numbered ?qk_m_numbered ?ql_m_eq ?qcd_is_m_eq ?qk_m_eq ?ql_m_repr ?qcd_is_m_repr ?qk_m_repr ?qa_law_integer ?ql_law_integer ?qcd_is_law_integer ?qk_law_integer ?qa_law_cell ?ql_law_cell ?qcd_is_law_cell ?qk_law_cell ?qa_law_stream ?ql_law_stream ?qcd_is_law_stream ?qk_law_stream ?qa_law_draw ?ql_law_draw ?qcd_is_law_draw ?qk_law_draw ?qa_law_names ?ql_law_names ?qcd_is_law_names ?qk_law_names ?qa_law_choices ?ql_law_choices ?qcd_is_law_choices ?qk_law_choices ?qa_law_good ?ql_law_good ?qcd_is_law_good ?qk_law_good ?qa_law_pick_name ?ql_law_pick_name ?qcd_is_law_pick_name ?qk_law_pick_name ?qa_law_pick_word ?ql_law_pick_word ?qcd_is_law_pick_word ?qk_law_pick_word ?qa_law_called ?ql_law_called ?qcd_is_law_called ?qk_law_called ?qa_law_due ?ql_law_due ?qcd_is_law_due ?qk_law_due ?qa_law_made ?ql_law_made ?qcd_is_law_made ?qk_law_made ?qa_law_changed ?ql_law_changed ?qcd_is_law_changed ?qk_law_changed ?qa_law_chosen ?ql_law_chosen ?qcd_is_law_chosen ?qk_law_chosen ?qa_law_numbered ?ql_law_numbered ?qcd_is_law_numbered ?qk_law_numbered ?qa_law_value ?ql_law_value ?qcd_is_law_value ?qk_law_value ?qa_law_kept ?ql_law_kept ?qcd_is_law_kept ?qk_law_kept ?qa_law_both ?ql_law_both ?qcd_is_law_both ?qk_law_both ?qa_law_constants ?ql_law_constants ?qcd_is_law_constants ?qk_law_constants ?qa_law_round ?ql_law_round ?qcd_is_law_round ?qk_law_round ?qa_law_every ?ql_law_every ?qcd_is_law_every ?qk_law_every ?qa_law ?ql_law ?qcd_is_law ?qk_law ?qa_WORDS ?qsm_WORDS ?ql_WORDS ?ql_W0 ?ql_W1 ?ql_W2 ?ql_W3 ?ql_W4 ?qa_MendError ?qx_MendError ?qa_InvalidNumber ?qx_InvalidNumber ?qkc_InvalidNumber ?qsa_InvalidNumber ?qga_InvalidNumber ?qgg_InvalidNumber ?qca_InvalidNumber ?qi_is_InvalidNumber ?qt_InvalidNumber ?qnf_InvalidNumber ?ql_i_InvalidNumber ?qcd_is_i_InvalidNumber ?qk_i_InvalidNumber ?qa_InvalidRules ?qx_InvalidRules ?qkc_InvalidRules ?qsa_InvalidRules ?qga_InvalidRules ?qgg_InvalidRules ?qca_InvalidRules ?qi_is_InvalidRules ?qt_InvalidRules ?qnf_InvalidRules ?ql_i_InvalidRules ?qcd_is_i_InvalidRules ?qk_i_InvalidRules ?qcn ?qct ?qnd ?qrc1 ?qrc2 ?qrc3 ?qrc4 ?qrm1 ?qrm3 ?qrm4 ?qmf_change ?qmf_choice ?qmf_copy ?qpb_hook ?qpc_hook ?qpb_relay ?qpc_relay ?qpb_clamp ?qpc_clamp ?qpb_trail ?qpc_trail ?qpb_wheel ?qpc_wheel ?qpb_number ?qpc_number ?qnc_is ?qrq1 ?qrq2 ?qv_NAMES ?ql_NAMES ?qv_COUNT ?qu3 ?qo2 ?qo3 ?qo5 ?qcc_is ?qco_is ?qz_int ?qz_bool ?qz_str ?qz_list ?qz_tuple ?qz_len ?qz_range ?qz_enumerate ?qz_isinstance ?qz_sum ?qz_repr ?qz_ValueError
    (case qa_Rules => k_is)
    (case qrm2 => k_is)
    (case qme_change => k_is)
    (case qme_choice => k_is)
    (case qme_copy => k_is)
    (case qpa_hook => k_is)
    (case qpd_hook => k_is)
    (case qpa_relay => k_is)
    (case qpd_relay => k_is)
    (case qpa_clamp => k_is)
    (case qpd_clamp => k_is)
    (case qpa_trail => k_is)
    (case qpd_trail => k_is)
    (case qpa_wheel => k_is)
    (case qpd_wheel => k_is)
    (case qpa_number => k_is)
    (case qpd_number => k_is)
    (case qu1 => k_is)
    (case qu2 => k_is)
    (case qo1 => k_is)
    (case qo4 => k_is)
    (case ql_m_init => k_is)
    (case qcd_is_m_init => k_is)
    (case qk_m_init => k_is)
    (case qkd_hook => k_is)
    (case qkd_relay => k_is)
    (case qkd_clamp => k_is)
    (case qkd_trail => k_is)
    (case qkd_wheel => k_is)
    (case ql_m_hook => k_is)
    (case qcd_is_m_hook => k_is)
    (case qk_m_hook => k_is)
    (case ql_m_relay => k_is)
    (case qcd_is_m_relay => k_is)
    (case qk_m_relay => k_is)
    (case ql_m_clamp => k_is)
    (case qcd_is_m_clamp => k_is)
    (case qk_m_clamp => k_is)
    (case ql_m_trail => k_is)
    (case qcd_is_m_trail => k_is)
    (case qk_m_trail => k_is)
    (case ql_m_wheel => k_is)
    (case qcd_is_m_wheel => k_is)
    (case qk_m_wheel => k_is)
    (case ql_m_number => k_is)
    (case qcd_is_m_number => k_is)
    (case qk_m_number => k_is)
    (case ql_m_change => k_is)
    (case qcd_is_m_change => k_is)
    (case qk_m_change => k_is)
    (case ql_m_choice => k_is)
    (case qcd_is_m_choice => k_is)
    (case qk_m_choice => k_is)
    (case ql_m_copy => k_is)
    (case qcd_is_m_copy => k_is)
    (case qk_m_copy => k_is)
    (case ql_m_numbered => k_is)
    (case qcd_is_m_numbered => k_is)
    (case qk_m_numbered => k_is)
    (case ql_m_eq => k_is)
    (case qcd_is_m_eq => k_is)
    (case qk_m_eq => k_is)
    (case ql_m_repr => k_is)
    (case qcd_is_m_repr => k_is)
    (case qk_m_repr => k_is)
    (case qa_law_integer => k_is)
    (case ql_law_integer => k_is)
    (case qcd_is_law_integer => k_is)
    (case qk_law_integer => k_is)
    (case qa_law_cell => k_is)
    (case ql_law_cell => k_is)
    (case qcd_is_law_cell => k_is)
    (case qk_law_cell => k_is)
    (case qa_law_stream => k_is)
    (case ql_law_stream => k_is)
    (case qcd_is_law_stream => k_is)
    (case qk_law_stream => k_is)
    (case qa_law_draw => k_is)
    (case ql_law_draw => k_is)
    (case qcd_is_law_draw => k_is)
    (case qk_law_draw => k_is)
    (case qa_law_names => k_is)
    (case ql_law_names => k_is)
    (case qcd_is_law_names => k_is)
    (case qk_law_names => k_is)
    (case qa_law_choices => k_is)
    (case ql_law_choices => k_is)
    (case qcd_is_law_choices => k_is)
    (case qk_law_choices => k_is)
    (case qa_law_good => k_is)
    (case ql_law_good => k_is)
    (case qcd_is_law_good => k_is)
    (case qk_law_good => k_is)
    (case qa_law_pick_name => k_is)
    (case ql_law_pick_name => k_is)
    (case qcd_is_law_pick_name => k_is)
    (case qk_law_pick_name => k_is)
    (case qa_law_pick_word => k_is)
    (case ql_law_pick_word => k_is)
    (case qcd_is_law_pick_word => k_is)
    (case qk_law_pick_word => k_is)
    (case qa_law_called => k_is)
    (case ql_law_called => k_is)
    (case qcd_is_law_called => k_is)
    (case qk_law_called => k_is)
    (case qa_law_due => k_is)
    (case ql_law_due => k_is)
    (case qcd_is_law_due => k_is)
    (case qk_law_due => k_is)
    (case qa_law_made => k_is)
    (case ql_law_made => k_is)
    (case qcd_is_law_made => k_is)
    (case qk_law_made => k_is)
    (case qa_law_changed => k_is)
    (case ql_law_changed => k_is)
    (case qcd_is_law_changed => k_is)
    (case qk_law_changed => k_is)
    (case qa_law_chosen => k_is)
    (case ql_law_chosen => k_is)
    (case qcd_is_law_chosen => k_is)
    (case qk_law_chosen => k_is)
    (case qa_law_numbered => k_is)
    (case ql_law_numbered => k_is)
    (case qcd_is_law_numbered => k_is)
    (case qk_law_numbered => k_is)
    (case qa_law_value => k_is)
    (case ql_law_value => k_is)
    (case qcd_is_law_value => k_is)
    (case qk_law_value => k_is)
    (case qa_law_kept => k_is)
    (case ql_law_kept => k_is)
    (case qcd_is_law_kept => k_is)
    (case qk_law_kept => k_is)
    (case qa_law_both => k_is)
    (case ql_law_both => k_is)
    (case qcd_is_law_both => k_is)
    (case qk_law_both => k_is)
    (case qa_law_constants => k_is)
    (case ql_law_constants => k_is)
    (case qcd_is_law_constants => k_is)
    (case qk_law_constants => k_is)
    (case qa_law_round => k_is)
    (case ql_law_round => k_is)
    (case qcd_is_law_round => k_is)
    (case qk_law_round => k_is)
    (case qa_law_every => k_is)
    (case ql_law_every => k_is)
    (case qcd_is_law_every => k_is)
    (case qk_law_every => k_is)
    (case qa_law => k_is)
    (case ql_law => k_is)
    (case qcd_is_law => k_is)
    (case qk_law => k_is)
    (case qa_WORDS => k_is)
    (case qsm_WORDS => first | decide | rfl | k_is)
    (case ql_WORDS => k_is)
    (case ql_W0 => k_is)
    (case ql_W1 => k_is)
    (case ql_W2 => k_is)
    (case ql_W3 => k_is)
    (case ql_W4 => k_is)
    (case qa_MendError => k_is)
    (case qx_MendError => k_is)
    (case qa_InvalidNumber => k_is)
    (case qx_InvalidNumber => k_is)
    (case qkc_InvalidNumber => k_is)
    (case qsa_InvalidNumber => k_is)
    (case qga_InvalidNumber => k_is)
    (case qgg_InvalidNumber => k_is)
    (case qca_InvalidNumber => k_is)
    (case qi_is_InvalidNumber => k_is)
    (case qt_InvalidNumber => k_is)
    (case qnf_InvalidNumber => k_is)
    (case ql_i_InvalidNumber => k_is)
    (case qcd_is_i_InvalidNumber => k_is)
    (case qk_i_InvalidNumber => k_is)
    (case qa_InvalidRules => k_is)
    (case qx_InvalidRules => k_is)
    (case qkc_InvalidRules => k_is)
    (case qsa_InvalidRules => k_is)
    (case qga_InvalidRules => k_is)
    (case qgg_InvalidRules => k_is)
    (case qca_InvalidRules => k_is)
    (case qi_is_InvalidRules => k_is)
    (case qt_InvalidRules => k_is)
    (case qnf_InvalidRules => k_is)
    (case ql_i_InvalidRules => k_is)
    (case qcd_is_i_InvalidRules => k_is)
    (case qk_i_InvalidRules => k_is)
    (case qcn => k_is)
    (case qct => k_is)
    (case qnd => decide)
    (case qrc1 => k_is)
    (case qrc2 => k_is)
    (case qrc3 => k_is)
    (case qrc4 => k_is)
    (case qrm1 => k_is)
    (case qrm3 => k_is)
    (case qrm4 => k_is)
    (case qmf_change => k_is)
    (case qmf_choice => k_is)
    (case qmf_copy => k_is)
    (case qpb_hook => k_is)
    (case qpc_hook => k_is)
    (case qpb_relay => k_is)
    (case qpc_relay => k_is)
    (case qpb_clamp => k_is)
    (case qpc_clamp => k_is)
    (case qpb_trail => k_is)
    (case qpc_trail => k_is)
    (case qpb_wheel => k_is)
    (case qpc_wheel => k_is)
    (case qpb_number => k_is)
    (case qpc_number => k_is)
    (case qnc_is => k_is)
    (case qrq1 => k_is)
    (case qrq2 => k_is)
    (case qv_NAMES => k_is)
    (case ql_NAMES => k_is)
    (case qv_COUNT => k_is)
    (case qu3 => k_is)
    (case qo2 => k_is)
    (case qo3 => k_is)
    (case qo5 => k_is)
    (case qcc_is => k_is)
    (case qco_is => k_is)
    (case qz_int => k_is)
    (case qz_bool => k_is)
    (case qz_str => k_is)
    (case qz_list => k_is)
    (case qz_tuple => k_is)
    (case qz_len => k_is)
    (case qz_range => k_is)
    (case qz_enumerate => k_is)
    (case qz_isinstance => k_is)
    (case qz_sum => k_is)
    (case qz_repr => k_is)
    (case qz_ValueError => k_is)
