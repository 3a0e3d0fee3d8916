import PyProof.Rows.All
import Wide.All
import OpenK.AllK
import Wide.FinOn
import KE.KIsAll
import KE.KExcIs
import HandS.ForMost
import HandS.ForExc
import HandS.TryMany
import HandS.ExcInit
import HandS.ExcValue
import HandS.ExcField
import HandS.IsInst
import HandS.ExcIs
import HandS.Small
import HandS.Wide
import HandS.Flow
import HandS.Evl
import HandS.Conv
import HandS.Walk
import KE.KDictKeyed
import KE.KDictList
import KE.KDictDisplayH
import HandS.SetKeys
import HandS.DictComp
import HandS.NoneIn
import HandS.SortInts
import HandS.SortOrd
import HandS.TupAny
import HandS.ListItems
import HandS.SortRule
import HandS.ExcCtx
import HandS.HotCalls
import HandS.ExcInitHot
import HandS.TupSets
import HandS.SetFor
import HandS.Deep
import PyProof.WalkInts
import PyProof.WalksMore
import KE.GoesMore
import HandS.Zip
import HandS.Style
import HandS.HeadHook3
import PySem.Challenge.RW_peermend_k09_sides_of_changes
set_option Elab.async false
set_option linter.all false
set_option maxRecDepth 100000
set_option maxHeartbeats 4000000
namespace L2
open PySem PySem.Spec PyProof.Rows

/-- an error object held as a value: without a dict, or with one that holds fields -/
def ErrT (H : Hp) (a C : Addr) : Prop := H a = some (ExO (.ref C) a) ∨ ∃ (dx : Addr) (fs : List (Str × V)), H a = some (exo a C (some dx)) ∧ H dx = some (exd dx fs)
/-- isinstance of such a value -/
def rIsX (K : PySem.W.Frag) : List V → Hp → VK → Prop := fun xs H Q => ∃ (a C : Addr) (c : V) (u : Value) (b : Bool), xs = [.ref a, c] ∧ ErrT H a C ∧ ExcC K C ∧ ClsV c u ∧ PySem.W.kitOne K (.ref C) u = some b ∧ Q (.bl b) H
theorem clsIn_some {K : PySem.W.Frag} {C : Addr} (h : PySem.W.hasDictIn K C = true) : (PySem.W.clsIn K C).isSome = true := by
  obtain ⟨cd, hc, _⟩ := PySem.W.any_some h
  rw [hc]
  rfl
theorem kitX_err {K : PySem.W.Frag} {C a : Addr} {oe : Obj} {od : Option Obj} (D : ExcC K C) : PySem.W.KitX K (.ref a) (.ref C) (fun h => PySem.W.InstAt h a oe C od) :=
  PySem.W.kitx_exc (clsIn_some D.hd) D.hg D.hk D.hs D.ha D.hn D.ht D.hm
theorem call_isX {X : Cx} : CallR X (.builtin "isinstance") (rIsX X.K) := by
  intro pins s σ H xs us Q I r h
  obtain ⟨a, C, c, u, b, rfl, T, D, k, e, q⟩ := h
  obtain ⟨u1, u2, rfl, r1, r2⟩ := vals2 r
  have e2 := k.eq r2
  subst e2
  cases (show u1 = Value.ref a from r1)
  rcases T with ea | ⟨dx, fs, ea, ed⟩
  · have x : ObjOk X.prog X.w H s.heap a (ExO (.ref C) a) := I.hok a _ ea
    obtain ⟨⟨oe, vs, ho, hz, hd, _⟩, _, _⟩ := x
    obtain ⟨oc, odi, oda, osl⟩ := oe
    obtain ⟨h1, h2⟩ := hz
    dsimp only at h1 h2 hd
    subst h1 h2 hd
    exact PySem.W.kia_one (kitX_err (od := none) D) I.kIn ⟨ho, rfl, rfl, trivial⟩ e (fun z => nomatch z) fun tk => ⟨.bl b, H, I.tok tk, rfl, q⟩
  · obtain ⟨t1, ho⟩ := exo_at I.hok ea
    obtain ⟨mA, hns, _⟩ := exd_at I.hok ed
    obtain ⟨od, ho2, _⟩ := lookIn_ns hns
    exact PySem.W.kia_one (kitX_err (od := some od) D) I.kIn ⟨ho, rfl, rfl, ho2⟩ e (fun z => nomatch z) fun tk => ⟨.bl b, H, I.tok tk, rfl, q⟩
/-- isinstance(e, c), e the exception that the suite holds, with its dict -/
def rIsS (K : PySem.W.Frag) (a : Addr) (cls : Value) (d : Option Addr) : List V → Hp → VK → Prop := fun xs H Q => ∃ (C dd : Addr) (fs : List (Str × V)) (c : V) (u : Value) (b : Bool), xs = [.ref a, c] ∧ cls = .ref C ∧ d = some dd ∧ H dd = some (.xd fs) ∧
  ExcC K C ∧ ClsV c u ∧ PySem.W.kitOne K (.ref C) u = some b ∧ Q (.bl b) H
theorem call_isS {X : Cx} {K : PySem.W.Frag} {a : Addr} {cls : Value} {d : Option Addr} {oe : Obj} {pn : List (Addr × Obj)} (hK : X.K = K) (hz : Zc cls d oe) (hf : ∃ vs, oe.data = .fields vs) : CallR (X.suite a ((a, oe) :: pn)) (.builtin "isinstance") (rIsS K a cls d) := by
  subst hK
  intro pins s σ H xs us Q I r h
  obtain ⟨C, dd, fs, c, u, b, rfl, rfl, rfl, ea, D, k, e, q⟩ := h
  obtain ⟨u1, u2, rfl, r1, r2⟩ := vals2 r
  have e2 := k.eq r2
  subst e2
  cases (show u1 = Value.ref a from r1)
  obtain ⟨hget, _⟩ := I.pin (a, oe) (List.mem_append.mpr (.inl List.mem_cons_self))
  obtain ⟨vs, hv⟩ := hf
  have hx : ObjOk X.prog X.w H s.heap dd (.xd fs) := I.hok dd _ ea
  obtain ⟨mA, hns, hr⟩ := hx
  obtain ⟨od, ho, hl⟩ := lookIn_ns hns
  have J : PySem.W.InstAt s.heap a oe C (some od) := ⟨hget, hz.1, by unfold PySem.W.notCls; rw [hv] <;> rfl, by rw [hz.2]; exact ho⟩
  exact PySem.W.kia_one (kitX_err D) I.kIn J e (fun z => nomatch z) fun tk => ⟨.bl b, H, I.kept (t' := tk) fun _ _ z => z, rfl, q⟩

section
variable {X : Cx} {C : Addr} {bmB : List Value} {B newId initId : String} {x : Str} {p pos : Pos}
/-- X(), raised: an own exception class without own __init__ -/
theorem pmk_own0 (F : ExcBaseFacts B newId initId bmB) (q : PySem.W.excIn X.K C bmB newId = true) (gC : X.mg x = some (.ref C)) (kC : PySem.W.keepIn X.K (.ref C) = true) (r : Raises X (.ref C)) (hg : Gl X x)
    (hdb : (x == ("__debug__" : Str)) = false := by decide) : PMk X (.Call (.Name x p) [] [] pos) (fun _ H Q => Q (.ref C) none H) := by
  intro pins s σ H Q I h
  refine wpAny_Call_Name_kw (ld_glob I hg gC ?_ hdb)
  refine PySem.W.callWith_K0 I.kIn kC ?_
  obtain ⟨bm, N, nm, qn, bs, hdct, sn, sub, ab, col, dd, k0, k1, k2, k3, k5, mN, hC, hN, hni, T⟩ := exc_obj I.kIn q
  refine wpAny_call_exc_subT F T hC hN hni (fun h' e hm => ?_) (Nat.zero_le _)
  exact mk_of I hm r h (I.hok.gone hm.new)
/-- X(), as a value -/
theorem pe_exc0 (F : ExcBaseFacts B newId initId bmB) (q : PySem.W.excIn X.K C bmB newId = true) (gC : X.mg x = some (.ref C)) (kC : PySem.W.keepIn X.K (.ref C) = true) (hg : Gl X x)
    (hdb : (x == ("__debug__" : Str)) = false := by decide) : PE X (.Call (.Name x p) [] [] pos) (fun _ H Q => ∀ a, H a = none → Q (.ref a) (upd H a (ExO (.ref C) a))) := by
  refine ⟨fun pins s σ H Q I h => ?_⟩
  refine wpAny_Call_Name_kw (ld_glob I hg gC ?_ hdb)
  refine PySem.W.callWith_K0 I.kIn kC ?_
  obtain ⟨bm, N, nm, qn, bs, hdct, sn, sub, ab, col, dd, k0, k1, k2, k3, k5, mN, hC, hN, hni, T⟩ := exc_obj I.kIn q
  refine wpAny_call_exc_subT F T hC hN hni (fun h' a hm => ?_) (Nat.zero_le _)
  have hn : H a = none := I.hok.gone hm.new
  obtain ⟨t, ht, _, _⟩ := hm.there
  exact ⟨.ref a, upd H a (ExO (.ref C) a), I.laidN hm.keeps hm.new hn (exO_ok ht ⟨rfl, rfl⟩ rfl rfl rfl (show 4 < 6 by decide)), rfl, h a hn⟩
end
/-- X(e, ..) as a value, its own __init__ keeping sp -/
def tMkV (C : Addr) (sp : Sp) (ta : TA) : TE := fun σ H Q => ta σ H fun vs H1 => vs.length ≤ 1000 ∧ ∀ a, H1 a = none → sp (.ref a :: vs) (upd H1 a (exo a C none)) (fun v H2 => v = .non ∧ Q (.ref a) H2) (fun _ _ _ => False)
section
variable {X : Cx} {e : Expr} {es : List Expr} {ta : TA} {p pos : Pos}
theorem pe_oexV {CX : CXT} {x : Str} {C fI : Addr} {k : Nat} {fd : FuncData} {ps : List Str} {sp : Sp} (T : OexC X.K C) (iC : PySem.W.findIn X.K (.ref C) "__init__" = some (some (.ref fI))) (tI : PySem.W.typeIn X.K (.ref fI) = some (.type "function"))
    (F1 : FnOk X.prog X.w X.K X.mg X.base CX k fI fd ps sp) (hr : Room (k + 1) X.A) (hb : Binds X.K fd ps []) (hx : Passes CX X (fun _ _ _ => False)) (hg : Gl X x) (hm : X.mg x = some (.ref C)) (ha : PA X (e :: es) ta)
    (hdb : (x == ("__debug__" : Str)) = false := by decide) (he : starEach (e :: es) X.env = (false, eval e X.env) :: starEach es X.env := by rfl) (hpl : (backTo pos (starEach es X.env)).any (·.1) = false := by rfl) :
    PE X (.Call (.Name x p) (e :: es) [] pos) (tMkV C sp ta) := by
  refine ⟨fun pins s σ H Q I h => ?_⟩
  obtain ⟨nm, q, N, bs, bm, sn, sub, ab, col, dd, k0, k1, k2, k3, k5, hC, hmro⟩ := T.cls
  refine wpAny_Call_Name_kw (ld_glob I hg hm ?_ hdb)
  refine PySem.W.callWith_K (h₀ := X.base) I.ok.mod.kin T.kC (thn (ha.run pos pins s σ H _ I h) fun us s1 ⟨vs, H1, I1, r1, hz, q1⟩ => ⟨I1.kIn, ?_⟩) he hpl
  show wpAny _ _ (call (.ref C) us) _ _ _
  obtain ⟨hh, g, dw, tc, ow⟩ := s1
  have hgt : hh.objs.size ≤ hh.objs.size + 1 := Nat.le_succ _
  have fr1 : H1 (hh.objs.size + 1) = none := I1.hok.fresh hgt
  have pr1 := q1 (hh.objs.size + 1) fr1
  have kp1 : ∀ b o, hh.get? b = some o → ((hh.push (PySem.W.kdv_tup us)).push (PySem.HandSPX.excO C hh.objs.size)).get? b = some o := fun b o e => Heap.get?_push_of_some _ (Heap.get?_push_of_some _ e)
  have ob1 : ((hh.push (PySem.W.kdv_tup us)).push (PySem.HandSPX.excO C hh.objs.size)).get? (hh.objs.size + 1) = some (PySem.HandSPX.excO C hh.objs.size) := by heap_get
  have Iv2 : Inv X pins σ (upd H1 (hh.objs.size + 1) (exo (hh.objs.size + 1) C none)) ⟨(hh.push (PySem.W.kdv_tup us)).push (PySem.HandSPX.excO C hh.objs.size), g, dw, tc, ow⟩ :=
    I1.laid (t' := tc) (a := hh.objs.size + 1) (o := exo (hh.objs.size + 1) C none) (h' := (hh.push (PySem.W.kdv_tup us)).push (PySem.HandSPX.excO C hh.objs.size)) kp1 hgt (exo_ok ob1)
  have rl2 : Vals (V.ref (hh.objs.size + 1) :: vs) (Value.ref (hh.objs.size + 1) :: us) := .cons rfl r1
  have ln1 : (Value.ref (hh.objs.size + 1) :: us).length = ps.length := by
    have e := rl2.length
    rw [F1.len _ _ _ _ pr1] at e
    exact e.symm
  have ln2 : us.length ≤ sizeLine := by
    rw [← Paired.length r1, sizeLine_eq]
    omega
  have b0 := hb ⟨(hh.push (PySem.W.kdv_tup us)).push (PySem.HandSPX.excO C hh.objs.size), g, dw, tc, ow⟩ (Value.ref (hh.objs.size + 1) :: us) Iv2.kIn (by rw [List.append_nil]; exact ln1)
  rw [List.append_nil] at b0
  refine wpAny_call (PySem.HandSPX.call_own F.excBase_ValueError (fun Y => PySem.HandSPX.refsVE_contains Y bm hmro) (I1.kIn _ _ hC) (PySem.W.looks_findIn I1.kIn iC) (fun self => PySem.W.bind_fn I1.kIn self tI) ln2
    (codeAny_mono (F1.run _ X.stack _ _ ⟨Value.ref (hh.objs.size + 1) :: us, []⟩ (Value.ref (hh.objs.size + 1) :: us) _ _ (fun _ _ _ => False) (hr.make C us []) (Iv2.env0.make C us []) b0 rl2 pr1) fun r s' hq' => ?_))
  cases r with
  | error er => exact hx pins σ _ _ er s' Iv2 hq'
  | ok fl =>
    cases fl with
    | ret u =>
      obtain ⟨v, H2, os2, bare2, un2, hok2, rv, ev, q2⟩ := hq'
      subst ev
      exact ⟨rv, .ref (hh.objs.size + 1), H2, Iv2.call' (ch := []) os2 un2 hok2 bare2 (fun b z => absurd z (by simp)), rfl, q2⟩
    | next => exact False.elim hq'
    | brk => exact False.elim hq'
    | cont => exact False.elim hq'
/-- err.f, err an error held as a value -/
def tXa (K : PySem.W.Frag) (f : Str) (te : TE) : TE := fun σ H Q => te σ H fun x H1 => ∃ (a C dx : Addr) (fs : List (Str × V)) (v : V), x = .ref a ∧ H1 a = some (exo a C (some dx)) ∧ H1 dx = some (exd dx fs) ∧ XfC K C ∧ PySem.W.findIn K (.ref C) f = some none ∧ fs.lookup f = some v ∧ Q v H1
theorem pe_xa {te : TE} {n : Str} (he : PE X e te) (hb : attributeBase e n X.env (eval e X.env) = eval e X.env := by rfl) : PE X (.Attribute e n pos) (tXa X.K n te) := by
  refine ⟨fun pins s σ H Q I h => ?_⟩
  refine attr_of hb (thn (he.run pins s σ H _ I h) fun u s1 hh => ?_)
  obtain ⟨x, H1, I1, rx, a, C, dx, fs, v, ex, ea, ed, T, hno, l, q⟩ := hh
  subst ex
  obtain rfl : u = Value.ref a := rx
  obtain ⟨t1, ho⟩ := exo_at I1.hok ea
  obtain ⟨mA, hns, hr⟩ := exd_at I1.hok ed
  obtain ⟨od, ho2, ln1⟩ := lookIn_ns hns
  obtain ⟨u, hu, ru⟩ := RelO.some_of (v := v) (o := mA n) (by rw [← l]; exact hr n)
  have J : PySem.W.InstAt s1.heap a _ C (some od) := ⟨ho, rfl, rfl, ho2⟩
  exact HandSPX.exc_get I1.kIn J T.ga T.gg T.exC (PySem.W.findObj_own T.hdC hno rfl (by rw [ln1, hu])) (handed_of ru) ⟨v, H1, I1.tok _, ru, q⟩
end
theorem ix_listK {X : Cx} {K : PySem.W.Frag} (h : X.K = K) : IxR X (rIxL K) := by
  subst h
  exact ix_list
theorem ix_tupK {X : Cx} {K : PySem.W.Frag} (h : X.K = K) : IxR X (rIxT K) := by
  subst h
  exact ix_tup
/-! several except clauses, some with names -/
/-- what is behind a suite with (slot i) or without a name -/
def goneD (oi : Option Nat) (D : Ends) : Ends := match oi with
  | none => D
  | some i => { nx := fun σ' H' => D.nx (σ'.set i none) H', rt := D.rt, bk := fun σ' H' => D.bk (σ'.set i none) H', ct := fun σ' H' => D.ct (σ'.set i none) H' }
def hadS (oi : Option Nat) (a : Addr) (σ : St) : St := match oi with
  | none => σ
  | some i => σ.set i (some (.ref a))
def wManyN (K : PySem.W.Frag) (Wout : WX) (D : Ends) : List (Value × Option Nat × (Addr → Value → Option Addr → TS)) → WX
  | [] => Wout
  | (c, oi, ts) :: r => fun cls d σ H => ∃ b, PySem.W.exmOne K cls c = some b ∧ (b = true → ∀ a, H a = none → ts a cls d (goneD oi D) (hadS oi a σ) H) ∧ (b = false → wManyN K Wout D r cls d σ H)
inductive HdsN (X : Cx) : List ExceptHandler → List (Value × Option Nat × (Addr → Value → Option Addr → TS)) → Prop
  | nil : HdsN X [] []
  | cons {x : Str} {c : Value} {ts : Addr → Value → Option Addr → TS} {b₀ : Stmt} {suite : List Stmt} {np pos' : Pos} {hds : List ExceptHandler} {l : List (Value × Option Nat × (Addr → Value → Option Addr → TS))} (hc : Names X x c)
      (hsu : ∀ (a : Addr) (oe : Obj) (cls : Value) (d : Option Addr) (pn : List (Addr × Obj)), Zc cls d oe → (∃ vs, oe.data = .fields vs) → PSs (X.suite a ((a, oe) :: pn)) (b₀ :: suite) (ts a cls d)) (r : HdsN X hds l) :
      HdsN X (.ExceptHandler (some (.Name x np)) none (b₀ :: suite) pos' :: hds) ((c, none, ts) :: l)
  | consN {x n : Str} {i : Nat} {c : Value} {ts : Addr → Value → Option Addr → TS} {b₀ : Stmt} {suite : List Stmt} {np pos' : Pos} {hds : List ExceptHandler} {l : List (Value × Option Nat × (Addr → Value → Option Addr → TS))} (hN : X.N.Nodup) (hi : X.N[i]? = some n) (hln : X.env.kindOf n = some .local) (hc : Names X x c)
      (hsu : ∀ (a : Addr) (oe : Obj) (cls : Value) (d : Option Addr) (pn : List (Addr × Obj)), Zc cls d oe → (∃ vs, oe.data = .fields vs) → PSs (X.suite a ((a, oe) :: pn)) (b₀ :: suite) (ts a cls d)) (r : HdsN X hds l) :
      HdsN X (.ExceptHandler (some (.Name x np)) (some n) (b₀ :: suite) pos' :: hds) ((c, some i, ts) :: l)
section
variable {X : Cx} {body : List Stmt} {h₀ : ExceptHandler} {hds : List ExceptHandler} {l : List (Value × Option Nat × (Addr → Value → Option Addr → TS))} {pos : Pos} {tb : WX → TS} {Wout : WX}
theorem ps_try_manyN (hs : X.stack = X.env :: X.outer) (hf : X.env.frame = some X.env.locals) (tk : Takes X Wout)
    (hb : ∀ (W : WX) (pn : List (Addr × Obj)) (xe : Value → Shared → Prop), Takes (X.tr pn xe) W → PassesOwn (model X.prog X.w) X.A X.env xe → PSs (X.tr pn xe) body (tb W))
    (hh : HdsN X (h₀ :: hds) l) : PS X (.Try body (h₀ :: hds) [] [] pos) (fun D σ H => tb (wManyN X.K Wout D l) D σ H) := by
  refine ⟨fun pins s σ H D I h => ?_⟩
  have ok := I.ok
  have frA : X.A.frames = some (X.env :: X.outer) := by rw [ok.frames, hs]
  refine wpAny_Try_except ?_
  refine wpAny_mono ((hb (wManyN X.K Wout D l) (X.pn ++ pins) (fun e s₁ => wpAny (model X.prog X.w) X.A (noteFrame e X.env) (fun _ s₂ => wpAny (model X.prog X.w) X.A (setFlight e none) (fun _ s₃ =>
    wpAny (model X.prog X.w) X.A (handleBy e X.env (h₀ :: hds)) (SP X pins D) X.xe s₃) X.xe s₂) X.xe s₁) (fun u s' xx => ?_) PassesOwn.looking).run [] s σ H D (I.toTry _) h) (fun f s1 back => ?_) (fun e s1 he => he)
  · -- the catch
    obtain ⟨a, B, sI, pins', σ', H', cls, d, rfl, J', nb, up, sky, na, os, ag, w⟩ := xx
    have J : Inv X pins σ' H' sI := J'.ofTry ok
    have skyE : Sky B (X.env :: X.outer) a (Zc cls d) X.env.locals s'.heap := by rw [← hs]; exact sky
    show wpAny (model X.prog X.w) X.A (noteFrame (.ref a) X.env) _ _ _
    refine Sky.land Zc.steady frA hf skyE fun h3 fz3 ut3 => ?_
    have Jn3 : Inv X pins σ' H' { s' with heap := h3 } := J.landed nb fz3.1 (up.trans ut3) os ag
    obtain ⟨ox3, xs3, ob3, zc3, dt3⟩ := fz3.there
    have aside : ∀ {h : Heap} {o : Obj} {vs : Array Value}, h.FunFrames B (X.env :: X.outer) → h.get? a = some o → o.data = .fields vs → a ∉ frs (X.env :: X.outer) := fun {h o vs} ff e dd hm => by
      obtain ⟨_, o', e', hnf⟩ := ff.mem hm
      rw [e] at e'; cases e'
      exact hnf _ dd
    have offF := aside fz3.2.2.1 ob3 dt3
    have offL : a ≠ X.env.locals := fun z => offF (List.mem_filterMap.mpr ⟨X.env, List.mem_cons_self, by rw [hf, z]⟩)
    have offS : a ∉ X.fs := fun hm => by
      obtain ⟨e, he, q⟩ := List.mem_filterMap.mp hm
      exact offF (List.mem_filterMap.mpr ⟨e, List.mem_cons_of_mem _ he, q⟩)
    have In3 := Jn3.suite ob3 dt3 na offL offS
    have go : ∀ {hds' : List ExceptHandler} {l' : List (Value × Option Nat × (Addr → Value → Option Addr → TS))}, HdsN X hds' l' → wManyN X.K Wout D l' cls d σ' H' →
        wpAny (model X.prog X.w) X.A (handleBy (.ref a) X.env hds') (SP X pins D) X.xe { s' with heap := h3 } := by
      intro hds' l' hk
      induction hk with
      | nil =>
        intro w
        refine wpAny_handleBy_nil ?_
        obtain ⟨k1, k2, k3, oe, vs, T, oT, ts', he, hz, hd, h1, hr⟩ := id fz3
        unfold PySem.passOn
        refine wpAny_bind (wpAny_field he hd h1 ?_)
        rw [if_neg (show ¬ ((Value.ref T == Value.none) = true) from by simp)]
        have fin : wpAny (model X.prog X.w) X.A (setFlight (.ref a) X.env.frame) (fun _ s4 => wpAny (model X.prog X.w) X.A (throw (.ref a) : Sem Flow) (SP X pins D) X.xe s4) X.xe { s' with heap := h3 } := by
          rw [hf]
          refine HandSPX.setFlight_upZ fz3 fun h4 hh4 ut4 => wpAny_throw (tk _ _ ?_)
          exact ⟨a, B, sI, pins, σ', H', cls, d, rfl, J, nb, (up.trans ut3).trans ut4, .inr (.inr (by rw [hs]; exact hh4)), na, os, ag, w⟩
        first
          | exact wpAny_bind (wpAny_pure (wpAny_bind fin))
          | exact wpAny_bind fin
      | @cons x c ts b₀ suite np pos' hds2 l2 hc hsu r ih =>
        intro w
        obtain ⟨b, hx1, yes, nay⟩ := w
        refine wpAny_handleBy_cons (codeAny_handlers_test ?_) (by intro q; cases q)
        have lkT : PySem.W.Looks (model X.prog X.w) h3 (typeOf (.ref a)) cls := fun A Q E s k q => wpAny_typeOf_ref (k _ _ ob3) (by rw [zc3.1]; exact q)
        have lkM := PySem.W.exm_one (M := model X.prog X.w) (Jn3.kIn) lkT hx1
        have test : ∀ {Q : Value → Shared → Prop} {E : Value → Shared → Prop}, Q c { s' with heap := h3 } → wpAny (model X.prog X.w) (X.A.mark (some (.ref a))) (eval (.Name x np) X.env) Q E { s' with heap := h3 } := fun {Q E} q => by
          obtain ⟨hg, hdbg, hm | ⟨hm, hv, hnn⟩⟩ := hc
          · exact ld_glob (X := X.suite a ((a, ox3) :: (X.pn ++ pins))) In3 hg hm q hdbg
          · exact ld_blt (X := X.suite a ((a, ox3) :: (X.pn ++ pins))) In3 hg hm hv q hnn hdbg
        refine test (lkM.here ?_)
        cases b with
        | true =>
          refine codeAny_handlers_suite ?_
          refine HandSPX.lands_againZ fz3 fun h4 fz4 ut4 => ?_
          have Jn4 : Inv X pins σ' H' { s' with heap := h4 } := J.landed nb fz4.1 ((up.trans ut3).trans ut4) os ag
          obtain ⟨ox4, xs4, ob4, zc4, dt4⟩ := fz4.there
          have In4 := Jn4.suite ob4 dt4 na offL offS
          refine wpAny_mono ((hsu a ox4 cls d (X.pn ++ pins) zc4 ⟨_, dt4⟩).run [] _ _ H' _ In4 (yes rfl a na)) (fun f t6 back => ?_) (fun _ _ z => False.elim z)
          cases f with
          | next =>
            obtain ⟨σb, Hb, Inb, qb⟩ := back
            exact ⟨_, _, Inb.unsuite ok, qb⟩
          | brk =>
            obtain ⟨σb, Hb, Inb, qb⟩ := back
            exact ⟨_, _, Inb.unsuite ok, qb⟩
          | cont =>
            obtain ⟨σb, Hb, Inb, qb⟩ := back
            exact ⟨_, _, Inb.unsuite ok, qb⟩
          | ret u =>
            obtain ⟨vb, σb, Hb, Inb, rb, qb⟩ := back
            exact ⟨_, _, _, Inb.unsuite ok, rb, qb⟩
        | false =>
          show wpAny _ X.A (handleBy (.ref a) X.env hds2) _ _ _
          exact ih (nay rfl)
      | @consN x n i c ts b₀ suite np pos' hds2 l2 hN hi hln hc hsu r ih =>
        intro w
        obtain ⟨b, hx1, yes, nay⟩ := w
        have hloc : Loc X.env.scope n := .inl hln
        refine wpAny_handleBy_cons (codeAny_handlers_test ?_) (by intro q; cases q)
        have lkT : PySem.W.Looks (model X.prog X.w) h3 (typeOf (.ref a)) cls := fun A Q E s k q => wpAny_typeOf_ref (k _ _ ob3) (by rw [zc3.1]; exact q)
        have lkM := PySem.W.exm_one (M := model X.prog X.w) (Jn3.kIn) lkT hx1
        have test : ∀ {Q : Value → Shared → Prop} {E : Value → Shared → Prop}, Q c { s' with heap := h3 } → wpAny (model X.prog X.w) (X.A.mark (some (.ref a))) (eval (.Name x np) X.env) Q E { s' with heap := h3 } := fun {Q E} q => by
          obtain ⟨hg, hdbg, hm | ⟨hm, hv, hnn⟩⟩ := hc
          · exact ld_glob (X := X.suite a ((a, ox3) :: (X.pn ++ pins))) In3 hg hm q hdbg
          · exact ld_blt (X := X.suite a ((a, ox3) :: (X.pn ++ pins))) In3 hg hm hv q hnn hdbg
        refine test (lkM.here ?_)
        cases b with
        | true =>
          refine codeAny_handlers_suite_as ?_
          refine HandSPX.lands_againZ fz3 fun h4 fz4 ut4 => ?_
          have Jn4 : Inv X pins σ' H' { s' with heap := h4 } := J.landed nb fz4.1 ((up.trans ut3).trans ut4) os ag
          obtain ⟨ox4, xs4, ob4, zc4, dt4⟩ := fz4.there
          have In4 := Jn4.suite ob4 dt4 na offL offS
          refine store_ok (X := X.suite a ((a, ox4) :: (X.pn ++ pins))) (v := .ref a) In4 hN hi hloc rfl (fun t5 In5 => ?_) (.inr hln)
          refine wpAny_mono ((hsu a ox4 cls d (X.pn ++ pins) zc4 ⟨_, dt4⟩).run [] t5 _ H' _ In5 (yes rfl a na)) (fun f t6 back => ?_) (fun _ _ z => False.elim z)
          have gone : ∀ {σb : St} {Hb : Hp} {Q : Shared → Prop}, Inv (X.suite a ((a, ox4) :: (X.pn ++ pins))) [] σb Hb t6 → (∀ s7, Inv X pins (σb.set i none) Hb s7 → Q s7) →
              wpAny (model X.prog X.w) X.A (do bindName X.env n .none; unbindBehindTheSuite X.env n pos') (fun _ s7 => Q s7) X.xe t6 := fun {σb Hb Q} Inb hq => gone_ok (Inb.unsuite ok) hN hi hln hq
          cases f with
          | next =>
            obtain ⟨σb, Hb, Inb, qb⟩ := back
            exact gone Inb fun s7 J7 => ⟨_, _, J7, qb⟩
          | brk =>
            obtain ⟨σb, Hb, Inb, qb⟩ := back
            exact gone Inb fun s7 J7 => ⟨_, _, J7, qb⟩
          | cont =>
            obtain ⟨σb, Hb, Inb, qb⟩ := back
            exact gone Inb fun s7 J7 => ⟨_, _, J7, qb⟩
          | ret u =>
            obtain ⟨vb, σb, Hb, Inb, rb, qb⟩ := back
            exact gone Inb fun s7 J7 => ⟨_, _, _, J7, rb, qb⟩
        | false =>
          show wpAny _ X.A (handleBy (.ref a) X.env hds2) _ _ _
          exact ih (nay rfl)
    exact go hh w
  · cases f with
    | next =>
      obtain ⟨σ', H', J', q⟩ := back
      exact wpAny_execs_nil ⟨σ', H', J'.ofTry ok, q⟩
    | brk =>
      obtain ⟨σ', H', J', q⟩ := back
      exact ⟨σ', H', J'.ofTry ok, q⟩
    | cont =>
      obtain ⟨σ', H', J', q⟩ := back
      exact ⟨σ', H', J'.ofTry ok, q⟩
    | ret u =>
      obtain ⟨v, σ', H', J', r, q⟩ := back
      exact ⟨v, σ', H', J'.ofTry ok, r, q⟩
end
end L2

namespace Pm
/-! ### forms and blocks -/
def form : Nat → List Nat
  | 0 => [0] | 1 => [1, 0] | 2 => [1, 1] | 3 => [1, 2, 1] | 4 => [1, 2, 2] | 5 => [1, 2, 1, 2] | 6 => [1, 2, 3, 2] | _ => [1, 2, 3, 0]
abbrev Bk := Nat × List Nat
structure Blk (ys : List Nat) (b : Bk) : Prop where
  w : b.1 < 8
  len : b.2.length = (form b.1).length
  sh : ∀ k, k < b.2.length → ys.getD (b.2.getD k 0) 0 = b.2.getD ((form b.1).getD k 0) 0
structure Built (ys : List Nat) (bs : List Bk) : Prop where
  blk : ∀ b ∈ bs, Blk ys b
  perm : (bs.flatMap (·.2)).Perm (List.range ys.length)
theorem form_len (w : Nat) : 0 < (form w).length := by
  unfold form
  split <;> decide
theorem form_lt (w k : Nat) (h : k < (form w).length) : (form w).getD k 0 < (form w).length := by
  unfold form at h ⊢
  split at h <;> (simp at h ⊢; rcases k with _ | _ | _ | _ | k <;> simp at h ⊢ <;> omega)
/-- the least of a list -/
def mn : List Nat → Nat
  | [] => 0
  | [a] => a
  | a :: b :: l => min a (mn (b :: l))
theorem mn_mem : ∀ {l : List Nat}, l ≠ [] → mn l ∈ l
  | [], h => absurd rfl h
  | [a], _ => by simp [mn]
  | a :: b :: l, _ => by
    have ih := mn_mem (l := b :: l) (by simp)
    unfold mn
    by_cases h : a ≤ mn (b :: l)
    · rw [Nat.min_eq_left h]; exact List.mem_cons_self ..
    · rw [Nat.min_eq_right (by omega)]; exact List.mem_cons_of_mem _ ih
theorem mn_le : ∀ {l : List Nat} {x : Nat}, x ∈ l → mn l ≤ x
  | [a], x, h => by
    rw [List.mem_singleton.mp h]
    exact Nat.le_refl _
  | a :: b :: l, x, h => by
    unfold mn
    rcases List.mem_cons.mp h with e | h
    · rw [e]; exact Nat.min_le_left _ _
    · exact Nat.le_trans (Nat.min_le_right _ _) (mn_le h)
theorem uniq : ∀ {bs : List Bk} {b c : Bk} {x : Nat}, (bs.flatMap (·.2)).Nodup → b ∈ bs → c ∈ bs → x ∈ b.2 → x ∈ c.2 → b = c
  | a :: bs, b, c, x, nd, hb, hc, xb, xc => by
    rw [List.flatMap_cons, List.nodup_append] at nd
    rcases List.mem_cons.mp hb with e1 | hb
    · rcases List.mem_cons.mp hc with e2 | hc
      · rw [e1, e2]
      · exact absurd rfl (nd.2.2 x (e1 ▸ xb) x (List.mem_flatMap.mpr ⟨c, hc, xc⟩))
    · rcases List.mem_cons.mp hc with e2 | hc
      · exact absurd rfl (nd.2.2 x (e2 ▸ xc) x (List.mem_flatMap.mpr ⟨b, hb, xb⟩))
      · exact uniq nd.2.1 hb hc xb xc
theorem nd_of : ∀ {bs : List Bk} {b : Bk}, (bs.flatMap (·.2)).Nodup → b ∈ bs → b.2.Nodup
  | a :: bs, b, nd, hb => by
    rw [List.flatMap_cons, List.nodup_append] at nd
    rcases List.mem_cons.mp hb with e1 | hb
    · rw [e1]; exact nd.1
    · exact nd_of nd.2.1 hb
def beta (bs : List Bk) (x : Nat) : Nat := match bs.find? (fun b => b.2.contains x) with
  | some b => mn b.2
  | none => x
section
variable {ys : List Nat} {bs : List Bk}
theorem Built.nd (B : Built ys bs) : (bs.flatMap (·.2)).Nodup := B.perm.nodup_iff.mpr List.nodup_range
theorem Built.lt (B : Built ys bs) {b : Bk} (hb : b ∈ bs) {x : Nat} (hx : x ∈ b.2) : x < ys.length :=
  List.mem_range.mp (B.perm.mem_iff.mp (List.mem_flatMap.mpr ⟨b, hb, hx⟩))
theorem Built.of (B : Built ys bs) {x : Nat} (hx : x < ys.length) : ∃ b ∈ bs, x ∈ b.2 := by
  obtain ⟨b, hb, h⟩ := List.mem_flatMap.mp (B.perm.mem_iff.mpr (List.mem_range.mpr hx))
  exact ⟨b, hb, h⟩
theorem Built.beta_of (B : Built ys bs) {b : Bk} (hb : b ∈ bs) {x : Nat} (hx : x ∈ b.2) : beta bs x = mn b.2 := by
  unfold beta
  cases h : bs.find? (fun b => b.2.contains x) with
  | none =>
    have := List.find?_eq_none.mp h b hb
    simp [hx] at this
  | some c =>
    have h1 := List.mem_of_find?_eq_some h
    have h2 := List.find?_some h
    have h3 : x ∈ c.2 := by simpa using h2
    rw [uniq B.nd hb h1 hx h3]
theorem Built.ne (B : Built ys bs) {b : Bk} (hb : b ∈ bs) : b.2 ≠ [] := fun z => by
  have h := (B.blk b hb).len
  have := form_len b.1
  rw [z] at h
  simp at h
  omega
theorem Built.mn_beta (B : Built ys bs) {b : Bk} (hb : b ∈ bs) : beta bs (mn b.2) = mn b.2 := B.beta_of hb (mn_mem (B.ne hb))
theorem Built.beta_le (B : Built ys bs) {x : Nat} (hx : x < ys.length) : beta bs x ≤ x := by
  obtain ⟨b, hb, h⟩ := B.of hx
  rw [B.beta_of hb h]
  exact mn_le h
theorem getD_mem {l : List Nat} {k : Nat} (h : k < l.length) : l.getD k 0 ∈ l := by
  rw [List.getD_eq_getElem?_getD, List.getElem?_eq_getElem h]
  exact List.getElem_mem h
theorem mem_getD {l : List Nat} {x : Nat} (h : x ∈ l) : ∃ k, k < l.length ∧ l.getD k 0 = x := by
  obtain ⟨k, hk, e⟩ := List.getElem_of_mem h
  exact ⟨k, hk, by rw [List.getD_eq_getElem?_getD, List.getElem?_eq_getElem hk]; exact e⟩
/-- what a record shows is of its block -/
theorem Built.shown (B : Built ys bs) {b : Bk} (hb : b ∈ bs) {x : Nat} (hx : x ∈ b.2) : ys.getD x 0 ∈ b.2 := by
  obtain ⟨k, hk, rfl⟩ := mem_getD hx
  have Q := B.blk b hb
  rw [Q.sh k hk]
  exact getD_mem (by rw [Q.len]; exact form_lt _ _ (by rw [← Q.len]; exact hk))
theorem Built.edge (B : Built ys bs) {x : Nat} (hx : x < ys.length) : ys.getD x 0 < ys.length ∧ beta bs (ys.getD x 0) = beta bs x := by
  obtain ⟨b, hb, h⟩ := B.of hx
  have h2 := B.shown hb h
  exact ⟨B.lt hb h2, by rw [B.beta_of hb h, B.beta_of hb h2]⟩
end
/-! ### the labels -/
def stepL (L : List Nat) (r nm : Nat) : List Nat := if min (L.getD r 0) (L.getD nm 0) = max (L.getD r 0) (L.getD nm 0) then L else L.map fun o => if o = max (L.getD r 0) (L.getD nm 0) then min (L.getD r 0) (L.getD nm 0) else o
def lab (ys : List Nat) : Nat → List Nat
  | 0 => List.range ys.length
  | i + 1 => stepL (lab ys i) i (ys.getD i 0)
structure Lab (ys : List Nat) (bs : List Bk) (i : Nat) (L : List Nat) : Prop where
  len : L.length = ys.length
  le : ∀ x, x < ys.length → L.getD x 0 ≤ x
  fx : ∀ x, x < ys.length → L.getD (L.getD x 0) 0 = L.getD x 0
  bl : ∀ x, x < ys.length → beta bs (L.getD x 0) = beta bs x
  ed : ∀ r, r < i → r < ys.length → L.getD r 0 = L.getD (ys.getD r 0) 0
theorem getD_map {L : List Nat} {f : Nat → Nat} {x : Nat} (h : x < L.length) : (L.map f).getD x 0 = f (L.getD x 0) := by
  rw [List.getD_eq_getElem?_getD, List.getElem?_map, List.getD_eq_getElem?_getD, List.getElem?_eq_getElem h]
  rfl
theorem getD_range {n x : Nat} (h : x < n) : (List.range n).getD x 0 = x := by
  rw [List.getD_eq_getElem?_getD, List.getElem?_range h]
  rfl
theorem lab_ok {ys : List Nat} {bs : List Bk} (B : Built ys bs) : ∀ i, i ≤ ys.length → Lab ys bs i (lab ys i)
  | 0, _ => ⟨List.length_range, fun x hx => by show (List.range _).getD x 0 ≤ x; rw [getD_range hx]; exact Nat.le_refl _,
      fun x hx => by show (List.range _).getD ((List.range _).getD x 0) 0 = (List.range _).getD x 0; rw [getD_range hx, getD_range hx],
      fun x hx => by show beta bs ((List.range _).getD x 0) = _; rw [getD_range hx], fun r h => absurd h (Nat.not_lt_zero _)⟩
  | i + 1, hi => by
    have ih := lab_ok B i (by omega)
    have hin : i < ys.length := by omega
    obtain ⟨hnm, hbe⟩ := B.edge hin
    show Lab ys bs (i + 1) (stepL (lab ys i) i (ys.getD i 0))
    generalize lab ys i = L at ih
    generalize hnmE : ys.getD i 0 = nm at hnm hbe
    unfold stepL
    have a1 := ih.fx i hin
    have b1 := ih.fx nm hnm
    have a2 := ih.le i hin
    have b2 := ih.le nm hnm
    have a3 := ih.bl i hin
    have b3 := ih.bl nm hnm
    generalize ha : L.getD i 0 = a at *
    generalize hb : L.getD nm 0 = b at *
    by_cases heq : min a b = max a b
    · rw [if_pos heq]
      refine ⟨ih.len, ih.le, ih.fx, ih.bl, fun r hr hrn => ?_⟩
      by_cases h : r = i
      · rw [h, ha, hnmE, hb]
        omega
      · exact ih.ed r (by omega) hrn
    · rw [if_neg heq]
      have hlow : L.getD (min a b) 0 = min a b := by
        by_cases h : a ≤ b
        · rw [Nat.min_eq_left h]; exact a1
        · rw [Nat.min_eq_right (by omega)]; exact b1
      have hbl : beta bs (min a b) = beta bs (max a b) := by
        by_cases h : a ≤ b
        · rw [Nat.min_eq_left h, Nat.max_eq_right h, a3, b3, hbe]
        · rw [Nat.min_eq_right (by omega), Nat.max_eq_left (by omega), a3, b3, hbe]
      have at_ : ∀ x, x < ys.length → (L.map fun o => if o = max a b then min a b else o).getD x 0 = if L.getD x 0 = max a b then min a b else L.getD x 0 := fun x hx => getD_map (by rw [ih.len]; exact hx)
      have hminlt : min a b < ys.length := by omega
      refine ⟨by rw [List.length_map]; exact ih.len, fun x hx => ?_, fun x hx => ?_, fun x hx => ?_, fun r hr hrn => ?_⟩
      · rw [at_ x hx]
        have := ih.le x hx
        split <;> omega
      · rw [at_ x hx]
        by_cases h : L.getD x 0 = max a b
        · rw [if_pos h, at_ _ hminlt, hlow, if_neg heq]
        · rw [if_neg h]
          have hl := ih.le x hx
          rw [at_ _ (by omega), ih.fx x hx, if_neg h]
      · rw [at_ x hx]
        by_cases h : L.getD x 0 = max a b
        · rw [if_pos h, hbl, ← h]; exact ih.bl x hx
        · rw [if_neg h]; exact ih.bl x hx
      · rw [at_ r hrn, at_ _ (B.edge hrn).1]
        by_cases h : r = i
        · rw [h, ha, hnmE, hb]
          by_cases hab : a ≤ b
          · rw [Nat.min_eq_left hab, Nat.max_eq_right hab]
            by_cases hq : a = b <;> simp [hq]
          · rw [Nat.min_eq_right (by omega), Nat.max_eq_left (by omega)]
            by_cases hq : b = a <;> simp [hq]
        · rw [ih.ed r (by omega) hrn]
theorem conn {w : Nat} {ms : List Nat} {f : Nat → Nat} (hl : ms.length = (form w).length) (h : ∀ k, k < ms.length → f (ms.getD k 0) = f (ms.getD ((form w).getD k 0) 0)) : ∀ k, k < ms.length → f (ms.getD k 0) = f (ms.getD 0 0) := by
  unfold form at hl h
  split at hl
  all_goals (simp only [List.length_cons, List.length_nil] at hl; intro k hk)
  all_goals (have h0 := h 0 (by omega); try have h1 := h 1 (by omega))
  all_goals (try have h2 := h 2 (by omega))
  all_goals (try have h3 := h 3 (by omega))
  all_goals (rcases k with _ | _ | _ | _ | k)
  all_goals first | omega | rfl | (simp at h0 h1 h2 h3 ⊢; omega) | (simp at h0 h1 h2 ⊢; omega) | (simp at h0 h1 ⊢; omega) | (simp at h0 ⊢; omega)
end Pm

namespace Pm
inductive Cs (g : Nat → Nat) : Nat → List Nat → Prop
  | free (a) : g a = a → Cs g 0 [a]
  | pair (a b) : g a = b → g b = a → Cs g 1 [a, b]
  | claim (a b) : g a = b → g b = b → Cs g 2 [a, b]
  | hook (c a b) : g c = a → g a = b → g b = a → Cs g 3 [c, a, b]
  | relay (c a b) : g c = a → g a = b → g b = b → Cs g 4 [c, a, b]
  | clamp (d a b c) : g d = a → g a = b → g b = a → g c = b → Cs g 5 [d, a, b, c]
  | trail (d c a b) : g d = c → g c = a → g a = b → g b = a → Cs g 6 [d, c, a, b]
  | wheel (a b c d) : g a = b → g b = c → g c = d → g d = a → Cs g 7 [a, b, c, d]
theorem Blk.cs {ys : List Nat} {b : Bk} (Q : Blk ys b) : Cs (fun x => ys.getD x 0) b.1 b.2 := by
  obtain ⟨w, ms⟩ := b
  obtain ⟨hw, hl, h⟩ := Q
  dsimp only at hw hl h
  match w, hw with
  | 0, _ => match ms, hl with | [a], _ => exact .free a (by simpa [form] using h 0 (by simp))
  | 1, _ => match ms, hl with | [a, b], _ => exact .pair a b (by simpa [form] using h 0 (by simp)) (by simpa [form] using h 1 (by simp))
  | 2, _ => match ms, hl with | [a, b], _ => exact .claim a b (by simpa [form] using h 0 (by simp)) (by simpa [form] using h 1 (by simp))
  | 3, _ => match ms, hl with | [a, b, c], _ => exact .hook a b c (by simpa [form] using h 0 (by simp)) (by simpa [form] using h 1 (by simp)) (by simpa [form] using h 2 (by simp))
  | 4, _ => match ms, hl with | [a, b, c], _ => exact .relay a b c (by simpa [form] using h 0 (by simp)) (by simpa [form] using h 1 (by simp)) (by simpa [form] using h 2 (by simp))
  | 5, _ => match ms, hl with | [a, b, c, d], _ => exact .clamp a b c d (by simpa [form] using h 0 (by simp)) (by simpa [form] using h 1 (by simp)) (by simpa [form] using h 2 (by simp)) (by simpa [form] using h 3 (by simp))
  | 6, _ => match ms, hl with | [a, b, c, d], _ => exact .trail a b c d (by simpa [form] using h 0 (by simp)) (by simpa [form] using h 1 (by simp)) (by simpa [form] using h 2 (by simp)) (by simpa [form] using h 3 (by simp))
  | 7, _ => match ms, hl with | [a, b, c, d], _ => exact .wheel a b c d (by simpa [form] using h 0 (by simp)) (by simpa [form] using h 1 (by simp)) (by simpa [form] using h 2 (by simp)) (by simpa [form] using h 3 (by simp))
structure Canon (b : Bk) : Prop where
  pair : b.1 = 1 → b.2.getD 0 0 < b.2.getD 1 0
  clamp : b.1 = 5 → b.2.getD 0 0 < b.2.getD 3 0
  wheel : b.1 = 7 → b.2.getD 0 0 = mn b.2
section
variable {ys : List Nat} {bs : List Bk}
theorem lab_end (B : Built ys bs) {x : Nat} (hx : x < ys.length) : (lab ys ys.length).getD x 0 = beta bs x := by
  have Q := lab_ok B ys.length (Nat.le_refl _)
  generalize lab ys ys.length = L at Q ⊢
  obtain ⟨b, hb, hxb⟩ := B.of hx
  have P := B.blk b hb
  have cn := conn (f := fun x => L.getD x 0) P.len fun k hk => by
    show L.getD (b.2.getD k 0) 0 = _
    have hm := B.lt hb (getD_mem hk)
    rw [Q.ed _ hm hm, P.sh k hk]
  have h0 : 0 < b.2.length := List.length_pos_iff.mpr (B.ne hb)
  have same : ∀ y, y ∈ b.2 → L.getD y 0 = L.getD (b.2.getD 0 0) 0 := fun y hy => by
    obtain ⟨k, hk, rfl⟩ := mem_getD hy
    exact cn k hk
  have hmn := mn_mem (B.ne hb)
  have e1 : L.getD x 0 = L.getD (mn b.2) 0 := by rw [same x hxb, same _ hmn]
  have h1 := Q.le (mn b.2) (B.lt hb hmn)
  have h2 := Q.bl x hx
  have h3 := Q.le x hx
  have h4 := B.beta_le (x := L.getD x 0) (by omega)
  have h5 := B.beta_of hb hxb
  omega
def grp (bs : List Bk) (n m : Nat) : List Nat := (List.range n).filter fun x => decide (beta bs x = m)
def roots (bs : List Bk) (n : Nat) : List Nat := (List.range n).filter fun x => decide (beta bs x = x)
theorem nodup_filter {l : List Nat} (p : Nat → Bool) (h : l.Nodup) : (l.filter p).Nodup := h.sublist List.filter_sublist
theorem grp_nd {n m : Nat} : (grp bs n m).Nodup := nodup_filter _ List.nodup_range
theorem grp_lt {n m : Nat} : (grp bs n m).Pairwise (· < ·) := List.Pairwise.filter _ List.pairwise_lt_range
theorem Built.mem_grp (B : Built ys bs) {b : Bk} (hb : b ∈ bs) {x : Nat} : x ∈ grp bs ys.length (mn b.2) ↔ x ∈ b.2 := by
  unfold grp
  rw [List.mem_filter, List.mem_range, decide_eq_true_eq]
  constructor
  · rintro ⟨h1, h2⟩
    obtain ⟨c, hc, hx⟩ := B.of h1
    rw [B.beta_of hc hx] at h2
    have e := uniq B.nd hc hb (x := mn b.2) (by rw [← h2]; exact mn_mem (B.ne hc)) (mn_mem (B.ne hb))
    exact e ▸ hx
  · exact fun h => ⟨B.lt hb h, B.beta_of hb h⟩
theorem Built.grp_perm (B : Built ys bs) {b : Bk} (hb : b ∈ bs) : (grp bs ys.length (mn b.2)).Perm b.2 :=
  (List.perm_ext_iff_of_nodup grp_nd (nd_of B.nd hb)).mpr fun x => B.mem_grp hb
theorem Built.roots_eq (B : Built ys bs) (hs : bs.Pairwise fun a b => mn a.2 < mn b.2) : roots bs ys.length = bs.map fun b => mn b.2 := by
  have s1 : (roots bs ys.length).Pairwise (· < ·) := List.Pairwise.filter _ List.pairwise_lt_range
  have s2 : (bs.map fun b => mn b.2).Pairwise (· < ·) := List.pairwise_map.mpr hs
  refine List.Perm.eq_of_pairwise (le := (· < ·)) (fun a b _ _ h1 h2 => by omega) s1 s2 ?_
  refine (List.perm_ext_iff_of_nodup (s1.imp fun h => by omega) (s2.imp fun h => by omega)).mpr fun x => ?_
  unfold roots
  rw [List.mem_filter, List.mem_range, decide_eq_true_eq, List.mem_map]
  constructor
  · rintro ⟨h1, h2⟩
    obtain ⟨b, hb, hx⟩ := B.of h1
    exact ⟨b, hb, by rw [← h2, B.beta_of hb hx]⟩
  · rintro ⟨b, hb, rfl⟩
    exact ⟨B.lt hb (mn_mem (B.ne hb)), B.mn_beta hb⟩
/-! ### one group's row -/
def path (b : Bk) : List Nat := if b.1 = 5 then b.2.take 3 else b.2
theorem filter_one {l : List Nat} {q : Nat → Bool} {x : Nat} (nd : l.Nodup) (hx : x ∈ l) (h1 : q x = true) (h2 : ∀ y ∈ l, q y = true → y = x) : l.filter q = [x] := by
  have nd2 := nodup_filter q nd
  have m : ∀ y, y ∈ l.filter q ↔ y = x := fun y => by
    rw [List.mem_filter]
    exact ⟨fun h => h2 y h.1 h.2, fun h => by rw [h]; exact ⟨hx, h1⟩⟩
  match hl : l.filter q with
  | [] => exact absurd ((m x).mpr rfl) (by rw [hl]; simp)
  | [a] => rw [(m a).mp (by rw [hl]; simp)]
  | a :: b :: r =>
    rw [hl] at nd2 m
    have ea := (m a).mp (by simp)
    have eb := (m b).mp (by simp)
    simp [ea, eb] at nd2
theorem mn_sing {a : Nat} : mn [a] = a := rfl
/-- the walk of a form -/
structure Walks (g : Nat → Nat) (p : List Nat) : Prop where
  pos : 0 < p.length
  nd : p.Nodup
  next : ∀ j, j + 1 < p.length → g (p.getD j 0) = p.getD (j + 1) 0
  back : g (p.getD (p.length - 1) 0) ∈ p
theorem Built.walks (B : Built ys bs) {b : Bk} (hb : b ∈ bs) : Walks (fun x => ys.getD x 0) (path b) := by
  have nd := nd_of B.nd hb
  have C := (B.blk b hb).cs
  obtain ⟨w, ms⟩ := b
  dsimp only at C nd
  unfold path
  dsimp only
  generalize (fun x => ys.getD x 0) = g at C
  cases C
  all_goals (simp at nd ⊢)
  all_goals (refine ⟨by simp, by simp; try simp [nd], fun j hj => ?_, by simp [*]⟩)
  all_goals (rcases j with _ | _ | _ | _ | j)
  all_goals first | (simp at hj; done) | (simp [*]; done) | (simp at hj ⊢; omega) | skip
theorem Built.left (B : Built ys bs) {b : Bk} (hb : b ∈ bs) : path b ++ (grp bs ys.length (mn b.2)).filter (fun x => !(path b).contains x) = b.2 := by
  have nd := nd_of B.nd hb
  have C := (B.blk b hb).cs
  have M : ∀ x, x ∈ grp bs ys.length (mn b.2) ↔ x ∈ b.2 := fun x => B.mem_grp hb
  have N : (grp bs ys.length (mn b.2)).Nodup := grp_nd
  generalize grp bs ys.length (mn b.2) = l at M N
  by_cases h5 : b.1 = 5
  · obtain ⟨w, ms⟩ := b
    dsimp only at h5 C nd M ⊢
    subst h5
    cases C
    rename_i d a b c h1 h2 h3 h4
    unfold path
    simp at nd ⊢
    rw [filter_one (x := c) N (by rw [M]; simp) (by simp; omega) fun y hy hq => ?_]
    rw [M] at hy
    simp at hy hq
    omega
  · unfold path
    rw [if_neg h5]
    have e : l.filter (fun x => !b.2.contains x) = [] := by
      rw [List.filter_eq_nil_iff]
      intro x hx
      have := (M x).mp hx
      simp [this]
    rw [e, List.append_nil]
/-- where the walk starts: at the first record that no other of the group shows, or at the first one -/
theorem Built.start (B : Built ys bs) {b : Bk} (hb : b ∈ bs) (K : Canon b) (T : List Nat)
    (hT : T = (grp bs ys.length (mn b.2)).filter (fun x => !((grp bs ys.length (mn b.2)).map fun y => ys.getD y 0).contains x)) :
    (T = [] → (grp bs ys.length (mn b.2)).head? = some (b.2.getD 0 0)) ∧ (T ≠ [] → T.head? = some (b.2.getD 0 0)) := by
  have nd := nd_of B.nd hb
  have C := (B.blk b hb).cs
  have M : ∀ x, x ∈ grp bs ys.length (mn b.2) ↔ x ∈ b.2 := fun x => B.mem_grp hb
  have sh : ∀ x, ((grp bs ys.length (mn b.2)).map fun y => ys.getD y 0).contains x = (b.2.map fun y => ys.getD y 0).contains x := fun x => by
    rw [Bool.eq_iff_iff, List.contains_iff_mem, List.contains_iff_mem, List.mem_map, List.mem_map]
    exact ⟨fun ⟨y, hy, e⟩ => ⟨y, (M y).mp hy, e⟩, fun ⟨y, hy, e⟩ => ⟨y, (M y).mpr hy, e⟩⟩
  have hT2 : T = (List.range ys.length).filter fun x => decide (beta bs x = mn b.2) && !(b.2.map fun y => ys.getD y 0).contains x := by
    rw [hT]
    unfold grp
    rw [List.filter_filter]
    refine List.filter_congr fun x hx => ?_
    have := sh x
    unfold grp at this
    rw [this, Bool.and_comm]
  have inB : ∀ x, x < ys.length → (decide (beta bs x = mn b.2) = true ↔ x ∈ b.2) := fun x hx => by
    rw [← M x]
    unfold grp
    rw [List.mem_filter, List.mem_range]
    exact ⟨fun h => ⟨hx, h⟩, fun h => h.2⟩
  have root : b.2.getD 0 0 = mn b.2 → (grp bs ys.length (mn b.2)).head? = some (b.2.getD 0 0) := fun e => by
    unfold grp
    rw [List.head?_filter, List.find?_range_eq_some, e]
    refine ⟨by rw [decide_eq_true_eq]; exact B.mn_beta hb, List.mem_range.mpr (B.lt hb (mn_mem (B.ne hb))), fun j hj => ?_⟩
    have hjn : j < ys.length := Nat.lt_trans hj (B.lt hb (mn_mem (B.ne hb)))
    have := B.beta_le hjn
    simp
    omega
  have tail : ∀ m0 : Nat, m0 ∈ b.2 → (b.2.map fun y => ys.getD y 0).contains m0 = false → (∀ j, j < m0 → j ∈ b.2 → (b.2.map fun y => ys.getD y 0).contains j = true) → T.head? = some m0 := fun m0 h1 h2 h3 => by
    rw [hT2, List.head?_filter, List.find?_range_eq_some]
    refine ⟨by rw [h2, (inB m0 (B.lt hb h1)).mpr h1]; rfl, List.mem_range.mpr (B.lt hb h1), fun j hj => ?_⟩
    have hjn : j < ys.length := Nat.lt_trans hj (B.lt hb h1)
    by_cases hjb : j ∈ b.2
    · rw [h3 j hj hjb]
      simp
    · have : decide (beta bs j = mn b.2) = false := by
        cases h : decide (beta bs j = mn b.2) with
        | false => rfl
        | true => exact absurd ((inB j hjn).mp h) hjb
      rw [this]
      rfl
  have none : (∀ x ∈ b.2, (b.2.map fun y => ys.getD y 0).contains x = true) → T = [] := fun h => by
    rw [hT2, List.filter_eq_nil_iff]
    intro x hx
    have hxn := List.mem_range.mp hx
    by_cases hxb : x ∈ b.2
    · rw [h x hxb]
      simp
    · intro z
      rw [Bool.and_eq_true] at z
      exact hxb ((inB x hxn).mp z.1)
  obtain ⟨w, ms⟩ := b
  dsimp only at *
  generalize hg : (fun y => ys.getD y 0) = g at C tail none
  clear hT hT2 sh
  cases C with
  | free a h1 =>
    have t := none (by simp [h1])
    exact ⟨fun _ => root rfl, fun h => absurd t h⟩
  | pair a b h1 h2 =>
    have t := none (by simp [h1, h2])
    have := K.pair rfl
    simp at this
    exact ⟨fun _ => root (by simp [mn]; omega), fun h => absurd t h⟩
  | wheel a b c d h1 h2 h3 h4 =>
    have t := none (by simp [h1, h2, h3, h4])
    exact ⟨fun _ => root (K.wheel rfl), fun h => absurd t h⟩
  | claim a b h1 h2 =>
    simp at nd
    have t := tail a (by simp) (by simp [h1, h2]; omega) (fun j hj hm => by simp at hm; simp [h1, h2]; omega)
    exact ⟨fun h => (by rw [h] at t; simp at t), fun _ => t⟩
  | hook c a b h1 h2 h3 =>
    simp at nd
    have t := tail c (by simp) (by simp [h1, h2, h3]; omega) (fun j hj hm => by simp at hm; simp [h1, h2, h3]; omega)
    exact ⟨fun h => (by rw [h] at t; simp at t), fun _ => t⟩
  | relay c a b h1 h2 h3 =>
    simp at nd
    have t := tail c (by simp) (by simp [h1, h2, h3]; omega) (fun j hj hm => by simp at hm; simp [h1, h2, h3]; omega)
    exact ⟨fun h => (by rw [h] at t; simp at t), fun _ => t⟩
  | clamp d a b c h1 h2 h3 h4 =>
    simp at nd
    have kk := K.clamp rfl
    simp at kk
    have t := tail d (by simp) (by simp [h1, h2, h3, h4]; omega) (fun j hj hm => by simp at hm; simp [h1, h2, h3, h4]; omega)
    exact ⟨fun h => (by rw [h] at t; simp at t), fun _ => t⟩
  | trail d c a b h1 h2 h3 h4 =>
    simp at nd
    have t := tail d (by simp) (by simp [h1, h2, h3, h4]; omega) (fun j hj hm => by simp at hm; simp [h1, h2, h3, h4]; omega)
    exact ⟨fun h => (by rw [h] at t; simp at t), fun _ => t⟩
end
end Pm

namespace L2
open PySem PySem.Spec PyProof.Rows
/-! ### a table of the text keyed by tuples of ints -/
def numK (ks : List Nat) : NestedKey := .tup (ks.map fun k : Nat => NestedKey.num (k : Int))
/-- at a, in the written part: a table of the given keys and texts -/
def TabK (P : Program) (w : World) (K : PySem.W.Frag) (a : Addr) (kvs : List (List Nat × Str)) : Prop := (a == sysModules) = false ∧
  ∃ ts : List Tok, ∀ h : Heap, K.In h → h.DictKeyed (nestedKind P w) a ((kvs.zip ts).map fun x => (numK x.1.1, Value.str x.1.2 x.2)) ∧ ts.length = kvs.length
theorem numK_depth : ∀ ks : List Nat, (numK ks).depth ≤ 8 := fun ks => by
  have h : ∀ l : List Nat, NestedKey.depthAll (l.map fun k : Nat => NestedKey.num (k : Int)) ≤ 1 := fun l => by
    induction l with
    | nil => simp [NestedKey.depthAll]
    | cons a l ih =>
      simp only [List.map_cons, NestedKey.depthAll, NestedKey.depth]
      omega
  have := h ks
  unfold numK
  simp only [NestedKey.depth]
  omega
theorem numAll_of {h : Heap} : ∀ {ks : List Nat} {us : List Value}, Vals (ks.map fun k : Nat => V.int (k : Int)) us → NestedAll h (ks.map fun k : Nat => NestedKey.num (k : Int)) us
  | [], _, r => by cases r; exact .nil
  | k :: ks, _, r => by
    cases r with
    | cons r1 r2 =>
      obtain ⟨t, e⟩ := r1
      rw [e]
      exact .cons (.int _ t) (numAll_of r2)
/-- d.get(t) of such a table, the key there -/
def tTabGet (P : Program) (w : World) (K : PySem.W.Frag) (td te : TE) : TE := fun σ H Q => td σ H fun x H1 => ∃ (a : Addr) (kvs : List (List Nat × Str)), x = .ref a ∧ TabK P w K a kvs ∧ te σ H1 fun y H2 => ∃ (p : Addr) (ks : List Nat) (z : Str), y = .ref p ∧ H2 p = some (.tup (ks.map fun k : Nat => V.int (k : Int))) ∧
  (∃ i, kvs[i]? = some (ks, z) ∧ ∀ (j : Nat) (q : List Nat × Str), j < i → kvs[j]? = some q → q.1 ≠ ks) ∧ Q (.str z) H2
theorem numK_inj {a b : List Nat} (h : numK a = numK b) : a = b := by
  unfold numK at h
  injection h with h
  have g : ∀ {l m : List Nat}, (l.map fun k : Nat => NestedKey.num (k : Int)) = (m.map fun k : Nat => NestedKey.num (k : Int)) → l = m := by
    intro l
    induction l with
    | nil =>
      intro m e
      cases m with
      | nil => rfl
      | cons _ _ => cases e
    | cons a l ih =>
      intro m e
      cases m with
      | nil => cases e
      | cons b m =>
        rw [List.map_cons, List.map_cons] at e
        injection e with e1 e2
        injection e1 with e1
        have : a = b := by omega
        rw [this, ih e2]
  exact g h
theorem tab_find {ks : List Nat} {z : Str} : ∀ {kvs : List (List Nat × Str)} {ts : List Tok} {i : Nat}, ts.length = kvs.length → kvs[i]? = some (ks, z) → (∀ (j : Nat) (q : List Nat × Str), j < i → kvs[j]? = some q → q.1 ≠ ks) →
    ∃ t : Tok, valueAt ((kvs.zip ts).map fun x => (numK x.1.1, Value.str x.1.2 x.2)) (numK ks) = some (Value.str z t)
  | [], _, i, _, h, _ => by simp at h
  | _ :: _, [], _, hl, _, _ => by simp at hl
  | (k0, z0) :: kvs, t0 :: ts, 0, _, h, _ => by
    have e := Option.some.inj h
    cases e
    exact ⟨t0, by simp [valueAt]⟩
  | (k0, z0) :: kvs, t0 :: ts, i + 1, hl, h, hn => by
    have ne : k0 ≠ ks := hn 0 (k0, z0) (Nat.succ_pos _) rfl
    have ne2 : ¬ numK k0 = numK ks := fun e => ne (numK_inj e)
    obtain ⟨t, e⟩ := tab_find (ks := ks) (z := z) (kvs := kvs) (ts := ts) (i := i) (by simpa using hl) (by simpa using h) fun j q hj hq => hn (j + 1) q (by omega) (by simpa using hq)
    refine ⟨t, ?_⟩
    unfold valueAt at e ⊢
    rw [List.zip_cons_cons, List.map_cons, List.find?_cons_of_neg (by simpa using ne2)]
    exact e
theorem pe_tabGet {X : Cx} {o e : Expr} {td te : TE} {apos cpos : Pos} (hu : X.A.units + 64 < cLine) (ho : PE X o td) (he : PE X e te) (m : M1 X o "get" apos e cpos) : PE X (.Call (.Attribute o "get" apos) [e] [] cpos) (tTabGet X.prog X.w X.K td te) := by
  refine ⟨fun pins s σ H Q I h => ?_⟩
  refine wpAny_Call_method m.base m.few m.line PySem.F.plainAttrs_dict PySem.F.slot_dict_get PySem.F.type_dict_get (thn (ho.run pins s σ H _ I h) fun u s1 ⟨x, H1, I1, rx, a, kvs, ex, ⟨hsm, ts, hT⟩, q1⟩ => ?_)
  subst ex
  obtain rfl : u = Value.ref a := rx
  obtain ⟨hD, _⟩ := hT _ I1.kIn
  have hD' := hD
  obtain ⟨xs, ⟨ob, es, ep, hob, hcl, hdat, _⟩, _⟩ := hD'
  refine ⟨hD.typeIs, fun b q => by cases q; exact ⟨ob, hob, hcl.2.1⟩, ?_⟩
  rw [m.trees]
  refine Calls.callWith_builtin rfl (Calls.evalArgs_plain (Calls.spliced_cons (thn (he.run pins s1 σ H1 _ I1 q1) fun iv s2 ⟨y, H2, I2, ry, p, ks, z, ey, hp, ⟨i, hi, hlt⟩, q2⟩ => Calls.spliced_nil ?_)))
  subst ey
  obtain rfl : iv = Value.ref p := ry
  obtain ⟨_, its, rv, ot, h1, h2, n, h3⟩ := (show ObjOk X.prog X.w H2 s2.heap p (.tup (ks.map fun k : Nat => V.int (k : Int))) from I2.hok p _ hp)
  obtain ⟨hD2, hlen⟩ := hT _ I2.kIn
  obtain ⟨t, ht⟩ := tab_find hlen hi hlt
  have hk : (nestedKind X.prog X.w).is s2.heap (numK ks) p := ⟨.tup h1 h2 h3 (by simpa using numAll_of (h := s2.heap) rv), numK_depth ks⟩
  refine get_keyed (knd := nestedKind X.prog X.w) (show X.A.in1.units + 8 < cLine by show X.A.units + 1 + 8 < cLine; omega) hk hsm hD2 ?_
  rw [ht]
  exact ⟨.str z, H2, I2.tok _, ⟨t, rfl⟩, q2⟩
/-! ### list(d.values()), list(d.keys()) -/
def tListVals (te : TE) : TE := fun σ H Q => te σ H fun x H1 => ∃ (d : Addr) (kvs : List (Key × V)), x = .ref d ∧ H1 d = some (.dK kvs) ∧ ∀ p, H1 p = none → Q (.ref p) (upd H1 p (.lst (kvs.map (·.2))))
def tListKeys (te : TE) : TE := fun σ H Q => te σ H fun x H1 => ∃ (d : Addr) (kvs : List (Key × V)), x = .ref d ∧ H1 d = some (.dK kvs) ∧ ∀ p, H1 p = none → Q (.ref p) (upd H1 p (.lst (kvs.map fun kv => kV kv.1)))
theorem vals_items {P : Nat → Value → Prop} : ∀ {xs : List V} {us : List Value} (k : Nat), us.length = xs.length → (∀ j v, us[j]? = some v → P (k + j) v) → (∀ j x v, xs[j]? = some x → P (k + j) v → RelV x v) → Vals xs us
  | [], [], _, _, _, _ => .nil
  | [], _ :: _, _, h, _, _ => by simp at h
  | _ :: _, [], _, h, _, _ => by simp at h
  | x :: xs, u :: us, k, h, h1, h2 => .cons (h2 0 x u rfl (h1 0 u rfl)) (vals_items (P := P) (k + 1) (by simpa using h) (fun j v e => by
      have := h1 (j + 1) v (by simpa using e)
      rw [show k + (j + 1) = k + 1 + j by omega] at this
      exact this) fun j y v e p => h2 (j + 1) y v (by simpa using e) (by rw [show k + (j + 1) = k + 1 + j by omega]; exact p))
section
variable {X : Cx} {e : Expr} {te : TE} {p apos cpos pos : Pos}
theorem pe_listVals (hc : X.calm = true) (he : PE X e te) (hg : Gl X "list") (hm : X.mg "list" = none) (hbase : attributeBase e "values" X.env (eval e X.env) = eval e X.env := by rfl) (hline : (apos.endLine == cpos.line) = true := by rfl)
    (hs : starEach [.Call (.Attribute e "values" apos) [] [] cpos] X.env = (false, eval (.Call (.Attribute e "values" apos) [] [] cpos) X.env) :: starEach [] X.env := by rfl) :
    PE X (.Call (.Name "list" p) [.Call (.Attribute e "values" apos) [] [] cpos] [] pos) (tListVals te) := by
  refine ⟨fun pins s σ H Q I hq => ?_⟩
  refine wpAny_Call_Name_kw (ld_blt I hg hm (by decide +kernel : bootBuiltins "list" = some (.type "list")) ?_)
  refine PyProof.Rows.callWith_type1 ?_ hs rfl
  rw [hs]
  show wpAny _ _ (spliced ((false, eval (.Call (.Attribute e "values" apos) [] [] cpos) X.env) :: backTo pos (starEach [] X.env))) _ _ s
  refine Calls.spliced_cons ?_
  refine wpAny_Call_method (T := "dict") (id := "dict.values") hbase rfl hline F.plainAttrs_dict F.slot_dict_values F.type_dict_values (thn (he.run pins s σ H _ I hq) fun u s1 ⟨x, H1, I1, rx, d, kvs, ex, hd, q⟩ => ?_)
  subst ex
  obtain rfl : u = Value.ref d := rx
  obtain ⟨hz, hs0, vs, kv, hdo⟩ := I1.hok d _ hd
  obtain ⟨ep, hat⟩ := hdo.dictAt
  have lk : kvs.length = vs.length := Paired.length kv
  refine ⟨hdo.typeIs, hdo.mapOf.noDict, ?_⟩
  show wpAny _ _ (callWith cpos (.builtin "dict.values") [.ref d] [] []) _ X.xe s1
  refine method_meetsIn F.slot_dict_values F.entry_dict_values rfl (PySem.evalArgs_none ⟨rfl, hdo.typeIs, F.args_dict_values_1 _, _, meets_dict_values (mixKind X.prog X.w) d hs0, ⟨vs, hdo⟩, ?_⟩)
  refine Calls.spliced_nil ?_
  refine PySem.W.kdl_call (PySem.W.kdl_values (knd := mixKind X.prog X.w) (kvs := vs) (ep := ep) (r := s1.heap.objs.size)) (I1.ok.hd hc) ⟨⟨_, Heap.get?_push_size _ rfl, rfl, rfl⟩, hat.push _⟩ (by omega) fun h' tk acc c hk hS hI => ?_
  have keep : ∀ b o, s1.heap.get? b = some o → h'.get? b = some o := fun b o z => hk b o (Heap.get?_push_of_some _ z)
  have hl : acc.toList.length = (kvs.map (·.2)).length := by rw [Array.length_toList, List.length_map, hI.1]; omega
  have rv : Vals (kvs.map (·.2)) acc.toList := vals_items (P := fun i v => ∃ k, vs[i]? = some (k, v)) 0 hl (fun j v z => by rw [Nat.zero_add]; exact hI.2 j v (by rw [← Array.getElem?_toList]; exact z)) fun j y v z ⟨k, w'⟩ => by
    rw [Nat.zero_add] at w'
    obtain ⟨q0, g1, g2⟩ : ∃ q0, kvs[j]? = some q0 ∧ y = q0.2 := by
      rw [List.getElem?_map] at z
      cases h : kvs[j]? with
      | none => rw [h] at z; cases z
      | some q0 => rw [h] at z; exact ⟨q0, rfl, (Option.some.inj z).symm⟩
    obtain ⟨pk, e2, e3⟩ := LiI.paired_get kv g1
    rw [w'] at e2
    cases e2
    rw [g2]
    exact e3.2
  refine ⟨.ref _, upd H1 _ (.lst (kvs.map (·.2))), I1.laid (t' := tk) keep (Nat.le_succ _ |> fun z => by rw [Heap.size_push]; exact z) ⟨by rw [List.length_map]; omega, acc.toList, c, rv, by simpa using hS⟩, rfl, q _ (I1.hok.fresh (by rw [Heap.size_push]; exact Nat.le_succ _))⟩
theorem pe_listKeys (hc : X.calm = true) (he : PE X e te) (hg : Gl X "list") (hm : X.mg "list" = none) (hbase : attributeBase e "keys" X.env (eval e X.env) = eval e X.env := by rfl) (hline : (apos.endLine == cpos.line) = true := by rfl)
    (hs : starEach [.Call (.Attribute e "keys" apos) [] [] cpos] X.env = (false, eval (.Call (.Attribute e "keys" apos) [] [] cpos) X.env) :: starEach [] X.env := by rfl) :
    PE X (.Call (.Name "list" p) [.Call (.Attribute e "keys" apos) [] [] cpos] [] pos) (tListKeys te) := by
  refine ⟨fun pins s σ H Q I hq => ?_⟩
  refine wpAny_Call_Name_kw (ld_blt I hg hm (by decide +kernel : bootBuiltins "list" = some (.type "list")) ?_)
  refine PyProof.Rows.callWith_type1 ?_ hs rfl
  rw [hs]
  show wpAny _ _ (spliced ((false, eval (.Call (.Attribute e "keys" apos) [] [] cpos) X.env) :: backTo pos (starEach [] X.env))) _ _ s
  refine Calls.spliced_cons ?_
  refine wpAny_Call_method (T := "dict") (id := "dict.keys") hbase rfl hline F.plainAttrs_dict F.slot_dict_keys F.type_dict_keys (thn (he.run pins s σ H _ I hq) fun u s1 ⟨x, H1, I1, rx, d, kvs, ex, hd, q⟩ => ?_)
  subst ex
  obtain rfl : u = Value.ref d := rx
  obtain ⟨hz, hs0, vs, kv, hdo⟩ := I1.hok d _ hd
  obtain ⟨ep, hat⟩ := hdo.dictAt
  have lk : kvs.length = vs.length := Paired.length kv
  refine ⟨hdo.typeIs, hdo.mapOf.noDict, ?_⟩
  show wpAny _ _ (callWith cpos (.builtin "dict.keys") [.ref d] [] []) _ X.xe s1
  refine method_meetsIn F.slot_dict_keys F.entry_dict_keys rfl (PySem.evalArgs_none ⟨rfl, hdo.typeIs, F.args_dict_keys_1 _, _, PySem.W.kdl_meets_keys (mixKind X.prog X.w) d hs0, ⟨vs, hdo⟩, ?_⟩)
  refine Calls.spliced_nil ?_
  refine PySem.W.kdl_call (PySem.W.kdl_keys (knd := mixKind X.prog X.w) (kvs := vs) (ep := ep) (r := s1.heap.objs.size)) (I1.ok.hd hc) ⟨⟨_, Heap.get?_push_size _ rfl, rfl, rfl⟩, hat.push _⟩ (by omega) fun h' tk acc c hk hS hI => ?_
  have keep : ∀ b o, s1.heap.get? b = some o → h'.get? b = some o := fun b o z => hk b o (Heap.get?_push_of_some _ z)
  have hl : acc.toList.length = (kvs.map fun kv => kV kv.1).length := by rw [Array.length_toList, List.length_map, hI.1]; omega
  have rv : Vals (kvs.map fun kv => kV kv.1) acc.toList := vals_items (P := fun i v => ∃ k x, vs[i]? = some (k, x) ∧ (mixKind X.prog X.w).is k v = true) 0 hl (fun j v z => by rw [Nat.zero_add]; exact hI.2 j v (by rw [← Array.getElem?_toList]; exact z)) fun j y v z ⟨k, x, w', w2⟩ => by
    rw [Nat.zero_add] at w'
    obtain ⟨q0, g1, g2⟩ : ∃ q0, kvs[j]? = some q0 ∧ y = kV q0.1 := by
      rw [List.getElem?_map] at z
      cases h : kvs[j]? with
      | none => rw [h] at z; cases z
      | some q0 => rw [h] at z; exact ⟨q0, rfl, (Option.some.inj z).symm⟩
    obtain ⟨pk, e2, e3⟩ := LiI.paired_get kv g1
    rw [w'] at e2
    cases e2
    rw [g2]
    rw [e3.1]
    exact relV_key (show keyIs k v = true from w2)
  refine ⟨.ref _, upd H1 _ (.lst (kvs.map fun kv => kV kv.1)), I1.laid (t' := tk) keep (Nat.le_succ _ |> fun z => by rw [Heap.size_push]; exact z) ⟨by rw [List.length_map]; omega, acc.toList, c, rv, by simpa using hS⟩, rfl, q _ (I1.hok.fresh (by rw [Heap.size_push]; exact Nat.le_succ _))⟩
end
end L2

namespace SrtO
open PySem PyProof.Rows PySem.W
/-- a tuple of two ints and an object -/
def IsRow (h : Heap) (v : Value) (x : Int) : Prop := ∃ a o t y u c n, v = .ref a ∧ h.get? a = some o ∧ o.cls = .type "tuple" ∧ o.data = .seq #[.int x t, .int y u, .ref c] n
theorem IsRow.keeps {h h' : Heap} {v : Value} {x : Int} (p : IsRow h v x) (k : ∀ b o, h.get? b = some o → o.cls = .type "tuple" → h'.get? b = some o) : IsRow h' v x := by
  obtain ⟨a, o, t, y, u, c, n, e, ho, hc, hd⟩ := p
  exact ⟨a, o, t, y, u, c, n, e, k _ _ ho hc, hc, hd⟩
theorem row_firsts {h : Heap} : ∀ {vs : List Value}, (∀ v ∈ vs, ∃ x, IsRow h v x) → ∃ fs : List Value, PySem.W.KatTups h vs fs ∧ fs.length = vs.length ∧ ∀ f ∈ fs, ∃ x t, f = Value.int x t
  | [], _ => ⟨[], PySem.W.KatTups.nil, rfl, fun _ hm => by simp at hm⟩
  | v :: vs, hv => by
    obtain ⟨fs, h1, h2, h3⟩ := row_firsts (h := h) (vs := vs) fun w hw => hv w (List.mem_cons_of_mem _ hw)
    obtain ⟨x, a, o, t, y, u, c, n, e, ho, hc, hd⟩ := hv v List.mem_cons_self
    subst e
    refine ⟨.int x t :: fs, .cons ho hc hd rfl h1, by simp [h2], fun f hf => ?_⟩
    rcases List.mem_cons.mp hf with e | hf
    · exact ⟨x, t, e⟩
    · exact h3 f hf
theorem swo_key (k : Value → Int) : Swo fun v u => decide (k v < k u) := by
  refine ⟨fun x y h => ?_, fun x y z h1 h2 => ?_⟩
  · have a := of_decide_eq_true h
    exact decide_eq_false (by omega)
  · have a := of_decide_eq_false h1
    have b := of_decide_eq_false h2
    exact decide_eq_false (by omega)
section
variable {prog : Program} {w : World} {A : Around} {E : Value → Shared → Prop} {s : Shared}
theorem row_cmp {vs : List Value} {k : Value → Int} (hp : ∀ v ∈ vs, IsRow s.heap v (k v)) (hi : ∀ v ∈ vs, ∀ u ∈ vs, k v = k u → v = u) : Cmp prog w A s (tuples' true) (fun p => p.1 ∈ vs) (lt2 fun v u => decide (k v < k u)) := by
  intro p q hm hm'
  have h1 := hp _ hm
  have h2 := hp _ hm'
  have h3 := hi _ hm _ hm'
  show wpAny (model prog w) A (keyLt' (tuples' true) p.1 q.1) (fun r s' => s' = s ∧ r = decide (k p.1 < k q.1)) (fun _ _ => False) s
  generalize k p.1 = x at h1 h3 ⊢
  generalize k q.1 = x' at h2 h3 ⊢
  obtain ⟨a, o, t, y, u, c, n, e, ho, hc, hd⟩ := h1
  obtain ⟨a', o', t', y', u', c', n', e', ho', hc', hd'⟩ := h2
  rw [e, e'] at h3 ⊢
  refine PySem.W.kat_lt ho hd ho' hd' ?_
  show PySem.W.KatLex prog w A true (decide (3 < 3)) _ [(.int x t, .int x' t'), (.int y u, .int y' u'), (.ref c, .ref c')] 0 s
  refine PySem.W.kat_cons (SeqAt.EqAt.int_int x t x' t' prog w _ _ ?_)
  refine PySem.W.kat_go (fun e1 => ?_) (fun e1 => ?_)
  · have ex : x = x' := by simpa using e1
    have ea : a = a' := Value.ref.inj (h3 ex)
    subst ea
    rw [ho] at ho'
    have eo := Option.some.inj ho'
    subst eo
    rw [hd] at hd'
    injection hd' with ed _
    have ey : y = y' := by
      have z := congrArg (fun a : Array Value => a[1]?) ed
      simp at z
      exact z.1
    have ec : c = c' := by
      have z := congrArg (fun a : Array Value => a[2]?) ed
      simpa using z
    subst ec
    refine PySem.W.kat_yes (PySem.W.kat_cons (SeqAt.EqAt.int_int y u y' u' prog w _ _ ?_))
    refine PySem.W.kat_go (fun e2 => ?_) (fun e2 => ?_)
    · refine PySem.W.kat_yes (PySem.W.kat_cons (SeqAt.EqAt.same (.ref c) prog w _ _ ?_))
      refine PySem.W.kat_go (fun _ => ?_) (fun z => nomatch z)
      refine PySem.W.kat_yes (PySem.W.kat_nil ⟨rfl, ?_⟩)
      rw [ex]
      exact (decide_eq_false (by omega)).symm
    · exact absurd ey (by simpa using e2)
  · have ex : ¬ x = x' := by simpa using e1
    exact PySem.W.kat_no (oneLt_int ⟨rfl, rfl⟩)
theorem rows_sortableO {a : Addr} {vs : List Value} {k : Value → Int} (h0 : 0 < vs.length) (hp : ∀ v ∈ vs, IsRow s.heap v (k v)) (hi : ∀ v ∈ vs, ∀ u ∈ vs, k v = k u → v = u) (ha : ∀ o, s.heap.get? a = some o → o.cls ≠ .type "tuple") : SortableO prog w A s a vs fun v u => decide (k v < k u) := by
  intro h' keep
  have hp' : ∀ v ∈ vs, IsRow h' v (k v) := fun v hm => (hp v hm).keeps fun b o e c => keep b o (fun z => by subst z; exact ha o e c) e
  obtain ⟨fs, h1, h2, h3⟩ := row_firsts fun v hm => ⟨_, hp' v hm⟩
  refine ⟨tuples' true, fun Q E hq => ?_, row_cmp hp' hi⟩
  refine PySem.W.kat_kind (T := .type "int") h1 (by omega) (fun f hm => ?_) (by rfl) ?_
  · obtain ⟨x, t, rfl⟩ := h3 f hm
    exact PySem.W.Looks.now
  · have e : (Value.type "int" != Value.type "tuple") = true := by first | decide +kernel | rfl | decide
    rw [e]
    exact hq
theorem sorted_rowsO {l : Addr} {vs : List Value} {k : Value → Int} {Q : Value → Shared → Prop} (hl : s.heap.IsList l vs.toArray) (hz : vs.length ≤ sizeLine) (hp : ∀ v ∈ vs, IsRow s.heap v (k v)) (hi : ∀ v ∈ vs, ∀ u ∈ vs, k v = k u → v = u)
    (h : ∀ (h' : Heap) (d : Addr) (out : List Value), Srtd (fun v u => decide (k v < k u)) out → Stb (fun v u => decide (k v < k u)) out vs → (∀ b o, s.heap.get? b = some o → h'.get? b = some o) → s.heap.objs.size ≤ d → (∃ n, h'.get? d = some (seqObj "list" out.toArray n)) → Q (.ref d) { s with heap := h' }) :
    wpAny (model prog w) A (call (.builtin "sorted") [.ref l]) Q E s := by
  refine sorted_ord (swo_key k) hl hz (fun h2 h₁ a ha kk => ?_) fun out hs hb => ?_
  · refine rows_sortableO (s := { s with heap := h₁ }) (by omega) (fun v hm => (hp v hm).keeps fun b o e _ => (kk b o e).2) hi fun o e => ?_
    have e' : some o = some (seqObj "list" vs.toArray 0) := e.symm.trans ha
    cases e'
    intro c
    exact absurd (Value.type.inj c) (by decide)
  · exact h _ _ out hs hb (fun b o e => sortedAll_old e) (Nat.le_succ _) (sortedAll_at s.heap vs out.toArray)
end
end SrtO
namespace L2
open PySem PySem.Spec PyProof.Rows
def rSortedR (K : PySem.W.Frag) : List V → Hp → VK → Prop := fun vs H Q => ∃ (a : Addr) (rs : List Addr) (k : Addr → Int), vs = [V.ref a] ∧ SqL K H a (rs.map V.ref) ∧ (∀ r ∈ rs, ∃ (y : Int) (c : Addr), H r = some (.tup [.int (k r), .int y, .ref c])) ∧
  (∀ r ∈ rs, ∀ r' ∈ rs, k r = k r' → r = r') ∧ ∀ (rs' : List Addr) (p : Addr), rs'.Perm rs → rs'.Pairwise (fun a b => k a ≤ k b) → H p = none → Q (.ref p) (upd H p (.lst (rs'.map V.ref)))
theorem vals_refs_eq : ∀ {rs : List Addr} {us : List Value}, Vals (rs.map V.ref) us → us = rs.map Value.ref
  | [], _, r => by cases r; rfl
  | a :: rs, _, r => by
    cases r with
    | cons r1 r2 =>
      rw [vals_refs_eq r2]
      cases r1
      rfl
def addrV : Value → Addr
  | .ref a => a
  | _ => 0
theorem cr_sortedR {X : Cx} : CallR X (.builtin "sorted") (rSortedR X.K) := by
  intro pins s σ H vs us Q I r h
  obtain ⟨a, rs, k, rfl, hs, hx, hi, q⟩ := h
  obtain ⟨its, rv, hl, hz⟩ := I.list hs
  obtain ⟨u, rfl, ru⟩ := vals1 r
  obtain rfl : u = Value.ref a := ru
  have ei := vals_refs_eq rv
  subst ei
  refine SrtO.sorted_rowsO (k := fun u => k (addrV u)) hl.isList (by rw [List.length_map] at *; exact hz) (fun v hv => ?_) (fun v hv u hu e => ?_) fun h' d out h1 h2 kp hd hn => ?_
  · obtain ⟨t, ht, rfl⟩ := List.mem_map.mp hv
    obtain ⟨y, c, e⟩ := hx t ht
    obtain ⟨_, its2, r2, o, ho, hc, n, hdt⟩ := (show ObjOk X.prog X.w H s.heap t (.tup [.int (k t), .int y, .ref c]) from I.hok _ _ e)
    cases r2 with
    | cons a1 r2 =>
      cases r2 with
      | cons a2 r2 =>
        cases r2 with
        | cons a3 r2 =>
          cases r2
          obtain ⟨t1, rfl⟩ := a1
          obtain ⟨t2, rfl⟩ := a2
          cases a3
          exact ⟨t, o, t1, y, t2, c, n, rfl, ho, hc, hdt⟩
  · obtain ⟨t, ht, rfl⟩ := List.mem_map.mp hv
    obtain ⟨t', ht', rfl⟩ := List.mem_map.mp hu
    rw [hi t ht t' ht' e]
  · obtain ⟨n, hn⟩ := hn
    have hp := h2.perm
    have eo : out = (out.map addrV).map Value.ref := by
      rw [List.map_map]
      have : ∀ u ∈ out, Value.ref (addrV u) = u := fun u hu => by
        obtain ⟨t, _, rfl⟩ := List.mem_map.mp (hp.mem_iff.mp hu)
        rfl
      conv => lhs; rw [← List.map_id out]
      exact List.map_congr_left fun u hu => (this u hu).symm
    have hp2 : (out.map addrV).Perm rs := by
      have z := hp.map addrV
      rw [List.map_map] at z
      have id : (rs.map (addrV ∘ Value.ref)) = rs := by
        conv => rhs; rw [← List.map_id rs]
        rfl
      rw [id] at z
      exact z
    have hs2 : (out.map addrV).Pairwise (fun a b => k a ≤ k b) := by
      rw [List.pairwise_map]
      refine List.Pairwise.imp (fun {a b} h => ?_) h1
      have := of_decide_eq_false h
      omega
    refine ⟨.ref d, upd H d (.lst ((out.map addrV).map V.ref)), I.laid (t' := s.toks) kp hd ⟨?_, out, n, ?_, hn⟩, rfl, q _ d hp2 hs2 (I.hok.fresh hd)⟩
    · rw [List.length_map, hp2.length_eq]
      rw [List.length_map] at hz
      exact hz
    · rw [eo]
      have g : ∀ l : List Addr, Vals (l.map V.ref) (l.map Value.ref) := fun l => by
        induction l with
        | nil => exact .nil
        | cons a l ih => exact .cons rfl ih
      rw [← eo]
      conv => arg 2; rw [eo]
      exact g _
/-- list.index within a comprehension -/
theorem pe_indexK {X : Cx} {K : PySem.W.Frag} (h : X.K = K) {o e : Expr} {to te : TE} {apos cpos : Pos} (p : PE X (.Call (.Attribute o "index" apos) [e] [] cpos) (tBM X.K "list" (rIndex X.K) to (tCons te tNil))) : PE X (.Call (.Attribute o "index" apos) [e] [] cpos) (tBM K "list" (rIndex K) to (tCons te tNil)) := by
  subst h
  exact p
theorem op_notInK {X : Cx} {K : PySem.W.Frag} (h : X.K = K) : OpR X (compareOp .NotIn) (rIn K true) := by
  subst h
  exact op_notIn_seq
end L2

namespace L2
open PySem PySem.Spec PyProof.Rows
section
variable {X : Cx}
/-- a name of the def's own, on the line of the comprehension: stored within its frame -/
theorem swd_true {kx vx : Expr} {gs : List Comprehension} {scope : Scope} {pos py : Pos} {y : Str} {l : Nat} {env : Env} (e1 : env.scope.kind = .function) (e2 : env.scope.names.lookup y = some .local) (e3 : (py.line == pos.line) = true)
    (e4 : (scope.names.any fun (n, k) => n == y && (k == .local || k == .cell)) = false) : swapsWith (.DictComp kx vx gs scope pos) (some (.Name y py)) l env = pure true := by
  have a1 : env.kindOf y = some .local := e2
  have a2 : env.blockKind = .function := (by unfold Env.blockKind; rw [e1]; rfl)
  unfold swapsWith
  simp only [a2, a1, e4, Expr.pos, e3]
  rfl
/-- y = {k: v for x in xs} -/
theorem ps_setDc {i : Nat} {y : Str} {py pos spos : Pos} {kx vx tg iter : Expr} {ifs : List Expr} {scope : Scope} {own : List (Str × Nat)} {wi : TI} {g : TG} {tt : TT} {tk tv : TE} (calm : X.calm = true) (nd : X.N.Nodup) (at_y : X.N[i]? = some y) (loc : X.env.scope.names.lookup y = some .local)
    (sw : swapsWith (.DictComp kx vx [⟨tg, iter, ifs, 0⟩] scope pos) (some (.Name y py)) spos.line X.env = pure true) (walk : PI X tg iter wi) (ok : BlkOk X.N X.env.scope scope own)
    (rg : ∀ (s : Shared) (H : Hp) (C : Addr) (cl : List (Str × Addr)) (fp : List Addr), PG (X.blk s H scope (compEnvC scope cl C X.env) fp) tg g)
    (rt : ∀ (s : Shared) (H : Hp) (C : Addr) (cl : List (Str × Addr)) (fp : List Addr), PTs (X.blk s H scope (compEnvC scope cl C X.env) fp) ifs tt)
    (rk : ∀ (s : Shared) (H : Hp) (C : Addr) (cl : List (Str × Addr)) (fp : List Addr), PE (X.blk s H scope (compEnvC scope cl C X.env) fp) kx tk)
    (rv : ∀ (s : Shared) (H : Hp) (C : Addr) (cl : List (Str × Addr)) (fp : List Addr), PE (X.blk s H scope (compEnvC scope cl C X.env) fp) vx tv)
    (fold : ∀ x, foldedSetIterable iter X.env x = pure x := by intro _; rfl) :
    PS X (.Assign [.Name y py] (.DictComp kx vx [⟨tg, iter, ifs, 0⟩] scope pos) spos) (tAsg (tDc wi g tt tk tv (own.map (·.2))) (gName i)) := by
  constructor
  intro pins s σ H D I q
  have q : tDc wi g tt tk tv (own.map (·.2)) σ H (fun x H1 => gName i x σ H1 D.nx) := q
  rw [exec_Assign_Name_used _ _ _ _ sw]
  apply wpAny_bind
  apply wpAny_standAt
  apply wpAny_bind
  show wpAny _ X.A (do let _ ← comprehension (.DictComp kx vx [⟨tg, iter, ifs, 0⟩] scope pos) scope X.env (firstIterPos [⟨tg, iter, ifs, 0⟩] pos) newDict false (eval iter X.env) (some (assign (.Name y py) X.env))) _ _ s
  apply wpAny_bind
  refine thn (dc_core (Qf := fun _ s' => SP X pins D .next s') calm nd I walk ok rg rt rk rv fold q ?_) fun _ _ z => wpAny_pure (wpAny_pure z)
  intro d c t n H2 J nx ns fr
  show wpAny _ _ (assign (.Name y py) X.env (.ref d)) _ _ _
  refine wpAny_assign_Name (store_ok2 (v := V.ref d) J nd at_y (.inl loc) rfl ?_ (.inr loc))
  rintro u JU ⟨b, same, which⟩
  obtain ⟨r0, r1, r2, r3, r4, r5⟩ := fr
  have far : c ≠ b := by
    cases which with
    | inl z => exact z ▸ r1
    | inr z => exact fun e => r4 y b z e.symm
  exact ⟨n, ns.sameBut same far, fun _ rest => ⟨_, H2, JU.turned (t' := u.toks) (fun a o ha e => (rest.2 a ha).trans e) r0 r1 r3 r4 r5, nx⟩⟩
end
end L2

namespace SrtO
open PySem PyProof.Rows Srt
section
variable {prog : Program} {w : World} {A : Around} {E : Value → Shared → Prop} {s : Shared}
/-- the heap with the items of a tuple in a new list -/
def gath (h : Heap) (its : List Value) : Heap := (h.push (seqObj "list" #[] 0)).update h.objs.size (Obj.mapSeq (· ++ its.toArray))
theorem gath_at (h : Heap) (its : List Value) : ∃ k, (gath h its).get? h.objs.size = some (seqObj "list" its.toArray k) := by
  have e := get?_update_seq (c := "list") (xs := #[]) (n := 0) (Heap.get?_push_size h rfl) (· ++ its.toArray)
  rw [Array.empty_append] at e
  exact ⟨_, e⟩
theorem gath_old {h : Heap} {its : List Value} {b : Addr} {o : Obj} (e : h.get? b = some o) : (gath h its).get? b = some o := by
  unfold gath
  rw [Heap.get?_update_ne _ _ _ _ (Nat.ne_of_lt (Heap.lt_size e))]
  exact Heap.get?_push_of_some _ e
theorem gath_size (h : Heap) (its : List Value) : (gath h its).objs.size = h.objs.size + 1 := by
  unfold gath
  rw [Heap.size_update, size_push']
theorem gather_tup {t : Addr} {o : Obj} {its : List Value} {k : Nat} {Q : List Value → Shared → Prop} (there : s.heap.get? t = some o) (cls : o.cls = .type "tuple") (dat : o.data = .seq its.toArray k) (few : its.length ≤ sizeLine)
    (next : Q its { s with heap := gath s.heap its }) : wpAny (model prog w) A (collect (.ref t)) Q E s := by
  have there' : (s.heap.push (seqObj "list" #[] 0)).get? t = some o := Heap.get?_push_of_some _ there
  have new0 : (s.heap.push (seqObj "list" #[] 0)).get? s.heap.objs.size = some (seqObj "list" #[] 0) := Heap.get?_push_size _ rfl
  unfold collect
  apply wpAny_bind
  refine wpAny_runValue (codeAny_builtin entry_proto_collect' ?_)
  show wpAny _ _ (newList [] >>= fun l => again (.builtin "list.__iadd__" ⟨[l, .ref t], []⟩)) _ _ s
  apply wpAny_bind
  refine wpAny_newList (wpAny_pure ⟨Code.quiet_builtin _ (by decide +kernel), codeAny_builtin entry_list_iadd' ?_⟩)
  show wpAny _ _ (Builtin.List.listExtendWith (.ref s.heap.objs.size) (.ref t) (.ref s.heap.objs.size)) _ _ { s with heap := s.heap.push (seqObj "list" #[] 0) }
  unfold Builtin.List.listExtendWith
  apply wpAny_bind
  refine wpAny_typeOf (T := "tuple") ⟨o, there', cls⟩ ?_
  have isT : (Value.type "tuple" == Value.type "tuple") = true := by rfl
  rw [if_pos (by rw [isT]; simp)]
  refine wpAny_bind (listItems_at there' dat ?_)
  refine wpAny_bind (listItems_at new0 rfl ?_)
  rw [if_neg (by simp)]
  refine wpAny_bind (listUpdate_at new0 rfl ?_ (Nat.zero_le _) (by show (#[] ++ its.toArray).size ≤ sizeLine + 1; simp only [Array.size_append, List.size_toArray, List.length_nil]; omega))
  refine wpAny_pure ?_
  obtain ⟨k2, e⟩ := gath_at s.heap its
  show wpAny (model prog w) A (do
      let o ← load s.heap.objs.size
      match o.data with
      | .seq xs _ => pure xs.toList
      | _ => unsupported "internal:collect") Q E { s with heap := gath s.heap its }
  exact wpAny_bind (wpAny_load e (wpAny_pure next))
/-- sorted(t), t a tuple of ints -/
theorem sorted_tupI {t : Addr} {o : Obj} {its : List Value} {ns : List Int} {k : Nat} {Q : Value → Shared → Prop} (I : IntsAre its ns) (there : s.heap.get? t = some o) (cls : o.cls = .type "tuple") (dat : o.data = .seq its.toArray k) (few : its.length ≤ sizeLine)
    (next : ∀ (out : List Value) (h' : Heap) (e : Nat), Srtd ltIv out → Stb ltIv out its → (∀ b u, s.heap.get? b = some u → h'.get? b = some u) → h'.get? (s.heap.objs.size + 1) = some (seqObj "list" out.toArray e) → Q (.ref (s.heap.objs.size + 1)) { s with heap := h' }) :
    wpAny (model prog w) A (call (.builtin "sorted") [.ref t]) Q E s := by
  refine Calls.call_function_entry kind_sorted plain_sorted entry_sorted (args_sorted1 _) ?_
  unfold Builtin.«sorted»
  refine wpAny_bind (m := checkCount "sorted" 1 1 _) (wpAny_pure ?_)
  refine wpAny_bind (gather_tup there cls dat few ?_)
  refine wpAny_bind (wpAny_newList ?_ few)
  show wpAny _ _ _ _ _ { s with heap := (gath s.heap its).push (seqObj "list" its.toArray 0) }
  have at_l : ((gath s.heap its).push (seqObj "list" its.toArray 0)).get? (gath s.heap its).objs.size = some (seqObj "list" its.toArray 0) := Heap.get?_push_size _ rfl
  refine wpAny_bind (wpAny_holding (wpAny_call_entry slot_list_sort ⟨_, at_l, rfl⟩ entry_list_sort (list_sort_ord swo_int at_l few (fun two => ints_sortable I two) fun out h1 h2 => ⟨_, rfl, ?_⟩) (args_list_sort _)))
  obtain ⟨e, he⟩ := sortedHeap_at (vs := its) (out := out.toArray) at_l
  rw [gath_size] at he ⊢
  refine wpAny_pure ⟨_, rfl, next out _ e h1 h2 (fun b u z => ?_) he⟩
  have lt : b < s.heap.objs.size := Heap.lt_size z
  rw [sortedHeap_old (Nat.ne_of_lt (Nat.lt_succ_of_lt lt)) (by rw [size_push', gath_size]; exact Nat.lt_succ_of_lt (Nat.lt_succ_of_lt lt))]
  exact Heap.get?_push_of_some _ (gath_old z)
end
end SrtO
namespace L2
open PySem PySem.Spec PyProof.Rows
def rSortedTI (K : PySem.W.Frag) : List V → Hp → VK → Prop := fun vs H Q => ∃ (a : Addr) (ns : List Int), vs = [V.ref a] ∧ SqT K H a (ns.map V.int) ∧ ∀ (ns' : List Int) (p : Addr), ns'.Perm ns → ns'.Pairwise (· ≤ ·) → H p = none → Q (.ref p) (upd H p (.lst (ns'.map V.int)))
theorem cr_sortedTI {X : Cx} : CallR X (.builtin "sorted") (rSortedTI X.K) := by
  intro pins s σ H vs us Q I r h
  obtain ⟨a, ns, rfl, hs, q⟩ := h
  obtain ⟨its, rv, ⟨o, ho, hc, k, hd⟩, hz⟩ := I.tuple hs
  rw [Vals.ref1 r]
  have hz' : ns.length ≤ sizeLine := by
    rw [List.length_map] at hz
    exact hz
  refine SrtO.sorted_tupI rv.ints ho hc hd (by rw [← rv.length]; exact hz) fun out h' e h1 h2 old new => ?_
  obtain ⟨k1, k2, k3⟩ := SrtO.ints_out rv.ints h1 h2
  exact ⟨.ref _, upd H (s.heap.objs.size + 1) (.lst ((out.map SrtO.iv).map V.int)), I.laid (t' := s.toks) old (Nat.le_succ _) ⟨by rw [List.length_map, k2.length_eq]; exact hz', out, e, vals_of_ints k1, new⟩, rfl, q _ _ k2 k3 (I.hok.fresh (Nat.le_succ _))⟩
end L2

namespace L2
open PySem PySem.Spec PyProof.Rows
section
variable {X : Cx} {st : Stmt} {rest : List Stmt} {t : TS}
/-- a statement behind which nothing is ever run -/
def tStop (t : TS) : TS := fun D σ H => t { D with nx := fun _ _ => False } σ H
theorem pss_stop (h1 : PS X st t) : PSs X (st :: rest) (tStop t) := by
  refine ⟨fun pins s σ H D I h => ?_⟩
  refine wpAny_execs_cons (thn (h1.run pins s σ H { D with nx := fun _ _ => False } I h) fun f s1 q => ?_)
  cases f with
  | next =>
    obtain ⟨σ', H', I', q⟩ := q
    exact False.elim q
  | ret v => exact q
  | brk => exact q
  | cont => exact q
end
end L2

namespace L2
open PySem PySem.Spec PyProof.Rows
/-- d.get(t) of a written table, whether the key is there or not -/
def tTabLook (P : Program) (w : World) (K : PySem.W.Frag) (td te : TE) : TE := fun σ H Q => td σ H fun x H1 => ∃ (a : Addr) (kvs : List (List Nat × Str)), x = .ref a ∧ TabK P w K a kvs ∧ te σ H1 fun y H2 => ∃ (p : Addr) (ks : List Nat), y = .ref p ∧ H2 p = some (.tup (ks.map fun k : Nat => V.int (k : Int))) ∧
  (∀ q, (kvs.find? fun q => decide (q.1 = ks)) = some q → Q (.str q.2) H2) ∧ ((kvs.find? fun q => decide (q.1 = ks)) = none → Q .non H2)
theorem tab_look {ks : List Nat} : ∀ {kvs : List (List Nat × Str)} {ts : List Tok}, ts.length = kvs.length →
    (∀ q, (kvs.find? fun q => decide (q.1 = ks)) = some q → ∃ t : Tok, valueAt ((kvs.zip ts).map fun x => (numK x.1.1, Value.str x.1.2 x.2)) (numK ks) = some (Value.str q.2 t)) ∧
    ((kvs.find? fun q => decide (q.1 = ks)) = none → valueAt ((kvs.zip ts).map fun x => (numK x.1.1, Value.str x.1.2 x.2)) (numK ks) = none)
  | [], ts, _ => ⟨fun q h => by simp at h, fun _ => by simp [valueAt]⟩
  | _ :: _, [], hl => by simp at hl
  | (k0, z0) :: kvs, t0 :: ts, hl => by
    have ih := tab_look (ks := ks) (kvs := kvs) (ts := ts) (by simpa using hl)
    by_cases c : k0 = ks
    · subst c
      refine ⟨fun q h => ?_, fun h => ?_⟩
      · rw [List.find?_cons_of_pos (by simp)] at h
        cases Option.some.inj h
        exact ⟨t0, by simp [valueAt]⟩
      · rw [List.find?_cons_of_pos (by simp)] at h
        cases h
    · have ne2 : ¬ numK k0 = numK ks := fun e => c (numK_inj e)
      rw [List.find?_cons_of_neg (by simpa using c)]
      unfold valueAt at ih ⊢
      rw [List.zip_cons_cons, List.map_cons, List.find?_cons_of_neg (by simpa using ne2)]
      exact ih
theorem pe_tabLook {X : Cx} {o e : Expr} {td te : TE} {apos cpos : Pos} (hu : X.A.units + 64 < cLine) (ho : PE X o td) (he : PE X e te) (m : M1 X o "get" apos e cpos) : PE X (.Call (.Attribute o "get" apos) [e] [] cpos) (tTabLook X.prog X.w X.K td te) := by
  refine ⟨fun pins s σ H Q I h => ?_⟩
  refine wpAny_Call_method m.base m.few m.line PySem.F.plainAttrs_dict PySem.F.slot_dict_get PySem.F.type_dict_get (thn (ho.run pins s σ H _ I h) fun u s1 ⟨x, H1, I1, rx, a, kvs, ex, ⟨hsm, ts, hT⟩, q1⟩ => ?_)
  subst ex
  obtain rfl : u = Value.ref a := rx
  obtain ⟨hD, _⟩ := hT _ I1.kIn
  have hD' := hD
  obtain ⟨xs, ⟨ob, es, ep, hob, hcl, hdat, _⟩, _⟩ := hD'
  refine ⟨hD.typeIs, fun b q => by cases q; exact ⟨ob, hob, hcl.2.1⟩, ?_⟩
  rw [m.trees]
  refine Calls.callWith_builtin rfl (Calls.evalArgs_plain (Calls.spliced_cons (thn (he.run pins s1 σ H1 _ I1 q1) fun iv s2 ⟨y, H2, I2, ry, p, ks, ey, hp, q2, q3⟩ => Calls.spliced_nil ?_)))
  subst ey
  obtain rfl : iv = Value.ref p := ry
  obtain ⟨_, its, rv, ot, h1, h2, n, h3⟩ := (show ObjOk X.prog X.w H2 s2.heap p (.tup (ks.map fun k : Nat => V.int (k : Int))) from I2.hok p _ hp)
  obtain ⟨hD2, hlen⟩ := hT _ I2.kIn
  obtain ⟨f1, f2⟩ := tab_look (ks := ks) hlen
  have hk : (nestedKind X.prog X.w).is s2.heap (numK ks) p := ⟨.tup h1 h2 h3 (by simpa using numAll_of (h := s2.heap) rv), numK_depth ks⟩
  refine get_keyed (knd := nestedKind X.prog X.w) (show X.A.in1.units + 8 < cLine by show X.A.units + 1 + 8 < cLine; omega) hk hsm hD2 ?_
  cases hf : kvs.find? fun q => decide (q.1 = ks) with
  | some q =>
    obtain ⟨t, ht⟩ := f1 q hf
    rw [ht]
    exact ⟨.str q.2, H2, I2.tok _, ⟨t, rfl⟩, q2 q hf⟩
  | none =>
    rw [f2 hf]
    exact ⟨.non, H2, I2.tok _, rfl, q3 hf⟩
end L2

/-! exceptions whose context is known to be None: raised by defs, caught where the suite calls defs -/
namespace L2N
open PySem PySem.Spec PyProof.Rows L2
theorem takes0N {X : Cx} : Takes X (fun _ _ _ _ => False) := fun _ _ x => by
  obtain ⟨a, B, sI, pins, σ, H, cls, d, e, I, nb, up, sky, na, os, ag, w⟩ := x
  exact False.elim w
section
variable {X : Cx} {e : Expr} {es : List Expr} {ta : TA} {p pos : Pos}
/-- raise X(e, ..), own __init__: the new exception has no context -/
theorem pmk_oexN {CX : CXT} {x : Str} {C fI : Addr} {k : Nat} {fd : FuncData} {ps : List Str} {sp : Sp} (T : OexC X.K C) (iC : PySem.W.findIn X.K (.ref C) "__init__" = some (some (.ref fI))) (tI : PySem.W.typeIn X.K (.ref fI) = some (.type "function"))
    (F1 : FnOk X.prog X.w X.K X.mg X.base CX k fI fd ps sp) (hr : Room (k + 1) X.A) (hb : Binds X.K fd ps []) (hx : Passes CX X (fun _ _ _ => False)) (hg : Gl X x) (hm : X.mg x = some (.ref C)) (ha : PA X (e :: es) ta)
    (hdb : (x == ("__debug__" : Str)) = false := by decide) (he : starEach (e :: es) X.env = (false, eval e X.env) :: starEach es X.env := by rfl) (hpl : (backTo pos (starEach es X.env)).any (·.1) = false := by rfl) :
    PMk X (.Call (.Name x p) (e :: es) [] pos) (tMkO C sp [] ta) := by
  intro pins s σ H Q I h
  obtain ⟨c1, c2, c3, c4, c5, c6, c7, c8, c9, d0, d1, d2, d3, d4, d5, hC, hbm⟩ := T.cls
  refine wpAny_Call_Name_kw (ld_glob I hg hm ?_ hdb)
  refine PySem.W.callWith_K (h₀ := X.base) I.ok.mod.kin T.kC (thn (ha.run pos pins s σ H _ I h) fun us s1 ⟨vs, H1, I1, r1, hz, q1⟩ => ⟨I1.kIn, ?_⟩) he hpl
  show wpAny _ _ (call (.ref C) us) _ _ _
  obtain ⟨h1, g1, w1, k1, o1⟩ := s1
  have up1 : h1.objs.size ≤ h1.objs.size + 1 := Nat.le_succ _
  have fr : H1 (h1.objs.size + 1) = none := I1.hok.fresh up1
  have pr := q1 (h1.objs.size + 1) fr
  rw [List.append_nil] at pr
  have kp : ∀ b o, h1.get? b = some o → ((h1.push (PySem.W.kdv_tup us)).push (PySem.HandSPX.excO C h1.objs.size)).get? b = some o := fun b o z => Heap.get?_push_of_some _ (Heap.get?_push_of_some _ z)
  have ob : ((h1.push (PySem.W.kdv_tup us)).push (PySem.HandSPX.excO C h1.objs.size)).get? (h1.objs.size + 1) = some (PySem.HandSPX.excO C h1.objs.size) := by heap_get
  have J : Inv X pins σ (upd H1 (h1.objs.size + 1) (exo (h1.objs.size + 1) C none)) ⟨(h1.push (PySem.W.kdv_tup us)).push (PySem.HandSPX.excO C h1.objs.size), g1, w1, k1, o1⟩ :=
    I1.laid (t' := k1) (a := h1.objs.size + 1) (o := exo (h1.objs.size + 1) C none) (h' := (h1.push (PySem.W.kdv_tup us)).push (PySem.HandSPX.excO C h1.objs.size)) kp up1 (exo_ok ob)
  have rl : Vals (V.ref (h1.objs.size + 1) :: vs) (Value.ref (h1.objs.size + 1) :: us) := .cons rfl r1
  have ln : (Value.ref (h1.objs.size + 1) :: us).length = ps.length := by
    have z := rl.length
    rw [F1.len _ _ _ _ pr] at z
    exact z.symm
  have few : us.length ≤ sizeLine := by
    rw [← Paired.length r1, sizeLine_eq]
    omega
  have bd := hb ⟨(h1.push (PySem.W.kdv_tup us)).push (PySem.HandSPX.excO C h1.objs.size), g1, w1, k1, o1⟩ (Value.ref (h1.objs.size + 1) :: us) J.kIn (by rw [List.append_nil]; exact ln)
  rw [List.append_nil] at bd
  refine wpAny_call (PySem.HandSPX.call_own F.excBase_ValueError (fun Y => PySem.HandSPX.refsVE_contains Y c5 hbm) (I1.kIn _ _ hC) (PySem.W.looks_findIn I1.kIn iC) (fun self => PySem.W.bind_fn I1.kIn self tI) few
    (codeAny_mono (F1.run _ X.stack _ _ ⟨Value.ref (h1.objs.size + 1) :: us, []⟩ (Value.ref (h1.objs.size + 1) :: us) _ _ (fun _ _ _ => False) (hr.make C us []) (J.env0.make C us []) bd rl pr) fun r s' hq => ?_))
  cases r with
  | error er => exact hx pins σ _ _ er s' J hq
  | ok fl =>
    cases fl with
    | ret u =>
      obtain ⟨v, H2, os2, bare2, un2, hok2, rv, ev, d, fs, ea, ed, hd1, q2⟩ := hq
      subst ev
      obtain ⟨h2, g2, w2, k2, o2⟩ := s'
      obtain ⟨t0, G, JG, kG, ge, hoe, na⟩ := mk_end0 (d2 := w2) (t2 := k2) I1 up1 kp un2 hok2 os2 bare2 ea ed hd1
      exact ⟨rv, h1.objs.size + 1, _, _, ⟨G, g2, w2, k2, o2⟩, _, .ref C, some d, rfl, JG, kG, ge, hoe, ⟨rfl, rfl, fun vs hv => by cases hv; rfl⟩, rfl, rfl, na, rfl, bare2, raises_own T.exC T.tyC, q2⟩
    | next => exact False.elim hq
    | brk => exact False.elim hq
    | cont => exact False.elim hq
variable {C : Addr} {bmB : List Value} {B newId initId : String} {x : Str}
/-- raise X(), no own __init__ -/
theorem pmk_own0N (F : ExcBaseFacts B newId initId bmB) (q : PySem.W.excIn X.K C bmB newId = true) (gC : X.mg x = some (.ref C)) (kC : PySem.W.keepIn X.K (.ref C) = true) (r : Raises X (.ref C)) (hg : Gl X x)
    (hdb : (x == ("__debug__" : Str)) = false := by decide) : PMk X (.Call (.Name x p) [] [] pos) (fun _ H Q => Q (.ref C) none H) := by
  intro pins s σ H Q I h
  refine wpAny_Call_Name_kw (ld_glob I hg gC ?_ hdb)
  refine PySem.W.callWith_K0 I.kIn kC ?_
  obtain ⟨bm, N, nm, qn, bs, hdct, sn, sub, ab, col, dd, k0, k1, k2, k3, k5, mN, hC, hN, hni, T⟩ := exc_obj I.kIn q
  refine wpAny_call_exc_subT F T hC hN hni (fun h' e hm => ?_) (Nat.zero_le _)
  exact mk_of I hm r h (I.hok.gone hm.new)
end
end L2N
namespace L2
open PySem PySem.Spec PyProof.Rows
section
variable {P : Program} {w : World} {K : PySem.W.Frag} {mg : Str → Option Value} {base : Heap}
/-- a def that may raise, what it raises has no context -/
theorem Fun.okN {x qual : Str} {st : Stmt} {f : Addr} {fd : FuncData} {N ps : List Str} {k : Nat} {sp : Sp} (F : Fun K x qual st f fd) (S : FnScope N ps (defScope st)) (len : ∀ vs H Q E, sp vs H Q E → vs.length = ps.length)
    (hbody : ∀ (cdv : Value) (A : Around) (outer : List Env) (s : Shared) (H : Hp) (vs : List V) (Q : VK) (E : XK), Room k (A.deeper (envOfC qual (defScope st) s.heap.objs.size f cdv)) → sp vs H Q E →
      ∃ t, PSs (cxOf (L2N.CX P w) P w K mg base N qual (defScope st) f cdv A outer s H E) (defBody st) t ∧ t { nx := fun _ H' => Q .non H', rt := Q } (start N vs) H) : FnOk P w K mg base (L2N.CX P w) (k + 1) f fd ps sp := by
  obtain ⟨oc, od, kV, doc, pm, an, cdv, ct, osl, rfl, lk, hcd⟩ := F.ex
  exact fn_of lk hcd S len fun A outer s H vs Q E hr hsp => hbody cdv A outer s H vs Q E hr hsp
/-- a def called where an exception is handled, lets none out -/
theorem Fun.okH {x qual : Str} {st : Stmt} {f : Addr} {fd : FuncData} {N ps : List Str} {k : Nat} {sp : Sp} (F : Fun K x qual st f fd) (S : FnScope N ps (defScope st)) (len : ∀ vs H Q E, sp vs H Q E → vs.length = ps.length)
    (hbody : ∀ (cdv : Value) (A : Around) (outer : List Env) (s : Shared) (H : Hp) (vs : List V) (Q : VK) (E : XK) (p : Addr × Obj), L2H.Hot1 A p → L2H.RoomH k (A.deeper (envOfC qual (defScope st) s.heap.objs.size f cdv)) → sp vs H Q E →
      ∃ t, PSs (L2H.cxH CX0 P w K mg base N qual (defScope st) f cdv A outer s H E p).nox (defBody st) t ∧ t { nx := fun _ H' => Q .non H', rt := Q } (start N vs) H) : L2H.FnH P w K mg base CX0 (k + 1) f fd ps sp := by
  obtain ⟨oc, od, kV, doc, pm, an, cdv, ct, osl, rfl, lk, hcd⟩ := F.ex
  refine L2H.fn_ofH lk hcd S len fun A outer s H vs Q E p hot hr hsp => ?_
  obtain ⟨t, h, q⟩ := hbody cdv A outer s H vs Q E p hot hr hsp
  exact ⟨t, h.nox, q⟩
end
/-- within a suite: the exception that is handled has no context -/
theorem hot_suite {X : Cx} {a : Addr} {oe : Obj} {cls : Value} {d : Option Addr} {pn : List (Addr × Obj)} (hz : L2N.Zn cls d oe) (hf : ∃ vs, oe.data = .fields vs) : L2H.HotC (X.suite a ((a, oe) :: pn)) := by
  obtain ⟨vs, hv⟩ := hf
  exact ⟨(a, oe), ⟨rfl, vs, hv, hz.2.2 vs hv⟩, List.mem_cons_self⟩
end L2
namespace L2
open PySem PySem.Spec PyProof.Rows
/-- nothing is let out -/
theorem passH0 {X : Cx} (E : St → XK) : ∀ σ, PassesAt CX0 X σ (E σ) := fun _ _ _ _ _ _ _ z => False.elim z
theorem call_isiQ {X : Cx} {K : PySem.W.Frag} (h : X.K = K) : CallR X (.builtin "isinstance") (rIsi K) := by
  subst h
  exact call_isi
theorem call_lenK {X : Cx} {K : PySem.W.Frag} (h : X.K = K) : CallR X (.builtin "len") (fun xs H Q => ∃ p ys, xs = [.ref p] ∧ (SqL K H p ys ∨ SqT K H p ys) ∧ Q (.int ys.length) H) := by
  subst h
  exact call_len_seq
end L2

/-! min, max, len(set(..)) of a tuple of ints -/
namespace MmT
open PySem PyProof.Rows
theorem keep_old {s : Shared} {o : Obj} {h' : Heap} (hk : ∀ b u, b ∉ [s.heap.objs.size] → (s.heap.push o).get? b = some u → h'.get? b = some u) : ∀ b u, s.heap.get? b = some u → h'.get? b = some u := fun b u e => by
  refine hk b u (fun hm => ?_) (Heap.get?_push_of_some _ e)
  have := Heap.lt_size e
  rw [List.mem_singleton.mp hm] at this
  exact Nat.lt_irrefl _ this
theorem ints_arr {its : List Value} {ns : List Int} (hi : IntsAre its ns) : ∃ xs : Array (Int × Tok), its.toArray = intItems xs ∧ (xs.toList.map (·.1)) = ns := by
  obtain ⟨xs, e⟩ := hi.allInts.items
  have hn : numsOf (intItems xs).toList = ns := by
    rw [← e]
    exact hi.numsOf
  rw [nums_intItems] at hn
  exact ⟨xs, e, hn⟩
section
variable {prog : Program} {w : World} {A : Around} {E : Value → Shared → Prop} {s : Shared}
theorem min_tup {t : Addr} {its : List Value} {ns : List Int} {Q : Value → Shared → Prop} (calm : A.handled = none) (there : s.heap.IsTuple t its.toArray) (hi : IntsAre its ns) (some_ : 0 < ns.length)
    (next : ∀ (h' : Heap) (tk : Nat) (m : Int) (u : Tok), (∀ b o, s.heap.get? b = some o → h'.get? b = some o) → m ∈ ns → (∀ y ∈ ns, m ≤ y) → Q (.int m u) { s with heap := h', toks := tk }) :
    wpAny (model prog w) A (call (.builtin "min") [.ref t]) Q E s := by
  obtain ⟨xs, e1, e2⟩ := ints_arr hi
  subst e2
  rw [e1] at there
  have pos : 0 < xs.size := by simpa using some_
  have tb : t < s.heap.objs.size := by
    obtain ⟨o, ho, _⟩ := there
    exact Heap.lt_size ho
  refine call_min_walk (wpAny_pyIter_tuple there ?_)
  refine ⟨_, [_, t], [_], _, _, _, _, rfl, Walks.tuple (A := A.in1) calm _ t (Nat.ne_of_lt tb) (intItems xs), ⟨⟨_, Heap.get?_push_size _ rfl, rfl, rfl⟩, there.push _⟩, fun c hc => ?_, by simpa [intItems] using pos, CmpOf.ints_lt (numAt xs) (fun _ _ => intItems_at), fun v h' tk hP hk => ?_⟩
  · show c < (s.heap.push _).objs.size
    rw [Heap.size_push]
    rcases List.mem_cons.mp hc with rfl | hc
    · exact Nat.lt_succ_self _
    · rw [List.mem_singleton.mp hc]
      exact Nat.lt_succ_of_lt tb
  · have hP' : (intItems xs)[argBest (fun i j => decide (numAt xs i < numAt xs j)) (xs.size - 1)]? = some v := by simpa [intItems] using hP
    obtain ⟨u, rfl⟩ := intItems_at hP'
    obtain ⟨b1, b2⟩ := argBest_lt (numAt xs) (xs.size - 1)
    refine next h' tk _ u (keep_old hk) ?_ fun y hy => ?_
    · rw [numAt_eq]
      exact PySem.getD_mem (by rw [List.length_map, Array.length_toList]; omega)
    · obtain ⟨j, hj, rfl⟩ := mem_getD hy
      rw [List.length_map, Array.length_toList] at hj
      rw [← numAt_eq]
      exact b2 j (by omega)
theorem max_tup {t : Addr} {its : List Value} {ns : List Int} {Q : Value → Shared → Prop} (calm : A.handled = none) (there : s.heap.IsTuple t its.toArray) (hi : IntsAre its ns) (some_ : 0 < ns.length)
    (next : ∀ (h' : Heap) (tk : Nat) (m : Int) (u : Tok), (∀ b o, s.heap.get? b = some o → h'.get? b = some o) → m ∈ ns → (∀ y ∈ ns, y ≤ m) → Q (.int m u) { s with heap := h', toks := tk }) :
    wpAny (model prog w) A (call (.builtin "max") [.ref t]) Q E s := by
  obtain ⟨xs, e1, e2⟩ := ints_arr hi
  subst e2
  rw [e1] at there
  have pos : 0 < xs.size := by simpa using some_
  have tb : t < s.heap.objs.size := by
    obtain ⟨o, ho, _⟩ := there
    exact Heap.lt_size ho
  refine call_max_walk (wpAny_pyIter_tuple there ?_)
  refine ⟨_, [_, t], [_], _, _, _, _, rfl, Walks.tuple (A := A.in1) calm _ t (Nat.ne_of_lt tb) (intItems xs), ⟨⟨_, Heap.get?_push_size _ rfl, rfl, rfl⟩, there.push _⟩, fun c hc => ?_, by simpa [intItems] using pos, CmpOf.ints_gt (numAt xs) (fun _ _ => intItems_at), fun v h' tk hP hk => ?_⟩
  · show c < (s.heap.push _).objs.size
    rw [Heap.size_push]
    rcases List.mem_cons.mp hc with rfl | hc
    · exact Nat.lt_succ_self _
    · rw [List.mem_singleton.mp hc]
      exact Nat.lt_succ_of_lt tb
  · have hP' : (intItems xs)[argBest (fun i j => decide (numAt xs i > numAt xs j)) (xs.size - 1)]? = some v := by simpa [intItems] using hP
    obtain ⟨u, rfl⟩ := intItems_at hP'
    obtain ⟨b1, b2⟩ := argBest_gt (numAt xs) (xs.size - 1)
    refine next h' tk _ u (keep_old hk) ?_ fun y hy => ?_
    · rw [numAt_eq]
      exact PySem.getD_mem (by rw [List.length_map, Array.length_toList]; omega)
    · obtain ⟨j, hj, rfl⟩ := mem_getD hy
      rw [List.length_map, Array.length_toList] at hj
      rw [← numAt_eq]
      exact b2 j (by omega)
end
/-- a list without doubles has as many members as another of the same members exactly if that one has no doubles -/
theorem sub_perm : ∀ {L ns : List Int}, L.Nodup → (∀ x ∈ L, x ∈ ns) → L.length = ns.length → L.Perm ns
  | [], ns, _, _, h => by
    rw [List.length_eq_zero_iff.mp h.symm]
  | x :: L, ns, nd, sub, h => by
    have hx := sub x (List.mem_cons_self ..)
    have nd' := List.nodup_cons.mp nd
    have ih := sub_perm (L := L) (ns := ns.erase x) nd'.2 (fun y hy => (List.mem_erase_of_ne (fun z => nd'.1 (by rw [← z]; exact hy))).mpr (sub y (List.mem_cons_of_mem _ hy))) (by
      rw [List.length_erase_of_mem hx]
      simp at h
      omega)
    exact (List.Perm.cons x ih).trans (List.perm_cons_erase hx).symm
theorem sub_len : ∀ {L ns : List Int}, L.Nodup → (∀ x ∈ L, x ∈ ns) → L.length ≤ ns.length
  | [], _, _, _ => Nat.zero_le _
  | x :: L, ns, nd, sub => by
    have hx := sub x (List.mem_cons_self ..)
    have nd' := List.nodup_cons.mp nd
    have ih := sub_len (L := L) (ns := ns.erase x) nd'.2 fun y hy => (List.mem_erase_of_ne (fun z => nd'.1 (by rw [← z]; exact hy))).mpr (sub y (List.mem_cons_of_mem _ hy))
    have := List.length_erase_of_mem hx
    have hp : 0 < ns.length := List.length_pos_of_mem hx
    show L.length + 1 ≤ ns.length
    omega
theorem count_nd {L ns : List Int} (nd : L.Nodup) (m : ∀ x, x ∈ L ↔ x ∈ ns) : L.length = ns.length ↔ ns.Nodup :=
  ⟨fun h => (sub_perm nd (fun x hx => (m x).mp hx) h).nodup_iff.mp nd, fun h => Nat.le_antisymm (sub_len nd fun x hx => (m x).mp hx) (sub_len h fun x hx => (m x).mpr hx)⟩
end MmT
namespace L2
open PySem PySem.Spec PyProof.Rows
section
variable {X : Cx}
def rMinT (K : PySem.W.Frag) : List V → Hp → VK → Prop := fun vs H Q => ∃ (a : Addr) (ns : List Int), vs = [V.ref a] ∧ SqT K H a (ns.map V.int) ∧ 0 < ns.length ∧ ∀ m, m ∈ ns → (∀ y ∈ ns, m ≤ y) → Q (.int m) H
def rMaxT (K : PySem.W.Frag) : List V → Hp → VK → Prop := fun vs H Q => ∃ (a : Addr) (ns : List Int), vs = [V.ref a] ∧ SqT K H a (ns.map V.int) ∧ 0 < ns.length ∧ ∀ m, m ∈ ns → (∀ y ∈ ns, y ≤ m) → Q (.int m) H
theorem tup_is {h : Heap} {t : Addr} {its : List Value} (p : ∃ o : Obj, h.get? t = some o ∧ o.cls = .type "tuple" ∧ ∃ k, o.data = .seq its.toArray k) : h.IsTuple t its.toArray := by
  obtain ⟨o, h1, h2, k, h3⟩ := p
  exact ⟨o, h1, h2, k, h3⟩
theorem cr_minT (calm : X.calm = true) : CallR X (.builtin "min") (rMinT X.K) := by
  intro pins s σ H vs us Q I r h
  obtain ⟨a, ns, rfl, hs, pos, q⟩ := h
  obtain ⟨its, rv, ⟨o, ho, hc, k, hd⟩, hz⟩ := I.tuple hs
  rw [Vals.ref1 r]
  exact MmT.min_tup (I.ok.hd calm) ⟨o, ho, hc, k, hd⟩ rv.ints pos fun h' tk m u keep hm hl => ⟨.int m, H, I.kept keep, ⟨u, rfl⟩, q m hm hl⟩
theorem cr_maxT (calm : X.calm = true) : CallR X (.builtin "max") (rMaxT X.K) := by
  intro pins s σ H vs us Q I r h
  obtain ⟨a, ns, rfl, hs, pos, q⟩ := h
  obtain ⟨its, rv, ⟨o, ho, hc, k, hd⟩, hz⟩ := I.tuple hs
  rw [Vals.ref1 r]
  exact MmT.max_tup (I.ok.hd calm) ⟨o, ho, hc, k, hd⟩ rv.ints pos fun h' tk m u keep hm hl => ⟨.int m, H, I.kept keep, ⟨u, rfl⟩, q m hm hl⟩
/-- len(set(t)), t a tuple of ints: how many there are tells whether there are doubles -/
def tLenSetT (K : PySem.W.Frag) (ta : TE) : TE := fun σ H Q => ta σ H fun x H1 => ∃ (l : Addr) (ns : List Int), x = .ref l ∧ SqT K H1 l (ns.map V.int) ∧ ns.length ≤ 1000 ∧ ∀ c : Nat, c ≤ ns.length → (c = ns.length ↔ ns.Nodup) → Q (.int (c : Int)) H1
theorem pe_lenSetT {a : Expr} {ta : TE} {p p2 q pos : Pos} (calm : X.calm = true) (g1 : Gl X "len") (m1 : X.mg "len" = none) (g2 : Gl X "set") (m2 : X.mg "set" = none) (ha : PE X a ta)
    (na : starEach [a] X.env = (false, eval a X.env) :: starEach [] X.env := by rfl) : PE X (.Call (.Name "len" p) [.Call (.Name "set" p2) [a] [] q] [] pos) (tLenSetT X.K ta) := by
  refine ⟨fun pins s σ H Q I hw => ?_⟩
  refine Call_ (ld_blt I g1 m1 PySem.boot_len ?_)
  refine PyProof.Rows.callWith_builtin1 (PyProof.Rows.args_cons ?_ rfl) rfl rfl
  refine Call_ (ld_blt I g2 m2 PyProof.Rows.boot_set ?_)
  refine PyProof.Rows.callWith_type1 (PyProof.Rows.args_cons (thn (ha.run pins s σ H _ I hw) fun v s1 ⟨x, H1, I1, r1, z1⟩ => PyProof.Rows.args_nil ?_) na) na rfl
  obtain ⟨l, ns, rfl, hq, few, z1⟩ := z1
  cases r1
  obtain ⟨its, rv, ⟨o, ho, hc, k, hd⟩, hz⟩ := I1.tuple hq
  refine call_set_tupI ns (I1.ok.hd calm) ⟨o, ho, hc, k, hd⟩ (by simpa using rv.ints) (by unfold scanBound; omega) fun h' tk c hS hc' keep => ?_
  refine PyProof.Rows.args_nil ?_
  obtain ⟨o2, es, ep, t2, h1, h2, h3, _, h5, h6, _, h8, h9, _⟩ := hS
  have I2 : Inv X pins σ H1 { s1 with heap := h', toks := tk } := I1.kept keep
  have m : ∀ x, x ∈ es.toList.map keyOf ↔ x ∈ ns := fun x => by
    rw [← h6 x]
    exact decide_eq_true_iff
  have cnt := MmT.count_nd h5 m
  rw [List.length_map, Array.length_toList, h9] at cnt
  exact call_len_set h1 h2 h3 h8 (by omega) ⟨.int (c : Int), H1, I2.tok _, ⟨_, by rw [h9]⟩, z1 c hc' cnt⟩
end
end L2

/-! enumerate of a tuple; calls in a try's body; isinstance of an exception without a dict -/
namespace EnT
open PySem
/-- the iterator of the tuple t, and the enumerate object over the iterator at i, both as they are made -/
def itO (t : Addr) : Obj := { cls := .type "tuple_iterator", data := .fields #[.ref t, .int 0 0] }
def enO (i : Addr) : Obj := { cls := .type "enumerate", data := .fields #[.none, .bool false, .ref i, rawInt 0, .none, .none] }
def made (g : Heap) (t : Addr) : Heap := (g.push (itO t)).push (enO g.objs.size)
theorem made_top (g : Heap) (t : Addr) : (g.push (itO t)).objs.size = g.objs.size + 1 := Heap.size_push ..
theorem made_en (g : Heap) (t : Addr) : (made g t).get? (g.objs.size + 1) = some (enO g.objs.size) :=
  made_top g t ▸ Heap.get?_push_size (g.push (itO t)) (o := enO g.objs.size) rfl
theorem made_it (g : Heap) (t : Addr) : (made g t).get? g.objs.size = some (itO t) := Heap.get?_push_of_some _ (Heap.get?_push_size _ rfl)
theorem made_old (g : Heap) (t b : Addr) (o : Obj) (h : g.get? b = some o) : (made g t).get? b = some o :=
  Heap.get?_push_of_some _ (Heap.get?_push_of_some _ h)
/-- what enumerate's __new__ does with a tuple -/
theorem new_does (t : Addr) (vs : Array Value) : Meets (Builtin.«enumerate.__new__» ⟨[.type "enumerate", .ref t], []⟩)
    (fun _ R s => s.heap.IsTuple t vs ∧ R (.ok (.ret (.ref (s.heap.objs.size + 1)))) { s with heap := made s.heap t }) :=
  Meets.of_wp fun P w A R s there => by
    cases s with
    | mk g gl dw tc ow =>
      obtain ⟨isT, goal⟩ := there
      rw [← made_top g t] at goal
      have sub1 := sub_enumerate
      have mk_it : ∀ {A1 : Around} {E1 Q1 : Value → Shared → Prop}, Q1 (.ref g.objs.size) ⟨g.push (itO t), gl, dw, tc, ow⟩ → wpAny (model P w) A1 (pyIter (.ref t)) Q1 E1 ⟨g, gl, dw, tc, ow⟩ :=
        fun q => wpAny_pyIter_tuple isT q
      wp_walk using mk_it
      refine wpAny_stack_any fun _ => wpAny_pure ?_
      split
      · next cls _ _ _ _ _ =>
        by_cases same : (cls == Value.type "enumerate") = true
        · rw [same]
          wp_walk using mk_it
          exact ⟨_, rfl, goal⟩
        · rw [Bool.eq_false_iff.mpr same]
          wp_walk using mk_it
          exact ⟨_, rfl, goal⟩
      · wp_walk using mk_it
        exact ⟨_, rfl, goal⟩
end EnT
namespace EnT
open PySem PySem.Spec PyProof.Rows L2
theorem call_does {P : Program} {w : World} {A : Around} {E Q : Value → Shared → Prop} {s : Shared} {t : Addr} {vs : Array Value} (isT : s.heap.IsTuple t vs) (goal : Q (.ref (s.heap.objs.size + 1)) { s with heap := made s.heap t }) :
    wpAny (model P w) A (call (.type "enumerate") [.ref t]) Q E s := by
  have top : Shared.TypeIs { s with heap := made s.heap t } (.ref (s.heap.objs.size + 1)) "enumerate" := ⟨_, made_en s.heap t, rfl⟩
  have done : (fun (_ : Around) (R : Result → Shared → Prop) (z : Shared) => z.heap.IsTuple t vs ∧ R (.ok (.ret (.ref (z.heap.objs.size + 1)))) { z with heap := made z.heap t }) A.in1
      (wants (fun obj z => z.TypeIs obj "enumerate" ∧ Q obj z) E) s := ⟨isT, top, goal⟩
  exact callType_new F.called_enumerate (by decide) (F.typeCall_enumerate_1 _) (F.newCall_enumerate_1 _) (fun o => F.args_object_init_2 o _)
    F.entry_enumerate_new (new_does t vs) done
theorem tup_ne {h : Heap} {i t : Addr} {n : Nat} {vs : Array Value} (a : h.IsTupleIter i t n) (b : h.IsTuple t vs) : t ≠ i := by
  intro same
  subst same
  obtain ⟨u, hu, cu, _⟩ := a
  obtain ⟨v, hv, cv, _⟩ := b
  cases hu.symm.trans hv
  exact absurd (Value.type.inj (cu.symm.trans cv)) (by decide)
theorem en_ne {h : Heap} {e i t : Addr} {c : Int} {old : Value} {vs : Array Value} (a : IsEnum h e i c old) (b : h.IsTuple t vs) : e ≠ t := by
  intro same
  subst same
  obtain ⟨v, hv, cv, _⟩ := b
  cases (show h.get? e = _ from a).symm.trans hv
  exact absurd (Value.type.inj cv) (by decide)
/-- what the enumerate object at e walks with: its tuple at t, the iterator at i -/
def Stands (e i t : Addr) (n : Nat) (h : Heap) : Prop := (∃ old, IsEnum h e i ((n : Nat) : Int) old) ∧ h.IsTupleIter i t n ∧ e ≠ i
/-- the tuple at t, each item behind its number in a new pair -/
def ItN (K : PySem.W.Frag) (t : Addr) : It where
  go := fun n H => ∃ xs x, SqT K H t xs ∧ xs[n]? = some x
  yld := fun n H v H2 => ∃ p x, v = .ref p ∧ H p = none ∧ H2 = upd H p (.tup [.int (n : Nat), x]) ∧ ∀ xs, SqT K H t xs → xs[n]? = some x
  stop := fun n H => ∃ xs : List V, SqT K H t xs ∧ xs.length = n
theorem turns {P : Program} {w : World} {K : PySem.W.Frag} {es : List Expr} {kk : Nat} {ps : Pos} (e i t : Addr) : Turn P w K (.Tuple es kk ps) (ItN K t) [e, i] e (Stands e i t) := by
  constructor
  · exact List.mem_cons_self
  · rintro n h ⟨⟨old, a⟩, ⟨u, hu, cu, du⟩, ne⟩ b hb
    rcases List.mem_cons.mp hb with rfl | hb
    · exact ⟨_, a, fun v q => by cases q⟩
    · rw [List.mem_singleton.mp hb]
      exact ⟨u, hu, fun v q => by rw [du] at q; cases q⟩
  · rintro n h h2 ⟨⟨old, a⟩, b, ne⟩ kp
    exact ⟨⟨old, kp e List.mem_cons_self _ a⟩, b.at fun o q => kp i (List.mem_cons_of_mem _ List.mem_cons_self) o q, ne⟩
  · rintro X rfl rfl rfl calm n pins s σ H E I apart ⟨⟨old, a⟩, b, ne⟩ ⟨xs, x, tx, hx⟩
    obtain ⟨vs, rel, isT, _⟩ := I.tuple tx
    have isT := tup_is isT
    obtain ⟨v, hv, rv⟩ := rel.get hx
    have hv2 : vs.toArray[n]? = some v := by rw [List.getElem?_toArray]; exact hv
    have lt := (Array.getElem?_eq_some_iff.mp hv2).1
    have away : e ∉ [i, t] := fun z => by
      rcases List.mem_cons.mp z with z | z
      · exact ne z
      · exact en_ne a isT (List.mem_singleton.mp z)
    have drawn := Draws.tuple (prog := X.prog) (w := X.w) (A := X.A.in1) (I.ok.hd calm) i t (tup_ne b isT) vs.toArray
    have W := WalksT.enumerateD drawn e ne away List.mem_cons_self
    refine W.item n s _ E lt ⟨⟨old, a⟩, b, isT⟩ ?_
    rintro p ws h1 tk ⟨tok, v2, g, rfl⟩ up there mid kp1
    cases hv2.symm.trans g
    refine ⟨_, rfl, W.go es kk ps n p { s with heap := h1, toks := tk } _ E mid ?_⟩
    rintro h2 ⟨⟨old2, a2⟩, b2, _⟩ kp2
    obtain ⟨op, hop, cp, c1, dp⟩ := there
    have free : H p = none := I.hok.fresh up
    have made : ObjOk X.prog X.w (upd H p (.tup [.int (n : Nat), x])) h2 p (.tup [.int (n : Nat), x]) := by
      refine ⟨?_, [.int n tok, v], .cons ⟨tok, rfl⟩ (.cons rv .nil), op, kp2 p op (W.apart n p h1 mid) hop, cp, c1, dp⟩
      show 2 ≤ sizeLine
      decide
    have I2 := I.turnedNew (t' := tk) (fun c o nc q => kp2 c o nc (kp1 c o nc q)) apart up made
    refine ⟨.ref p, _, I2, rfl, ⟨p, x, rfl, free, rfl, fun ys ty => by rw [I.tuple_inj ty tx]; exact hx⟩, ⟨⟨old2, a2⟩, b2, ne⟩, fun c hc => ?_⟩
    rw [upd_ne fun z => by
      obtain ⟨o, ho, _⟩ : ∃ o, s.heap.get? c = some o ∧ True := by
        rcases List.mem_cons.mp hc with rfl | hc
        · exact ⟨_, a, trivial⟩
        · rw [List.mem_singleton.mp hc]
          obtain ⟨o, ho, _⟩ := b
          exact ⟨o, ho, trivial⟩
      have := Heap.lt_size ho
      rw [z] at this
      exact absurd up (Nat.not_le.mpr this)]
    exact (apart c hc).1
  · rintro X rfl rfl rfl calm n pins s σ H E I apart ⟨⟨old, a⟩, b, ne⟩ ⟨xs, tx, len⟩
    obtain ⟨vs, rel, isT, _⟩ := I.tuple tx
    have isT := tup_is isT
    have away : e ∉ [i, t] := fun z => by
      rcases List.mem_cons.mp z with z | z
      · exact ne z
      · exact en_ne a isT (List.mem_singleton.mp z)
    have drawn := Draws.tuple (prog := X.prog) (w := X.w) (A := X.A.in1) (I.ok.hd calm) i t (tup_ne b isT) vs.toArray
    have W := WalksT.enumerateD drawn e ne away List.mem_cons_self
    have eq : n = vs.toArray.size := by rw [← len, rel.length, List.size_toArray]
    subst eq
    exact W.done s _ E ⟨⟨old, a⟩, b, isT⟩ fun h2 tk kp => ⟨rfl, I.turnedL kp apart⟩
  · rintro A n s Q E ⟨⟨old, a⟩, _⟩ goal
    exact wpAny_pyIter_enum a goal
def iNum (K : PySem.W.Frag) (ta : TA) : TI := fun σ H R => ta σ H fun vs H1 => ∃ t xs, vs = [.ref t] ∧ SqT K H1 t xs ∧ R (ItN K t) H1
theorem pi_enumT {X : Cx} {e : Expr} {ta : TA} {p pos tpos : Pos} {es : List Expr} {kk : Nat} (g : Gl X "enumerate") (free : X.mg "enumerate" = none) (arg : PA X [e] ta) (one : starEach [e] X.env = [(false, eval e X.env)] := by rfl) :
    PI X (.Tuple es kk tpos) (.Call (.Name "enumerate" p) [e] [] pos) (iNum X.K ta) := by
  constructor
  intro pins s σ H R I had
  refine Call_ (ld_blt I g free boot_enumerate ?_)
  refine PyProof.Rows.callWith_type1 ?_ one rfl
  refine thn (arg.run pos pins s σ H _ I had) ?_
  rintro us s1 ⟨vs, H1, I1, rel, t, xs, rfl, tx, goal⟩
  obtain ⟨u, rfl, ru⟩ := vals1 rel
  cases (show u = Value.ref t from ru)
  obtain ⟨ws, _, isT, _⟩ := I1.tuple tx
  refine call_does (tup_is isT) (wpAny_pyIter_enum (made_en s1.heap t) ?_)
  have I2 : Inv X pins σ H1 { s1 with heap := made s1.heap t } := I1.kept (t' := s1.toks) fun b o q => made_old s1.heap t b o q
  refine ⟨_, _, _, _, H1, rfl, I2, turns (s1.heap.objs.size + 1) s1.heap.objs.size t, ⟨⟨.none, made_en s1.heap t⟩, ⟨_, made_it s1.heap t, rfl, rfl⟩, Nat.succ_ne_self _⟩, fun b hb => ?_, goal⟩
  have up : s1.heap.objs.size ≤ b := by
    rcases List.mem_cons.mp hb with rfl | hb
    · exact Nat.le_succ _
    · rw [List.mem_singleton.mp hb]
      exact Nat.le_refl _
  exact I1.fpOk up (I1.hok.fresh up)
theorem walk_enumT {K : PySem.W.Frag} {t : Addr} {xs : List V} : Walk (ItN K t) xs.length (fun H => SqT K H t xs) (YPair (fun n => some (.int (n : Nat))) (fun n => xs[n]?)) where
  goes := fun n _ lt q => ⟨xs, xs[n], q, List.getElem?_eq_getElem lt⟩
  stops := fun _ q => ⟨xs, q, rfl⟩
  yields := fun n _ _ _ _ q y => by
    obtain ⟨p, x, a, b, c, d⟩ := y
    exact ⟨p, .int (n : Nat), x, a, b, c, rfl, d xs q⟩
end EnT
namespace L2
open PySem PySem.Spec PyProof.Rows
/-- isinstance(e, c), e the exception that the suite holds, with a dict or without -/
def rIsS2 (K : PySem.W.Frag) (a : Addr) (cls : Value) (d : Option Addr) : List V → Hp → VK → Prop := fun xs H Q => ∃ (C : Addr) (c : V) (u : Value) (b : Bool), xs = [.ref a, c] ∧ cls = .ref C ∧ (d = none ∨ ∃ dd fs, d = some dd ∧ H dd = some (.xd fs)) ∧
  ExcC K C ∧ ClsV c u ∧ PySem.W.kitOne K (.ref C) u = some b ∧ Q (.bl b) H
theorem call_isS2 {X : Cx} {K : PySem.W.Frag} {a : Addr} {cls : Value} {d : Option Addr} {oe : Obj} {pn : List (Addr × Obj)} (hK : X.K = K) (hz : Zc cls d oe) (hf : ∃ vs, oe.data = .fields vs) : CallR (X.suite a ((a, oe) :: pn)) (.builtin "isinstance") (rIsS2 K a cls d) := by
  rintro pins s σ H _ us Q I rel ⟨C, c, u, b, rfl, rfl, kind, D, isC, ans, goal⟩
  rcases kind with rfl | ⟨dd, fs, rfl, there⟩
  · have E : CallR (X.suite a ((a, oe) :: pn)) (.builtin "isinstance") (rIsE X.K C a) := call_isE (hK ▸ D) hz hf
    exact E pins s σ H _ us Q I rel ⟨c, u, b, rfl, fun v q => isC.eq q, hK ▸ ans, goal⟩
  · exact call_isS hK hz hf pins s σ H _ us Q I rel ⟨C, dd, fs, c, u, b, rfl, rfl, rfl, there, D, isC, ans, goal⟩
theorem call_tuple_ofK {X : Cx} {K : PySem.W.Frag} (h : X.K = K) : CallR X (.type "tuple") (fun xs H Q => ∃ p ys, xs = [.ref p] ∧ ((SqL K H p ys ∧ ∀ l, H l = none → Q (.ref l) (upd H l (.tup ys))) ∨ (SqT K H p ys ∧ Q (.ref p) H))) := by
  subst h
  exact call_tuple_of
theorem call_list_ofK {X : Cx} {K : PySem.W.Frag} (h : X.K = K) : CallR X (.type "list") (fun xs H Q => ∃ p ys, xs = [.ref p] ∧ (SqL K H p ys ∨ SqT K H p ys) ∧ ∀ l, H l = none → Q (.ref l) (upd H l (.lst ys))) := by
  subst h
  exact call_list_of
end L2
namespace RZ
open PySem PySem.Spec PyProof.Rows L2
theorem walk_zipT {K : PySem.W.Frag} {a b : Addr} {xs ys : List V} {n : Nat} (hn : n = min xs.length ys.length) : Walk (ItzT K a b) n (fun H => SqT K H a xs ∧ SqT K H b ys) (YPair (fun i => xs[i]?) (fun i => ys[i]?)) where
  goes := fun i _ lt q => ⟨xs, ys, xs[i]'(by omega), ys[i]'(by omega), q.1, q.2, List.getElem?_eq_getElem _, List.getElem?_eq_getElem _⟩
  stops := fun _ q => ⟨xs, ys, q.1, q.2, by omega⟩
  yields := fun i _ _ _ _ q y => by
    obtain ⟨p, x, z, a1, a2, a3, a4, a5⟩ := y
    exact ⟨p, x, z, a1, a2, a3, a4 xs q.1, a5 ys q.2⟩
end RZ

namespace Pv
open PySem L2
/-! ### error classes -/
def veM (M : Addr) : List Value := [.ref M, .type "ValueError", .type "Exception", .type "BaseException", .type "object"]
structure ErrK (K : PySem.W.Frag) (mg : Str → Option Value) (M C : Addr) (x : Str) : Prop where
  g : mg x = some (.ref C)
  k : PySem.W.keepIn K (.ref C) = true
  l : ∃ nm q N bs sn sub ab col dd k0 k1 k2 k3 k5, K.lookup C = some (excClassObj nm q C N bs (veM M) true sn sub ab col dd k0 k1 k2 k3 k5 "ValueError.__new__")
  sa : PySem.W.findIn K (.ref C) "__setattr__" = some (some (.builtin "object.__setattr__"))
  ga : PySem.W.findIn K (.ref C) "__getattribute__" = some (some (.builtin "BaseException.__getattribute__"))
  gg : PySem.W.findIn K (.ref C) "__getattr__" = some none
  ca : PySem.W.findIn K (.ref C) "__class__" = some (some (.builtin "object.__class__"))
structure ErrM (K : PySem.W.Frag) (mg : Str → Option Value) (M : Addr) : Prop where
  g : mg "MendError" = some (.ref M)
  l : ∃ nm q N bs bm sn sub ab col dd k0 k1 k2 k3 k5, K.lookup M = some (excClassObj nm q M N bs bm true sn sub ab col dd k0 k1 k2 k3 k5 "ValueError.__new__")
structure ErrF (K : PySem.W.Frag) (C I : Addr) (qual f : Str) (st : Stmt) : Prop where
  i : PySem.W.findIn K (.ref C) "__init__" = some (some (.ref I))
  t : PySem.W.typeIn K (.ref I) = some (.type "function")
  nf : PySem.W.findIn K (.ref C) f = some none
  fn : ∃ fd, Fun K "__init__" qual st I fd
section
variable {K : PySem.W.Frag} {mg : Str → Option Value} {M C D : Addr} {x : Str}
theorem ErrK.ty (E : ErrK K mg M C x) : PySem.W.typeIn K (.ref C) = some (.type "type") := by
  obtain ⟨nm, q, N, bs, sn, sub, ab, col, dd, k0, k1, k2, k3, k5, h⟩ := E.l
  show (K.lookup C).map (·.cls) = _
  rw [h]
  rfl
theorem ErrM.ty (E : ErrM K mg M) : PySem.W.typeIn K (.ref M) = some (.type "type") := by
  obtain ⟨nm, q, N, bs, bm, sn, sub, ab, col, dd, k0, k1, k2, k3, k5, h⟩ := E.l
  show (K.lookup M).map (·.cls) = _
  rw [h]
  rfl
theorem ErrM.cls (E : ErrM K mg M) : (PySem.W.clsIn K M).isSome = true := by
  obtain ⟨nm, q, N, bs, bm, sn, sub, ab, col, dd, k0, k1, k2, k3, k5, h⟩ := E.l
  unfold PySem.W.clsIn
  rw [h]
  rfl
theorem ErrK.mro (E : ErrK K mg M C x) (v : Value) : PySem.W.mroIn K C v = some ((Value.ref C :: veM M).contains v) := by
  obtain ⟨nm, q, N, bs, sn, sub, ab, col, dd, k0, k1, k2, k3, k5, h⟩ := E.l
  unfold PySem.W.mroIn PySem.W.clsIn
  rw [h]
  rfl
theorem ErrK.cls (E : ErrK K mg M C x) : (PySem.W.clsIn K C).isSome = true := by
  obtain ⟨nm, q, N, bs, sn, sub, ab, col, dd, k0, k1, k2, k3, k5, h⟩ := E.l
  unfold PySem.W.clsIn
  rw [h]
  rfl
theorem ErrK.hd (E : ErrK K mg M C x) : PySem.W.hasDictIn K C = true := by
  obtain ⟨nm, q, N, bs, sn, sub, ab, col, dd, k0, k1, k2, k3, k5, h⟩ := E.l
  unfold PySem.W.hasDictIn PySem.W.clsIn
  rw [h]
  rfl
theorem ErrK.sub (E : ErrK K mg M C x) : PySem.W.subIn K (.ref C) (.type "BaseException") = some true := by
  show PySem.W.mroIn K C _ = _
  rw [E.mro]
  simp [veM]
theorem ErrK.xfc (E : ErrK K mg M C x) : XfC K C := ⟨E.ga, E.gg, E.sub, E.hd⟩
theorem ErrK.oex (E : ErrK K mg M C x) : OexC K C := by
  obtain ⟨nm, q, N, bs, sn, sub, ab, col, dd, k0, k1, k2, k3, k5, h⟩ := E.l
  exact ⟨⟨nm, q, N, bs, veM M, sn, sub, ab, col, dd, k0, k1, k2, k3, k5, h, rfl⟩, E.sa, E.sub, E.ty, E.k⟩
theorem ErrK.exc (E : ErrK K mg M C x) (cn : PySem.W.specialIn K (.builtin "object.__class__") "__get__" = some (some (.builtin "getset_descriptor.__get__"))) (ct : PySem.W.takesIn K (.builtin "object.__class__") = some true) : ExcC K C :=
  ⟨E.ga, E.gg, E.sub, E.hd, E.ca, cn, ct, by rw [E.mro]; simp [veM]⟩
theorem kitCls_ref {t : Value} (h1 : (PySem.W.clsIn K D).isSome = true) (h2 : PySem.W.typeIn K (.ref D) = some (.type "type")) : PySem.W.kitCls K t (.ref D) = PySem.W.subIn K t (.ref D) := by
  show (if ((PySem.W.clsIn K D).isSome && PySem.W.typeIn K (.ref D) == some (.type "type")) = true then PySem.W.subIn K t (.ref D) else none) = _
  rw [h1, h2, if_pos (by simp)]
/-- isinstance against the class itself, its base, ValueError, another class -/
theorem kit_self : PySem.W.kitOne K (.ref C) (.ref C) = some true := by
  unfold PySem.W.kitOne
  rw [if_pos (by simp)]
theorem ErrK.kit_ne {y : Str} (E : ErrK K mg M C x) (F : ErrK K mg M D y) (h : C ≠ D) (hM : M ≠ D) : PySem.W.kitOne K (.ref C) (.ref D) = some false := by
  unfold PySem.W.kitOne
  rw [if_neg (by simp [h])]
  rw [kitCls_ref F.cls F.ty]
  show PySem.W.mroIn K C _ = _
  rw [E.mro]
  have h1 : D ≠ C := fun z => h z.symm
  have h2 : D ≠ M := fun z => hM z.symm
  simp [veM, h1, h2]
theorem ErrK.kit_base (E : ErrK K mg M C x) (F : ErrM K mg M) (h : C ≠ M) : PySem.W.kitOne K (.ref C) (.ref M) = some true := by
  unfold PySem.W.kitOne
  rw [if_neg (by simp [h])]
  rw [kitCls_ref F.cls F.ty]
  show PySem.W.mroIn K C _ = _
  rw [E.mro]
  simp [veM]
theorem ErrK.kit_ve (E : ErrK K mg M C x) : PySem.W.kitOne K (.ref C) (.type "ValueError") = some true := by
  unfold PySem.W.kitOne
  rw [if_neg (by simp)]
  unfold PySem.W.kitCls
  show (if PySem.W.kitMeta "ValueError" = true then PySem.W.mroIn K C (.type "ValueError") else none) = _
  rw [if_pos (by decide +kernel), E.mro]
  simp [veM]
theorem ErrK.exm (E : ErrK K mg M C x) : PySem.W.exmOne K (.ref C) (.ref C) = some true := by
  unfold PySem.W.exmOne
  rw [E.sub, if_pos (by simp)]
  rw [kitCls_ref E.cls E.ty]
  show PySem.W.mroIn K C _ = _
  rw [E.mro]
  simp
theorem ErrK.exm_ne {y : Str} (E : ErrK K mg M C x) (F : ErrK K mg M D y) (h : C ≠ D) (hM : M ≠ D) : PySem.W.exmOne K (.ref C) (.ref D) = some false := by
  unfold PySem.W.exmOne
  rw [F.sub, if_pos (by simp)]
  rw [kitCls_ref F.cls F.ty]
  show PySem.W.mroIn K C _ = _
  rw [E.mro]
  have h1 : D ≠ C := fun z => h z.symm
  have h2 : D ≠ M := fun z => hM z.symm
  simp [veM, h1, h2]
end
def word : Nat → Str
  | 0 => "free" | 1 => "pair" | 2 => "claim" | 3 => "hook" | 4 => "relay" | 5 => "clamp" | 6 => "trail" | _ => "wheel"
def wordsV : List V := [.str "free", .str "pair", .str "claim", .str "hook", .str "relay", .str "clamp", .str "trail", .str "wheel"]
def formsT0 : List (List Nat × Str) := [([0], "free"), ([1, 0], "pair"), ([1, 1], "claim"), ([1, 2, 1], "hook"), ([1, 2, 2], "relay"), ([1, 2, 1, 2], "clamp"), ([1, 2, 3, 2], "trail"), ([1, 2, 3, 0], "wheel")]
/-- a def with its promise: how it binds, too -/
def Okd (P : Program) (w : World) (K : PySem.W.Frag) (mg : Str → Option Value) (base : Heap) (CX : CXT) (k : Nat) (f : Addr) (ps : List Str) (sp : Sp) : Prop := ∃ fd, FnOk P w K mg base CX k f fd ps sp ∧ Binds K fd ps []
/-- a def called where an exception is handled, with its promise -/
def Okh (P : Program) (w : World) (K : PySem.W.Frag) (mg : Str → Option Value) (base : Heap) (CX : CXT) (k : Nat) (f : Addr) (ps : List Str) (sp : Sp) : Prop := ∃ fd, L2H.FnH P w K mg base CX k f fd ps sp ∧ Binds K fd ps []
/-! ### the text -/
def top (i : Nat) : Stmt := PySem.Challenge.pw_peermend_k09_sides_of_changes.main.body.getD i (.Pass ⟨0, 0, 0, 0⟩)
abbrev s_check_image : Stmt := top 6
abbrev s_check_change : Stmt := top 9
abbrev s_sides : Stmt := top 10
abbrev s_side_of : Stmt := top 11
abbrev s_in_order : Stmt := top 12
abbrev s_shown : Stmt := top 13
abbrev s_law_mix : Stmt := top 15
abbrev s_law_box : Stmt := top 16
abbrev s_law_draw : Stmt := top 17
abbrev s_law_whole : Stmt := top 18
abbrev s_law_row : Stmt := top 19
abbrev s_law_names : Stmt := top 20
abbrev s_law_valid : Stmt := top 21
abbrev s_law_taken : Stmt := top 22
abbrev s_law_formed : Stmt := top 23
abbrev s_law_side_due : Stmt := top 24
abbrev s_law_list_told : Stmt := top 25
abbrev s_law_sides_kept : Stmt := top 26
abbrev s_law_check_kept : Stmt := top 27
abbrev s_law_image : Stmt := top 28
abbrev s_law_side_kept : Stmt := top 29
abbrev s_law_bent : Stmt := top 30
abbrev s_law_refused : Stmt := top 31
abbrev s_law_bent_kept : Stmt := top 32
abbrev s_law : Stmt := top 33
abbrev s_InvalidImage : Stmt := inClass (top 2) 0
structure Ad where
  check_image : Addr
  check_change : Addr
  sides : Addr
  side_of : Addr
  in_order : Addr
  shown : Addr
  law_mix : Addr
  law_box : Addr
  law_draw : Addr
  law_whole : Addr
  law_row : Addr
  law_names : Addr
  law_valid : Addr
  law_taken : Addr
  law_formed : Addr
  law_side_due : Addr
  law_list_told : Addr
  law_sides_kept : Addr
  law_check_kept : Addr
  law_image : Addr
  law_side_kept : Addr
  law_bent : Addr
  law_refused : Addr
  law_bent_kept : Addr
  law : Addr
  SIDES : Addr
  MendError : Addr
  InvalidImage : Addr
  InvalidKind : Addr
  InvalidChange : Addr
  i_InvalidImage : Addr
abbrev N_check_image : List Str := ["image", "size", "record", "name"]
abbrev P_check_image : List Str := ["image"]
theorem sc_check_image : FnScope N_check_image P_check_image (defScope s_check_image) := ⟨rfl, rfl, rfl, by decide +kernel, rfl, by decide +kernel, by decide +kernel⟩
abbrev N_check_change : List Str := ["change", "size", "word", "records"]
abbrev P_check_change : List Str := ["change", "size"]
theorem sc_check_change : FnScope N_check_change P_check_change (defScope s_check_change) := ⟨rfl, rfl, rfl, by decide +kernel, rfl, by decide +kernel, by decide +kernel⟩
abbrev N_sides : List Str := ["change", "word", "records", "first", "second"]
abbrev P_sides : List Str := ["change"]
theorem sc_sides : FnScope N_sides P_sides (defScope s_sides) := ⟨rfl, rfl, rfl, by decide +kernel, rfl, by decide +kernel, by decide +kernel⟩
abbrev N_side_of : List Str := ["image", "change", "number", "side", "name", "record"]
abbrev P_side_of : List Str := ["image", "change"]
theorem sc_side_of : FnScope N_side_of P_side_of (defScope s_side_of) := ⟨rfl, rfl, rfl, by decide +kernel, rfl, by decide +kernel, by decide +kernel⟩
abbrev N_in_order : List Str := ["word", "records"]
abbrev P_in_order : List Str := ["word", "records"]
theorem sc_in_order : FnScope N_in_order P_in_order (defScope s_in_order) := ⟨rfl, rfl, rfl, by decide +kernel, rfl, by decide +kernel, by decide +kernel⟩
abbrev N_shown : List Str := ["records", "places", "place", "record"]
abbrev P_shown : List Str := ["records", "places"]
theorem sc_shown : FnScope N_shown P_shown (defScope s_shown) := ⟨rfl, rfl, rfl, by decide +kernel, rfl, by decide +kernel, by decide +kernel⟩
abbrev N_law_mix : List Str := ["seed", "step", "one", "two"]
abbrev P_law_mix : List Str := ["seed", "step"]
theorem sc_law_mix : FnScope N_law_mix P_law_mix (defScope s_law_mix) := ⟨rfl, rfl, rfl, by decide +kernel, rfl, by decide +kernel, by decide +kernel⟩
abbrev N_law_box : List Str := ["script", "seed", "cell"]
abbrev P_law_box : List Str := ["script"]
theorem sc_law_box : FnScope N_law_box P_law_box (defScope s_law_box) := ⟨rfl, rfl, rfl, by decide +kernel, rfl, by decide +kernel, by decide +kernel⟩
abbrev N_law_draw : List Str := ["box", "many", "cell", "digits"]
abbrev P_law_draw : List Str := ["box", "many"]
theorem sc_law_draw : FnScope N_law_draw P_law_draw (defScope s_law_draw) := ⟨rfl, rfl, rfl, by decide +kernel, rfl, by decide +kernel, by decide +kernel⟩
abbrev N_law_whole : List Str := ["told", "due"]
abbrev P_law_whole : List Str := ["told", "due"]
theorem sc_law_whole : FnScope N_law_whole P_law_whole (defScope s_law_whole) := ⟨rfl, rfl, rfl, by decide +kernel, rfl, by decide +kernel, by decide +kernel⟩
abbrev N_law_row : List Str := ["told", "due", "k"]
abbrev P_law_row : List Str := ["told", "due"]
theorem sc_law_row : FnScope N_law_row P_law_row (defScope s_law_row) := ⟨rfl, rfl, rfl, by decide +kernel, rfl, by decide +kernel, by decide +kernel⟩
abbrev N_law_names : List Str := ["word", "line", "a", "b", "c", "d"]
abbrev P_law_names : List Str := ["word", "line"]
theorem sc_law_names : FnScope N_law_names P_law_names (defScope s_law_names) := ⟨rfl, rfl, rfl, by decide +kernel, rfl, by decide +kernel, by decide +kernel⟩
abbrev N_law_valid : List Str := ["word", "line", "size", "many", "k"]
abbrev P_law_valid : List Str := ["word", "line", "size"]
theorem sc_law_valid : FnScope N_law_valid P_law_valid (defScope s_law_valid) := ⟨rfl, rfl, rfl, by decide +kernel, rfl, by decide +kernel, by decide +kernel⟩
abbrev N_law_taken : List Str := ["box", "size", "many", "pool", "found", "turn"]
abbrev P_law_taken : List Str := ["box", "size", "many"]
theorem sc_law_taken : FnScope N_law_taken P_law_taken (defScope s_law_taken) := ⟨rfl, rfl, rfl, by decide +kernel, rfl, by decide +kernel, by decide +kernel⟩
abbrev N_law_formed : List Str := ["word", "line", "at", "k", "found"]
abbrev P_law_formed : List Str := ["word", "line"]
theorem sc_law_formed : FnScope N_law_formed P_law_formed (defScope s_law_formed) := ⟨rfl, rfl, rfl, by decide +kernel, rfl, by decide +kernel, by decide +kernel⟩
abbrev N_law_side_due : List Str := ["word", "line", "names", "found", "x"]
abbrev P_law_side_due : List Str := ["word", "line", "names"]
theorem sc_law_side_due : FnScope N_law_side_due P_law_side_due (defScope s_law_side_due) := ⟨rfl, rfl, rfl, by decide +kernel, rfl, by decide +kernel, by decide +kernel⟩
abbrev N_law_list_told : List Str := ["told", "due", "k"]
abbrev P_law_list_told : List Str := ["told", "due"]
theorem sc_law_list_told : FnScope N_law_list_told P_law_list_told (defScope s_law_list_told) := ⟨rfl, rfl, rfl, by decide +kernel, rfl, by decide +kernel, by decide +kernel⟩
abbrev N_law_sides_kept : List Str := ["word", "line", "names", "told"]
abbrev P_law_sides_kept : List Str := ["word", "line"]
theorem sc_law_sides_kept : FnScope N_law_sides_kept P_law_sides_kept (defScope s_law_sides_kept) := ⟨rfl, rfl, rfl, by decide +kernel, rfl, by decide +kernel, by decide +kernel⟩
abbrev N_law_check_kept : List Str := ["word", "line", "size", "told", "e"]
abbrev P_law_check_kept : List Str := ["word", "line", "size"]
theorem sc_law_check_kept : FnScope N_law_check_kept P_law_check_kept (defScope s_law_check_kept) := ⟨rfl, rfl, rfl, by decide +kernel, rfl, by decide +kernel, by decide +kernel⟩
abbrev N_law_image : List Str := ["box", "word", "line", "size", "image", "names", "way", "k", "side", "flat", "x"]
abbrev P_law_image : List Str := ["box", "word", "line", "size"]
theorem sc_law_image : FnScope N_law_image P_law_image (defScope s_law_image) := ⟨rfl, rfl, rfl, by decide +kernel, rfl, by decide +kernel, by decide +kernel⟩
abbrev N_law_side_kept : List Str := ["image", "word", "line", "names", "shown", "passed", "told", "x"]
abbrev P_law_side_kept : List Str := ["image", "word", "line"]
theorem sc_law_side_kept : FnScope N_law_side_kept P_law_side_kept (defScope s_law_side_kept) := ⟨rfl, rfl, rfl, by decide +kernel, rfl, by decide +kernel, by decide +kernel⟩
abbrev N_law_bent : List Str := ["box", "word", "line", "size", "way", "found", "at", "words", "menu", "other", "kept"]
abbrev P_law_bent : List Str := ["box", "word", "line", "size"]
theorem sc_law_bent : FnScope N_law_bent P_law_bent (defScope s_law_bent) := ⟨rfl, rfl, rfl, by decide +kernel, rfl, by decide +kernel, by decide +kernel⟩
abbrev N_law_refused : List Str := ["box", "image", "word", "line", "size", "right", "e", "bad", "turn", "menu", "due", "x"]
abbrev P_law_refused : List Str := ["box", "image", "word", "line"]
theorem sc_law_refused : FnScope N_law_refused P_law_refused (defScope s_law_refused) := ⟨rfl, rfl, rfl, by decide +kernel, rfl, by decide +kernel, by decide +kernel⟩
abbrev N_law_bent_kept : List Str := ["box", "size", "word", "line", "bent", "image", "x"]
abbrev P_law_bent_kept : List Str := ["box", "size", "word", "line"]
theorem sc_law_bent_kept : FnScope N_law_bent_kept P_law_bent_kept (defScope s_law_bent_kept) := ⟨rfl, rfl, rfl, by decide +kernel, rfl, by decide +kernel, by decide +kernel⟩
abbrev N_law : List Str := ["script", "box", "size", "further", "found", "word", "many", "line", "turn", "taken"]
abbrev P_law : List Str := ["script"]
theorem sc_law : FnScope N_law P_law (defScope s_law) := ⟨rfl, rfl, rfl, by decide +kernel, rfl, by decide +kernel, by decide +kernel⟩
abbrev N_InvalidImage : List Str := ["self", "record"]
abbrev P_InvalidImage : List Str := ["self", "record"]
theorem sc_InvalidImage : FnScope N_InvalidImage P_InvalidImage (defScope s_InvalidImage) := ⟨rfl, rfl, rfl, by decide +kernel, rfl, by decide +kernel, by decide +kernel⟩
structure Txt (K : PySem.W.Frag) (mg : Str → Option Value) (A : Ad) : Prop where
  g_check_image : mg "check_image" = some (.ref A.check_image)
  k_check_image : PySem.W.keepIn K (.ref A.check_image) = true
  d_check_image : ∃ fd, Fun K "check_image" "check_image" s_check_image A.check_image fd
  g_check_change : mg "check_change" = some (.ref A.check_change)
  k_check_change : PySem.W.keepIn K (.ref A.check_change) = true
  d_check_change : ∃ fd, Fun K "check_change" "check_change" s_check_change A.check_change fd
  g_sides : mg "sides" = some (.ref A.sides)
  k_sides : PySem.W.keepIn K (.ref A.sides) = true
  d_sides : ∃ fd, Fun K "sides" "sides" s_sides A.sides fd
  g_side_of : mg "side_of" = some (.ref A.side_of)
  k_side_of : PySem.W.keepIn K (.ref A.side_of) = true
  d_side_of : ∃ fd, Fun K "side_of" "side_of" s_side_of A.side_of fd
  g_in_order : mg "_in_order" = some (.ref A.in_order)
  k_in_order : PySem.W.keepIn K (.ref A.in_order) = true
  d_in_order : ∃ fd, Fun K "_in_order" "_in_order" s_in_order A.in_order fd
  g_shown : mg "_shown" = some (.ref A.shown)
  k_shown : PySem.W.keepIn K (.ref A.shown) = true
  d_shown : ∃ fd, Fun K "_shown" "_shown" s_shown A.shown fd
  g_law_mix : mg "_law_mix" = some (.ref A.law_mix)
  k_law_mix : PySem.W.keepIn K (.ref A.law_mix) = true
  d_law_mix : ∃ fd, Fun K "_law_mix" "_law_mix" s_law_mix A.law_mix fd
  g_law_box : mg "_law_box" = some (.ref A.law_box)
  k_law_box : PySem.W.keepIn K (.ref A.law_box) = true
  d_law_box : ∃ fd, Fun K "_law_box" "_law_box" s_law_box A.law_box fd
  g_law_draw : mg "_law_draw" = some (.ref A.law_draw)
  k_law_draw : PySem.W.keepIn K (.ref A.law_draw) = true
  d_law_draw : ∃ fd, Fun K "_law_draw" "_law_draw" s_law_draw A.law_draw fd
  g_law_whole : mg "_law_whole" = some (.ref A.law_whole)
  k_law_whole : PySem.W.keepIn K (.ref A.law_whole) = true
  d_law_whole : ∃ fd, Fun K "_law_whole" "_law_whole" s_law_whole A.law_whole fd
  g_law_row : mg "_law_row" = some (.ref A.law_row)
  k_law_row : PySem.W.keepIn K (.ref A.law_row) = true
  d_law_row : ∃ fd, Fun K "_law_row" "_law_row" s_law_row A.law_row fd
  g_law_names : mg "_law_names" = some (.ref A.law_names)
  k_law_names : PySem.W.keepIn K (.ref A.law_names) = true
  d_law_names : ∃ fd, Fun K "_law_names" "_law_names" s_law_names A.law_names fd
  g_law_valid : mg "_law_valid" = some (.ref A.law_valid)
  k_law_valid : PySem.W.keepIn K (.ref A.law_valid) = true
  d_law_valid : ∃ fd, Fun K "_law_valid" "_law_valid" s_law_valid A.law_valid fd
  g_law_taken : mg "_law_taken" = some (.ref A.law_taken)
  k_law_taken : PySem.W.keepIn K (.ref A.law_taken) = true
  d_law_taken : ∃ fd, Fun K "_law_taken" "_law_taken" s_law_taken A.law_taken fd
  g_law_formed : mg "_law_formed" = some (.ref A.law_formed)
  k_law_formed : PySem.W.keepIn K (.ref A.law_formed) = true
  d_law_formed : ∃ fd, Fun K "_law_formed" "_law_formed" s_law_formed A.law_formed fd
  g_law_side_due : mg "_law_side_due" = some (.ref A.law_side_due)
  k_law_side_due : PySem.W.keepIn K (.ref A.law_side_due) = true
  d_law_side_due : ∃ fd, Fun K "_law_side_due" "_law_side_due" s_law_side_due A.law_side_due fd
  g_law_list_told : mg "_law_list_told" = some (.ref A.law_list_told)
  k_law_list_told : PySem.W.keepIn K (.ref A.law_list_told) = true
  d_law_list_told : ∃ fd, Fun K "_law_list_told" "_law_list_told" s_law_list_told A.law_list_told fd
  g_law_sides_kept : mg "_law_sides_kept" = some (.ref A.law_sides_kept)
  k_law_sides_kept : PySem.W.keepIn K (.ref A.law_sides_kept) = true
  d_law_sides_kept : ∃ fd, Fun K "_law_sides_kept" "_law_sides_kept" s_law_sides_kept A.law_sides_kept fd
  g_law_check_kept : mg "_law_check_kept" = some (.ref A.law_check_kept)
  k_law_check_kept : PySem.W.keepIn K (.ref A.law_check_kept) = true
  d_law_check_kept : ∃ fd, Fun K "_law_check_kept" "_law_check_kept" s_law_check_kept A.law_check_kept fd
  g_law_image : mg "_law_image" = some (.ref A.law_image)
  k_law_image : PySem.W.keepIn K (.ref A.law_image) = true
  d_law_image : ∃ fd, Fun K "_law_image" "_law_image" s_law_image A.law_image fd
  g_law_side_kept : mg "_law_side_kept" = some (.ref A.law_side_kept)
  k_law_side_kept : PySem.W.keepIn K (.ref A.law_side_kept) = true
  d_law_side_kept : ∃ fd, Fun K "_law_side_kept" "_law_side_kept" s_law_side_kept A.law_side_kept fd
  g_law_bent : mg "_law_bent" = some (.ref A.law_bent)
  k_law_bent : PySem.W.keepIn K (.ref A.law_bent) = true
  d_law_bent : ∃ fd, Fun K "_law_bent" "_law_bent" s_law_bent A.law_bent fd
  g_law_refused : mg "_law_refused" = some (.ref A.law_refused)
  k_law_refused : PySem.W.keepIn K (.ref A.law_refused) = true
  d_law_refused : ∃ fd, Fun K "_law_refused" "_law_refused" s_law_refused A.law_refused fd
  g_law_bent_kept : mg "_law_bent_kept" = some (.ref A.law_bent_kept)
  k_law_bent_kept : PySem.W.keepIn K (.ref A.law_bent_kept) = true
  d_law_bent_kept : ∃ fd, Fun K "_law_bent_kept" "_law_bent_kept" s_law_bent_kept A.law_bent_kept fd
  g_law : mg "law" = some (.ref A.law)
  k_law : PySem.W.keepIn K (.ref A.law) = true
  d_law : ∃ fd, Fun K "law" "law" s_law A.law fd
  e_MendError : ErrM K mg A.MendError
  e_InvalidImage : ErrK K mg A.MendError A.InvalidImage "InvalidImage"
  e_InvalidKind : ErrK K mg A.MendError A.InvalidKind "InvalidKind"
  q_InvalidKind : PySem.W.excIn K A.InvalidKind [.type "ValueError", .type "Exception", .type "BaseException", .type "object"] "ValueError.__new__" = true
  e_InvalidChange : ErrK K mg A.MendError A.InvalidChange "InvalidChange"
  q_InvalidChange : PySem.W.excIn K A.InvalidChange [.type "ValueError", .type "Exception", .type "BaseException", .type "object"] "ValueError.__new__" = true
  f_InvalidImage : ErrF K A.InvalidImage A.i_InvalidImage "InvalidImage.__init__" "record" s_InvalidImage
  g_SIDES : mg "_SIDES" = some (.ref A.SIDES)
  n_int : mg "int" = none
  n_bool : mg "bool" = none
  n_list : mg "list" = none
  n_str : mg "str" = none
  n_tuple : mg "tuple" = none
  n_len : mg "len" = none
  n_range : mg "range" = none
  n_enumerate : mg "enumerate" = none
  n_isinstance : mg "isinstance" = none
  n_all : mg "all" = none
  n_min : mg "min" = none
  n_max : mg "max" = none
  n_sorted : mg "sorted" = none
  n_set : mg "set" = none
  n_abs : mg "abs" = none
  n_zip : mg "zip" = none
  n_ValueError : mg "ValueError" = none
  cn : PySem.W.specialIn K (.builtin "object.__class__") "__get__" = some (some (.builtin "getset_descriptor.__get__"))
  ct : PySem.W.takesIn K (.builtin "object.__class__") = some true
  nd : [A.MendError, A.InvalidImage, A.InvalidKind, A.InvalidChange].Nodup
end Pv

namespace Pv
open PySem L2
/-- all but what stands at b is as it was -/
def Mut (b : Addr) (H H' : Hp) : Prop := ∀ a o, a ≠ b → H a = some o → H' a = some o
theorem Mut.refl (b : Addr) (H : Hp) : Mut b H H := fun _ _ _ e => e
theorem Mut.trans {b : Addr} {H H1 H2 : Hp} (x : Mut b H H1) (y : Mut b H1 H2) : Mut b H H2 := fun a o n e => y a o n (x a o n e)
theorem Mut.upd {b : Addr} {H H1 : Hp} {o : HO} (x : Mut b H H1) : Mut b H (L2.upd H1 b o) := fun a u n e => by
  rw [upd_ne n]
  exact x a u n e
theorem Mut.new {b p : Addr} {H H1 : Hp} {o : HO} (x : Mut b H H1) (hp : H1 p = none) : Mut b H (L2.upd H1 p o) := fun a u n e => by
  have e1 := x a u n e
  rw [upd_ne (ne_of_none e1 hp)]
  exact e1
theorem Mut.free {b p : Addr} {H H1 : Hp} (x : Mut b H H1) (h : p ≠ b) (hp : H1 p = none) : H p = none := by
  cases e : H p with
  | none => rfl
  | some o =>
    rw [x p o h e] at hp
    cases hp
/-- the bag of the draws -/
def bagL (g f s : Int) : List V := [.int g, .int f, .int s]
structure BagOk (g f s : Int) : Prop where
  g0 : 0 ≤ g
  f0 : 0 ≤ f
  f1 : f < 2147483647
  s0 : 0 ≤ s
  s1 : s < 2147483647
def Bag (H : Hp) (b : Addr) : Prop := ∃ g f s : Int, H b = some (.lst (bagL g f s)) ∧ BagOk g f s
def spBag (K : PySem.W.Frag) : Sp := fun vs H Q _ => ∃ (a : Addr) (ns : List Int), vs = [.ref a] ∧ SqL K H a (ns.map V.int) ∧ ∀ b g f s, H b = none → BagOk g f s → Q (.ref b) (upd H b (.lst (bagL g f s)))
def spTake : Sp := fun vs H Q _ => ∃ (b : Addr) (n : Int), vs = [.ref b, .int n] ∧ 0 < n ∧ n < 1152921504606846976 ∧ Bag H b ∧ ∀ d H', 0 ≤ d → d < n → Bag H' b → Mut b H H' → Q (.int d) H'
/-- ints from 0 to below n -/
def Below (n : Int) (xs : List Int) : Prop := ∀ x ∈ xs, 0 ≤ x ∧ x < n
def ListI (H : Hp) (p : Addr) (xs : List Int) : Prop := H p = some (.lst (xs.map V.int))
def spOrder : Sp := fun vs H Q _ => ∃ (b : Addr) (n : Nat), vs = [.ref b, .int (n : Int)] ∧ n ≤ 64 ∧ Bag H b ∧ ∀ p xs H', H p = none → p ≠ b → xs.length = n → Below n xs → ListI H' p xs → Bag H' b → Mut b H H' → Q (.ref p) H'
def spSize : Sp := fun vs H Q _ => ∃ b : Addr, vs = [.ref b] ∧ Bag H b ∧ ∀ (d : Int) H', 0 ≤ d → d ≤ 64 → Bag H' b → Mut b H H' → Q (.int d) H'
def spEntry : Sp := fun vs H Q _ => ∃ (b : Addr) (n : Nat), vs = [.ref b, .int (n : Int)] ∧ 0 < n ∧ n ≤ 64 ∧ Bag H b ∧ ∀ (d : Int) H', Bag H' b → Mut b H H' → Q (.int d) H'
def spDrawn : Sp := fun vs H Q _ => ∃ (b : Addr) (n : Nat), vs = [.ref b, .int (n : Int)] ∧ n ≤ 64 ∧ Bag H b ∧ ∀ p xs H', H p = none → p ≠ b → xs.length = n → ListI H' p xs → Bag H' b → Mut b H H' → Q (.ref p) H'
theorem Bag.ne {H : Hp} {b p : Addr} (B : Bag H b) (h : H p = none) : p ≠ b := fun e => by
  obtain ⟨g, f, s, hb, _⟩ := B
  rw [e, hb] at h
  cases h
theorem Bag.keep {H H' : Hp} {b : Addr} (B : Bag H b) (h : ∀ o, H b = some o → H' b = some o) : Bag H' b := by
  obtain ⟨g, f, s, hb, ok⟩ := B
  exact ⟨g, f, s, h _ hb, ok⟩
theorem map_erase {α β : Type} (f : α → β) : ∀ (l : List α) (i : Nat), (l.map f).eraseIdx i = (l.eraseIdx i).map f
  | [], _ => rfl
  | _ :: _, 0 => rfl
  | a :: l, i + 1 => by
    show f a :: (l.map f).eraseIdx i = f a :: (l.eraseIdx i).map f
    rw [map_erase f l i]
theorem rgV_map (n : Nat) : rgV 0 (n : Int) = ((List.range n).map fun i : Nat => (i : Int)).map V.int := by
  unfold rgV
  have e : ((n : Int) - 0).toNat = n := by omega
  rw [e, List.map_map]
  refine List.map_congr_left fun i _ => ?_
  show V.int (0 + (i : Int)) = V.int (i : Int)
  rw [Int.zero_add]
theorem below_rg (n : Nat) : Below (n : Int) ((List.range n).map fun i : Nat => (i : Int)) := fun x hx => by
  obtain ⟨i, hi, rfl⟩ := List.mem_map.mp hx
  have := List.mem_range.mp hi
  omega
theorem ListI.sz {K : PySem.W.Frag} {H : Hp} {p : Addr} {xs : List Int} (h : ListI H p xs) : SqL K H p (xs.map V.int) := SqL.of h
theorem ix_map {xs : List Int} {j : Nat} (h : j < xs.length) : (xs.map V.int)[j]? = some (V.int xs[j]) := by
  rw [List.getElem?_map, List.getElem?_eq_getElem h]
  rfl
theorem at_map {xs : List Int} {j : Nat} (h : j < xs.length) : atI (xs.map V.int) (j : Int) = some (V.int xs[j]) := atI_nat (ix_map h)
theorem set_map {xs : List Int} {j : Nat} {v : Int} : (xs.map V.int).set j (V.int v) = (xs.set j v).map V.int := List.map_set.symm
theorem ite_b {b : Bool} {X Y : Prop} (h1 : b = true → X) (h2 : b = false → Y) : if b = true then X else Y := by
  cases b with
  | true => exact h1 rfl
  | false => exact h2 rfl
theorem int_at {ns : List Int} {i : Nat} {y : V} (h : (ns.map V.int)[i]? = some y) : ∃ z, ns[i]? = some z ∧ y = V.int z := by
  rw [List.getElem?_map] at h
  cases e : ns[i]? with
  | none =>
    rw [e] at h
    cases h
  | some z =>
    rw [e] at h
    exact ⟨z, rfl, (Option.some.inj h).symm⟩
end Pv

namespace Pv
open PySem L2 Evl
def nI (xs : List Nat) : List V := xs.map fun x : Nat => V.int (x : Int)
def ListN (H : Hp) (p : Addr) (xs : List Nat) : Prop := H p = some (.lst (nI xs))
theorem nI_len (xs : List Nat) : (nI xs).length = xs.length := List.length_map ..
theorem ListN.sz {K : PySem.W.Frag} {H : Hp} {p : Addr} {xs : List Nat} (h : ListN H p xs) : SqL K H p (nI xs) := SqL.of h
theorem ListN.ex {H H1 : Hp} {a : Addr} {xs : List Nat} (e : Ex H H1) (h : ListN H a xs) : ListN H1 a xs := e a _ h
theorem nat_at {ns : List Nat} {i : Nat} {y : V} (h : (nI ns)[i]? = some y) : i < ns.length ∧ y = V.int ((ns.getD i 0 : Nat) : Int) := by
  unfold nI at h
  rw [List.getElem?_map] at h
  cases e : ns[i]? with
  | none =>
    rw [e] at h
    cases h
  | some z =>
    rw [e] at h
    refine ⟨(List.getElem?_eq_some_iff.mp e).1, ?_⟩
    rw [List.getD_eq_getElem?_getD, e]
    exact (Option.some.inj h).symm
theorem ixN_ {xs : List Nat} {j : Nat} (h : j < xs.length) : (nI xs)[j]? = some (V.int ((xs.getD j 0 : Nat) : Int)) := by
  unfold nI
  rw [List.getElem?_map, List.getD_eq_getElem?_getD, List.getElem?_eq_getElem h]
  rfl
theorem atN {xs : List Nat} {j : Nat} (h : j < xs.length) : atI (nI xs) (j : Int) = some (V.int ((xs.getD j 0 : Nat) : Int)) := atI_nat (ixN_ h)
theorem ex_new {H H1 : Hp} {p : Addr} {o : HO} (e : Ex H H1) (h : H1 p = none) : Ex H (upd H1 p o) := e.trans (Ex.new h)
theorem nI_app {xs : List Nat} {v : Nat} : nI (xs ++ [v]) = nI xs ++ [V.int (v : Int)] := by
  unfold nI
  rw [List.map_append]
  rfl
theorem acc_step {G H' : Hp} {D : Addr} {ls : List Nat} {v : Nat} (hD : G D = none) (e : Ex G H') : Ex G (upd H' D (.lst (nI ls ++ [V.int (v : Int)]))) ∧ ListN (upd H' D (.lst (nI ls ++ [V.int (v : Int)]))) D (ls ++ [v]) := by
  refine ⟨fun b o hb => ?_, ?_⟩
  · rw [upd_ne (ne_of_none hb hD)]
    exact e b o hb
  · show upd H' D _ D = _
    rw [upd_same, nI_app]
theorem take_map_succ {xs : List Nat} {j : Nat} (h : j < xs.length) (f : Nat → Nat) : (xs.take (j + 1)).map f = (xs.take j).map f ++ [f (xs.getD j 0)] := by
  rw [List.take_add_one, List.getElem?_eq_getElem h, List.map_append, List.getD_eq_getElem?_getD, List.getElem?_eq_getElem h]
  rfl
theorem take_succ {xs : List Nat} {j : Nat} (h : j < xs.length) : xs.take (j + 1) = xs.take j ++ [xs.getD j 0] := by
  rw [List.take_add_one, List.getElem?_eq_getElem h, List.getD_eq_getElem?_getD, List.getElem?_eq_getElem h]
  rfl
theorem take_filter_pos {xs : List Nat} {j : Nat} (h : j < xs.length) {q : Nat → Bool} (c : q (xs.getD j 0) = true) : (xs.take (j + 1)).filter q = (xs.take j).filter q ++ [xs.getD j 0] := by
  rw [take_succ h, List.filter_append, List.filter_cons, if_pos c]
  rfl
theorem take_filter_neg {xs : List Nat} {j : Nat} (h : j < xs.length) {q : Nat → Bool} (c : q (xs.getD j 0) = false) : (xs.take (j + 1)).filter q = (xs.take j).filter q := by
  rw [take_succ h, List.filter_append, List.filter_cons, if_neg (by rw [c]; decide)]
  exact List.append_nil _
theorem flat_nI : ∀ xs : List Nat, (nI xs).all flatV = true
  | [] => rfl
  | _ :: xs => flat_nI xs
theorem inV_nI {x : Nat} : ∀ xs : List Nat, inV (V.int (x : Int)) (nI xs) = xs.contains x
  | [] => rfl
  | y :: xs => by
    show (eqV (V.int (y : Int)) (V.int (x : Int)) || inV (V.int (x : Int)) (nI xs)) = _
    rw [inV_nI xs, List.contains_cons]
    congr 1
    show ((y : Int) == (x : Int)) = (x == y)
    rw [Bool.eq_iff_iff, beq_iff_eq, beq_iff_eq]
    omega
theorem eqV_nat {x y : Nat} : eqV (V.int (x : Int)) (V.int (y : Int)) = true ↔ x = y := by
  show ((x : Int) == (y : Int)) = true ↔ _
  rw [beq_iff_eq]
  omega
/-! ### images of any integers -/
def ListI' (H : Hp) (p : Addr) (xs : List Int) : Prop := H p = some (.lst (xs.map V.int))
def badN (xs : List Int) (k : Nat) : Bool := decide (xs.getD k 0 < 0) || decide ((xs.length : Int) ≤ xs.getD k 0)
def firstOf (p : Nat → Bool) (n : Nat) : Option Nat := (List.range n).find? p
theorem firstOf_some {p : Nat → Bool} {n i : Nat} (hi : i < n) (hp : p i = true) (h : ∀ j, j < i → p j = false) : firstOf p n = some i := by
  unfold firstOf
  rw [List.find?_range_eq_some]
  exact ⟨hp, List.mem_range.mpr hi, fun j hj => by rw [h j hj]; rfl⟩
theorem firstOf_none {p : Nat → Bool} {n : Nat} (h : ∀ j, j < n → p j = false) : firstOf p n = none := by
  unfold firstOf
  rw [List.find?_range_eq_none]
  exact fun j hj => by rw [h j hj]; rfl
theorem firstOf_no {p : Nat → Bool} {n : Nat} (h : firstOf p n = none) : ∀ j, j < n → p j = false := by
  unfold firstOf at h
  rw [List.find?_range_eq_none] at h
  intro j hj
  have := h j hj
  simpa using this
theorem firstOf_is {p : Nat → Bool} {n i : Nat} (h : firstOf p n = some i) : i < n ∧ p i = true ∧ ∀ j, j < i → p j = false := by
  unfold firstOf at h
  rw [List.find?_range_eq_some] at h
  exact ⟨List.mem_range.mp h.2.1, h.1, fun j hj => by have := h.2.2 j hj; simpa using this⟩
/-- the first entry that is no record -/
def strayI (xs : List Int) : Option Nat := firstOf (badN xs) xs.length
def RzI (A : Ad) (k : Nat) (H : Hp) (E : XK) : Prop := ∀ d H', Ex H H' → H' d = some (.xd [("record", .int (k : Int))]) → E (.ref A.InvalidImage) (some d) H'
theorem RzI.mono {A : Ad} {k : Nat} {H H1 : Hp} {E : XK} (e : Ex H H1) (h : RzI A k H E) : RzI A k H1 E := fun d H' e' hd => h d H' (e.trans e') hd
def spInit (C : Addr) (f : Str) : Sp := fun vs H Q _ => ∃ (a : Addr) (v : V), vs = [.ref a, v] ∧ H a = some (exo a C none) ∧ ∀ dx, H dx = none → dx ≠ a → Q .non (upd (upd H dx (exd dx [(f, v)])) a (exo a C (some dx)))
def spCI2 (A : Ad) : Sp := fun vs H Q E => ∃ (a : Addr) (xs : List Int), vs = [.ref a] ∧ H a = some (.lst (xs.map V.int)) ∧ xs.length ≤ 64 ∧ (strayI xs = none → ∀ H', Ex H H' → Q .non H') ∧ ∀ k, strayI xs = some k → RzI A k H E
theorem mkO_go {C : Addr} {f : Str} {v : V} {H1 : Hp} {Q : XK} (k : ∀ d H', Ex H1 H' → H' d = some (.xd [(f, v)]) → Q (.ref C) (some d) H') (e : Addr) (he : H1 e = none) :
    spInit C f (.ref e :: ([v] ++ [])) (upd H1 e (exo e C none)) (fun v H2 => v = .non ∧ ∃ (d : Addr) (fs : List (Str × V)), H2 e = some (exo e C (some d)) ∧ H2 d = some (exd d fs) ∧ H1 d = none ∧ Q (.ref C) (some d) (upd (L2.del H2 e) d (.xd fs))) (fun _ _ _ => False) := by
  refine ⟨e, v, rfl, upd_same, fun dx hdx ne => ⟨rfl, dx, _, upd_same, (by rw [upd_ne ne, upd_same]), ?_, k dx _ ?_ upd_same⟩⟩
  · rw [upd_ne ne] at hdx
    exact hdx
  · rw [upd_ne ne] at hdx
    intro b o hb
    have n1 : b ≠ dx := ne_of_none hb hdx
    have n2 : b ≠ e := ne_of_none hb he
    rw [upd_ne n1, del_ne n2, upd_ne n2, upd_ne n1, upd_ne n2]
    exact hb
theorem strip_getD_of {xs : List Int} {k : Nat} {z : Int} (h : xs[k]? = some z) : xs.getD k 0 = z := by
  rw [List.getD_eq_getElem?_getD, h]
  rfl
theorem markV_int {xs : List Int} {i : Nat} {y : V} (h : (xs.map V.int)[i]? = some y) : ∃ z, xs[i]? = some z ∧ y = V.int z := by
  rw [List.getElem?_map] at h
  cases e : xs[i]? with
  | none => rw [e] at h; cases h
  | some z =>
    rw [e] at h
    exact ⟨z, rfl, (Option.some.inj h).symm⟩
theorem units65R {k : Nat} {A : Around} (r : Room k A) : A.units + 65 < cLine := by have := r.un; omega
theorem units65H {k : Nat} {A : Around} (r : L2H.RoomH k A) : A.units + 65 < cLine := by have := r.un; omega
theorem rd_ex {H H' : Hp} {a : Addr} {u : HO} (e : Ex H H') (h : Rd H a u) : Rd H' a u := h.elim (fun z => .inl (e _ _ z)) fun ⟨o, z⟩ => .inr ⟨o, e _ _ z⟩
theorem sqL_ex {K : PySem.W.Frag} {H H' : Hp} {a : Addr} {xs : List V} (e : Ex H H') (h : SqL K H a xs) : SqL K H' a xs := h.elim (fun z => .inl (rd_ex e z)) .inr
theorem sqT_ex {K : PySem.W.Frag} {H H' : Hp} {a : Addr} {xs : List V} (e : Ex H H') (h : SqT K H a xs) : SqT K H' a xs := h.elim (fun z => .inl (rd_ex e z)) .inr
/-! ### slices, new objects -/
theorem cut_take {xs : List Int} {k : Nat} : cutV (xs.map V.int) none (some (k : Int)) = (xs.take k).map V.int := by
  unfold cutV HT.sIx
  simp only [if_neg (show ¬ ((k : Int) < 0) by omega), List.length_map, Int.toNat_natCast, List.drop_zero, Nat.sub_zero]
  rw [List.map_take, ← List.map_take, ← List.map_take]
  congr 1
  rw [List.take_eq_take_iff]
  omega
theorem cut_drop {xs : List Int} {k : Nat} (h : k ≤ xs.length) : cutV (xs.map V.int) (some (k : Int)) none = (xs.drop k).map V.int := by
  unfold cutV HT.sIx
  simp only [if_neg (show ¬ ((k : Int) < 0) by omega), List.length_map, Int.toNat_natCast, Nat.min_eq_left h]
  rw [List.take_of_length_le (by rw [List.length_drop, List.length_map]; exact Nat.le_refl _), List.map_drop]
theorem back_none {H H1 : Hp} {p : Addr} (e : Ex H H1) (h : H1 p = none) : H p = none := by
  cases q : H p with
  | none => rfl
  | some o =>
    rw [e p o q] at h
    cases h
theorem new3 {H : Hp} {q0 q1 p : Addr} {x0 x1 x2 : HO} (h0 : H q0 = none) (h1 : upd H q0 x0 q1 = none) (h2 : upd (upd H q0 x0) q1 x1 p = none) :
    H p = none ∧ H q1 = none ∧ Ex H (upd (upd (upd H q0 x0) q1 x1) p x2) ∧ upd (upd (upd H q0 x0) q1 x1) p x2 p = some x2 ∧ upd (upd (upd H q0 x0) q1 x1) p x2 q0 = some x0 ∧ upd (upd (upd H q0 x0) q1 x1) p x2 q1 = some x1 := by
  have e1 : Ex H (upd H q0 x0) := Ex.new h0
  have e2 : Ex (upd H q0 x0) (upd (upd H q0 x0) q1 x1) := Ex.new h1
  have e3 : Ex (upd (upd H q0 x0) q1 x1) (upd (upd (upd H q0 x0) q1 x1) p x2) := Ex.new h2
  exact ⟨back_none (e1.trans e2) h2, back_none e1 h1, (e1.trans e2).trans e3, upd_same, e3 _ _ (e2 _ _ upd_same), e3 _ _ upd_same⟩
theorem flat_ints : ∀ xs : List Int, (xs.map V.int).all flatV = true
  | [] => rfl
  | _ :: xs => flat_ints xs
theorem inV_ints {x : Int} : ∀ xs : List Int, inV (V.int x) (xs.map V.int) = xs.contains x
  | [] => rfl
  | y :: xs => by
    show (eqV (V.int y) (V.int x) || inV (V.int x) (xs.map V.int)) = _
    rw [inV_ints xs, List.contains_cons]
    congr 1
    show (y == x) = (x == y)
    rw [Bool.eq_iff_iff, beq_iff_eq, beq_iff_eq]
    omega
theorem eqV_ints {x y : Int} : eqV (V.int x) (V.int y) = true ↔ x = y := by
  show (x == y) = true ↔ _
  rw [beq_iff_eq]
/-! ### words and lines -/
def words7 : List Str := ["tie", "move", "cross", "ties", "", "Move", "loop"]
def words3 : List Str := ["tie", "move", "cross"]
def okLen (w : Str) (m : Nat) : Bool := (w == "tie" && m == 2) || (w == "move" && m == 3) || (w == "cross" && m == 4)
/-- a word with as many records as it has -/
inductive Fm : Str → List Int → Prop
  | tie (a b : Int) : Fm "tie" [a, b]
  | move (a b c : Int) : Fm "move" [a, b, c]
  | cross (a b c d : Int) : Fm "cross" [a, b, c, d]
theorem fm_of {w : Str} {ln : List Int} (h : okLen w ln.length = true) : Fm w ln := by
  unfold okLen at h
  rw [Bool.or_eq_true, Bool.or_eq_true, Bool.and_eq_true, Bool.and_eq_true, Bool.and_eq_true] at h
  rcases h with (⟨h1, h2⟩ | ⟨h1, h2⟩) | ⟨h1, h2⟩
  · have e1 : w = "tie" := eq_of_beq h1
    have e2 : ln.length = 2 := eq_of_beq h2
    subst e1
    match ln, e2 with
    | [a, b], _ => exact .tie a b
  · have e1 : w = "move" := eq_of_beq h1
    have e2 : ln.length = 3 := eq_of_beq h2
    subst e1
    match ln, e2 with
    | [a, b, c], _ => exact .move a b c
  · have e1 : w = "cross" := eq_of_beq h1
    have e2 : ln.length = 4 := eq_of_beq h2
    subst e1
    match ln, e2 with
    | [a, b, c, d], _ => exact .cross a b c d
theorem Fm.len {w : Str} {ln : List Int} (h : Fm w ln) : okLen w ln.length = true := by
  cases h <;> rfl
/-- the order that a valid change keeps -/
def ordF (w : Str) (ln : List Int) : Bool := match ln with
  | [a, b] => decide (a < b)
  | [_, b, c] => decide (b < c)
  | [a, b, c, d] => decide (a < b) && decide (a < c) && decide (a < d) && decide (b < d)
  | _ => false
def badK (ln : List Int) (n : Int) (k : Nat) : Bool := decide (ln.getD k 0 < 0) || (decide (n ≤ ln.getD k 0) || (ln.take k).contains (ln.getD k 0))
def rngF (ln : List Int) (n : Int) : Bool := (firstOf (badK ln n) ln.length).isNone
def valF (w : Str) (ln : List Int) (n : Int) : Bool := okLen w ln.length && rngF ln n && ordF w ln
/-- a valid change in a table of n -/
structure Vd (w : Str) (ln : List Int) (n : Int) : Prop where
  fm : Fm w ln
  nd : ln.Nodup
  lo : ∀ x ∈ ln, 0 ≤ x ∧ x < n
  od : ordF w ln = true
theorem vd_of {w : Str} {ln : List Int} {n : Int} (h : valF w ln n = true) : Vd w ln n := by
  unfold valF at h
  rw [Bool.and_eq_true, Bool.and_eq_true] at h
  obtain ⟨⟨h1, h2⟩, h3⟩ := h
  have hn := firstOf_no (Option.isNone_iff_eq_none.mp h2)
  have key : ∀ k, k < ln.length → 0 ≤ ln.getD k 0 ∧ ln.getD k 0 < n ∧ ln.getD k 0 ∉ ln.take k := fun k hk => by
    have := hn k hk
    unfold badK at this
    rw [Bool.or_eq_false_iff, Bool.or_eq_false_iff] at this
    obtain ⟨q1, q2, q3⟩ := this
    have q1 := of_decide_eq_false q1
    have q2 := of_decide_eq_false q2
    refine ⟨by omega, by omega, fun z => ?_⟩
    rw [List.contains_iff_mem.mpr z] at q3
    cases q3
  have gd : ∀ k (hk : k < ln.length), ln.getD k 0 = ln[k] := fun k hk => by
    rw [List.getD_eq_getElem?_getD, List.getElem?_eq_getElem hk]
    rfl
  refine ⟨fm_of h1, ?_, fun x hx => ?_, h3⟩
  · rw [List.nodup_iff_pairwise_ne, List.pairwise_iff_getElem]
    intro i j hi hj hij e
    have := (key j hj).2.2
    rw [gd j hj, ← e] at this
    exact this (List.mem_take_iff_getElem.mpr ⟨i, by omega, rfl⟩)
  · obtain ⟨k, hk, rfl⟩ := List.mem_iff_getElem.mp hx
    have := key k hk
    rw [gd k hk] at this
    exact ⟨this.1, this.2.1⟩
theorem Vd.is {w : Str} {ln : List Int} {n : Int} (h : Vd w ln n) : valF w ln n = true := by
  unfold valF
  rw [h.fm.len, h.od, Bool.and_true, Bool.true_and]
  unfold rngF
  rw [Option.isNone_iff_eq_none]
  refine firstOf_none fun k hk => ?_
  have gd : ln.getD k 0 = ln[k] := by
    rw [List.getD_eq_getElem?_getD, List.getElem?_eq_getElem hk]
    rfl
  have lo := h.lo ln[k] (List.getElem_mem hk)
  unfold badK
  rw [gd, decide_eq_false (by omega), decide_eq_false (by omega), Bool.false_or, Bool.false_or]
  cases e : (ln.take k).contains ln[k] with
  | false => rfl
  | true =>
    rw [List.contains_iff_mem] at e
    obtain ⟨i, hi, e2⟩ := List.mem_take_iff_getElem.mp e
    have nd := h.nd
    rw [List.nodup_iff_pairwise_ne, List.pairwise_iff_getElem] at nd
    exact absurd e2 (nd i k (by omega) hk (by omega))
theorem valF_bad {w : Str} {ln : List Int} {n : Int} {j : Nat} (hj : j < ln.length) (h : badK ln n j = true) : valF w ln n = false := by
  unfold valF rngF
  cases q : firstOf (badK ln n) ln.length with
  | none =>
    rw [firstOf_no q j hj] at h
    cases h
  | some i =>
    rw [show (some i).isNone = false from rfl, Bool.and_false, Bool.false_and]
theorem valF_ok {w : Str} {ln : List Int} {n : Int} (h : ∀ j, j < ln.length → badK ln n j = false) (ho : okLen w ln.length = true) : valF w ln n = ordF w ln := by
  unfold valF rngF
  rw [firstOf_none h, ho]
  rfl
/-- the names at the two sides -/
def nm0 : List Int → List Int
  | [a, b] => [a, b]
  | [a, b, c] => [b, a, c]
  | [a, b, c, d] => [b, a, d, c]
  | _ => []
def nm1 : List Int → List Int
  | [a, b] => [b, a]
  | [a, b, c] => [c, b, a]
  | [a, b, c, d] => [d, c, b, a]
  | _ => []
/-! ### the box of the draws -/
def Box (H : Hp) (b c : Addr) : Prop := ∃ (ns : List Int) (d i st sd : Int), H b = some (.lst [.ref c, .int d, .int i, .int st, .int sd]) ∧ H c = some (.lst (ns.map V.int)) ∧ 0 ≤ d ∧ 0 ≤ i ∧ ns.length ≤ 63
theorem Box.ne {H : Hp} {b c p : Addr} (B : Box H b c) (h : H p = none) : p ≠ b := fun e => by
  obtain ⟨ns, d, i, st, sd, hb, hc, _⟩ := B
  rw [e, hb] at h
  cases h
theorem Box.nec {H : Hp} {b c p : Addr} (B : Box H b c) (h : H p = none) : p ≠ c := fun e => by
  obtain ⟨ns, d, i, st, sd, hb, hc, _⟩ := B
  rw [e, hc] at h
  cases h
theorem Box.keep {H H' : Hp} {b c : Addr} (B : Box H b c) (h1 : ∀ o, H b = some o → H' b = some o) (h2 : ∀ o, H c = some o → H' c = some o) : Box H' b c := by
  obtain ⟨ns, d, i, st, sd, hb, hc, r⟩ := B
  exact ⟨ns, d, i, st, sd, h1 _ hb, h2 _ hc, r⟩
theorem Box.ex {H H' : Hp} {b c : Addr} (e : Ex H H') (B : Box H b c) : Box H' b c := B.keep (e b) (e c)
theorem Box.upd {H : Hp} {b c p : Addr} {o : HO} (B : Box H b c) (h1 : p ≠ b) (h2 : p ≠ c) : Box (L2.upd H p o) b c :=
  B.keep (fun u h => by rw [upd_ne (Ne.symm h1)]; exact h) (fun u h => by rw [upd_ne (Ne.symm h2)]; exact h)
theorem Mut.of_ex {b : Addr} {H H1 : Hp} (e : Ex H H1) : Mut b H H1 := fun a o _ h => e a o h
theorem Mut.mut_upd {b p : Addr} {H H1 : Hp} {o : HO} (x : Mut b H H1) (h : H p = none) : Mut b H (L2.upd H1 p o) := fun a u n e => by
  rw [upd_ne (ne_of_none e h)]
  exact x a u n e
def spBox (K : PySem.W.Frag) : Sp := fun vs H Q _ => ∃ (a : Addr) (ns : List Int), vs = [.ref a] ∧ SqL K H a (ns.map V.int) ∧ ∀ b c H', H b = none → H c = none → Ex H H' → Box H' b c → Q (.ref b) H'
def spDraw : Sp := fun vs H Q _ => ∃ (b c : Addr) (n : Int), vs = [.ref b, .int n] ∧ 0 < n ∧ n < 1152921504606846976 ∧ Box H b c ∧ ∀ d H', 0 ≤ d → d < n → Box H' b c → Mut b H H' → Q (.int d) H'
def spMix : Sp := fun vs H Q _ => ∃ a b : Int, vs = [.int a, .int b] ∧ ∀ d, 0 ≤ d → Q (.int d) H
def spWhole : Sp := fun vs H Q _ => ∃ a b : Int, vs = [.int a, .int b] ∧ Q (.bl (decide (a = b))) H
/-- of the two, None is no number -/
def spRowK : Sp := fun vs H Q _ => ∃ (t d : Addr) (xs : List Int), vs = [.ref t, .ref d] ∧ ListI H t xs ∧ ListI H d xs ∧ xs.length ≤ 64 ∧ Q (.bl true) H
def spNames : Sp := fun vs H Q _ => ∃ (l : Addr) (w : Str) (ln : List Int), vs = [.str w, .ref l] ∧ ListI H l ln ∧ Fm w ln ∧ ∀ p q0 q1 H', H p = none → H q0 = none → H q1 = none → Ex H H' → H' p = some (.lst [.ref q0, .ref q1]) → ListI H' q0 (nm0 ln) → ListI H' q1 (nm1 ln) → Q (.ref p) H'
def spValid : Sp := fun vs H Q _ => ∃ (l : Addr) (w : Str) (ln : List Int) (n : Int), vs = [.str w, .ref l, .int n] ∧ ListI H l ln ∧ w ∈ words7 ∧ ln.length ≤ 5 ∧ ∀ H', Ex H H' → Q (.bl (valF w ln n)) H'
def spTaken : Sp := fun vs H Q _ => ∃ (b c : Addr) (n m : Nat), vs = [.ref b, .int (n : Int), .int (m : Int)] ∧ m ≤ n ∧ n ≤ 64 ∧ m ≤ 4 ∧ Box H b c ∧
  ∀ p (xs : List Int) H', H p = none → xs.length = m → xs.Nodup → (∀ x ∈ xs, 0 ≤ x ∧ x < (n : Int)) → ListI H' p xs → Box H' b c → Mut b H H' → Q (.ref p) H'
def spFormed : Sp := fun vs H Q _ => ∃ (l : Addr) (w : Str) (ln : List Int), vs = [.str w, .ref l] ∧ ListI H l ln ∧ Fm w ln ∧ ln.Nodup ∧
  ∀ p (xs : List Int) H', H p = none → Ex H H' → Fm w xs → xs.Perm ln → ordF w xs = true → ListI H' p xs → Q (.ref p) H'
/-! ### the program -/
def RzC (A : Ad) (H : Hp) (E : XK) : Prop := ∀ H', Ex H H' → E (.ref A.InvalidChange) none H'
theorem RzC.mono {A : Ad} {H H1 : Hp} {E : XK} (e : Ex H H1) (h : RzC A H E) : RzC A H1 E := fun H' e' => h H' (e.trans e')
/-- the table of the sides -/
structure SdK (w : World) (K : PySem.W.Frag) (c : Addr) where
  es : Array DictEntry
  n : Nat
  kd : KDict K w c es n
  no : ∀ z ∈ words7, z ∉ words3 → PySem.W.nsIn K c z = some none
  yes : ∀ z ∈ words3, ∃ (p q0 q1 : Addr), PySem.W.nsIn K c z = some (some (.ref p)) ∧ (∀ H, SqT K H p [.ref q0, .ref q1]) ∧
    ∃ (i0 i1 : List Nat), (∀ H, SqT K H q0 (nI i0)) ∧ (∀ H, SqT K H q1 (nI i1)) ∧
      ∀ ln : List Int, Fm z ln → i0.length = ln.length ∧ i1.length = ln.length ∧ nm0 ln = i0.map (fun i => ln.getD i 0) ∧ nm1 ln = i1.map (fun i => ln.getD i 0) ∧ (∀ i ∈ i0, i < ln.length) ∧ ∀ i ∈ i1, i < ln.length
def spIO (K : PySem.W.Frag) : Sp := fun vs H Q _ => ∃ (t : Addr) (w : Str) (ln : List Int), vs = [.str w, .ref t] ∧ SqT K H t (ln.map V.int) ∧ Fm w ln ∧ ln.Nodup ∧ Q (.bl (ordF w ln)) H
/-- pairs of ints at p -/
def PrsAt (H : Hp) (p : Addr) (ps : List (Int × Int)) : Prop := ∃ ts : List Addr, H p = some (.lst (ts.map V.ref)) ∧ ts.length = ps.length ∧ ∀ (i : Nat) (t : Addr) (x : Int × Int), ts[i]? = some t → ps[i]? = some x → H t = some (.tup [.int x.1, .int x.2])
theorem PrsAt.ex {H H' : Hp} {p : Addr} {ps : List (Int × Int)} (e : Ex H H') (h : PrsAt H p ps) : PrsAt H' p ps := by
  obtain ⟨ts, h1, h2, h3⟩ := h
  exact ⟨ts, e _ _ h1, h2, fun i t x a b => e _ _ (h3 i t x a b)⟩
/-- in ascending order by their firsts -/
def Asc (ps : List (Int × Int)) : Prop := ps.Pairwise fun a b => a.1 < b.1
def spShown (K : PySem.W.Frag) : Sp := fun vs H Q _ => ∃ (t q : Addr) (ln : List Int) (is : List Nat), vs = [.ref t, .ref q] ∧ SqT K H t (ln.map V.int) ∧ SqT K H q (nI is) ∧ is.length = ln.length ∧ (∀ i ∈ is, i < ln.length) ∧ ln.length ≤ 4 ∧ ln.Nodup ∧
  ∀ p ps H', Ex H H' → Asc ps → ps.Perm (ln.zip (is.map fun i => ln.getD i 0)) → PrsAt H' p ps → Q (.ref p) H'
/-- a change as it is passed -/
def ChAt (K : PySem.W.Frag) (H : Hp) (a : Addr) (w : Str) (ln : List Int) : Prop := ∃ t, H a = some (.tup [.str w, .ref t]) ∧ H t = some (.tup (ln.map V.int))
theorem ChAt.ex {K : PySem.W.Frag} {H H' : Hp} {a : Addr} {w : Str} {ln : List Int} (e : Ex H H') (h : ChAt K H a w ln) : ChAt K H' a w ln := by
  obtain ⟨t, h1, h2⟩ := h
  exact ⟨t, e _ _ h1, e _ _ h2⟩
def spCC (K : PySem.W.Frag) (A : Ad) : Sp := fun vs H Q E => ∃ (a : Addr) (w : Str) (ln : List Int) (n : Int), vs = [.ref a, .int n] ∧ ChAt K H a w ln ∧ w ∈ words7 ∧ ln.length ≤ 5 ∧ (valF w ln n = true → ∀ H', Ex H H' → Q .non H') ∧ (valF w ln n = false → RzC A H E)
def spSides (K : PySem.W.Frag) : Sp := fun vs H Q _ => ∃ (a : Addr) (w : Str) (ln : List Int), vs = [.ref a] ∧ ChAt K H a w ln ∧ Fm w ln ∧ ln.Nodup ∧
  ∀ p q0 q1 ps0 ps1 H', Ex H H' → H' p = some (.tup [.ref q0, .ref q1]) → Asc ps0 → ps0.Perm (ln.zip (nm0 ln)) → PrsAt H' q0 ps0 → Asc ps1 → ps1.Perm (ln.zip (nm1 ln)) → PrsAt H' q1 ps1 → Q (.ref p) H'
/-- what an image shows of a line -/
def shF (xs ln : List Int) : List Int := ln.map fun r => xs.getD r.toNat 0
def sideV (xs ln : List Int) : V := if shF xs ln = nm0 ln then .int 0 else if shF xs ln = nm1 ln then .int 1 else .non
def spSO (K : PySem.W.Frag) (A : Ad) : Sp := fun vs H Q E => ∃ (a c : Addr) (xs : List Int) (w : Str) (ln : List Int), vs = [.ref a, .ref c] ∧ ListI H a xs ∧ xs.length ≤ 64 ∧ ChAt K H c w ln ∧ w ∈ words7 ∧ ln.length ≤ 5 ∧
  (∀ k, strayI xs = some k → RzI A k H E) ∧ (strayI xs = none → valF w ln xs.length = false → RzC A H E) ∧ (strayI xs = none → valF w ln xs.length = true → ∀ H', Ex H H' → Q (sideV xs ln) H')
theorem SdK.len {w : World} {K : PySem.W.Frag} {c : Addr} (S : SdK w K c) {z : Str} (hz : z ∈ words3) {i0 i1 : List Nat} (h : ∀ ln : List Int, Fm z ln → i0.length = ln.length ∧ i1.length = ln.length ∧ nm0 ln = i0.map (fun i => ln.getD i 0) ∧ nm1 ln = i1.map (fun i => ln.getD i 0) ∧ (∀ i ∈ i0, i < ln.length) ∧ ∀ i ∈ i1, i < ln.length) (n : Nat) : okLen z n = decide (n = i0.length) := by
  unfold words3 at hz
  rw [List.mem_cons, List.mem_cons, List.mem_singleton] at hz
  rcases hz with rfl | rfl | rfl
  · have := (h [0, 0] (.tie 0 0)).1
    rw [this]
    show ((true && n == 2) || (false && n == 3) || (false && n == 4)) = decide (n = 2)
    rw [Bool.eq_iff_iff]
    simp
  · have := (h [0, 0, 0] (.move 0 0 0)).1
    rw [this]
    show ((false && n == 2) || (true && n == 3) || (false && n == 4)) = decide (n = 3)
    rw [Bool.eq_iff_iff]
    simp
  · have := (h [0, 0, 0, 0] (.cross 0 0 0 0)).1
    rw [this]
    show ((false && n == 2) || (false && n == 3) || (true && n == 4)) = decide (n = 4)
    rw [Bool.eq_iff_iff]
    simp
theorem okLen_no {z : Str} (hz : z ∈ words7) (h3 : z ∉ words3) (n : Nat) : okLen z n = false := by
  have e : ∀ y ∈ words3, (z == y) = false := fun y hy => by
    cases q : z == y with
    | false => rfl
    | true => rw [eq_of_beq q] at h3; exact absurd hy h3
  unfold okLen
  rw [e "tie" (by simp [words3]), e "move" (by simp [words3]), e "cross" (by simp [words3])]
  rfl
/-! ### the law -/
/-- what a side is to show, in ascending order -/
def dueF (ln nm : List Int) : List (Int × Int) := ((List.range 64).filter fun x : Nat => ln.contains (x : Int)).map fun x : Nat => ((x : Int), nm.getD (ln.idxOf (x : Int)) 0)
def spDue (K : PySem.W.Frag) : Sp := fun vs H Q _ => ∃ (l q : Addr) (w : Str) (ln nm : List Int), vs = [.str w, .ref l, .ref q] ∧ ListI H l ln ∧ ListI H q nm ∧ nm.length = ln.length ∧ ln.length ≤ 4 ∧ ∀ p H', H p = none → Ex H H' → PrsAt H' p (dueF ln nm) → Q (.ref p) H'
def spLT : Sp := fun vs H Q _ => ∃ (t d : Addr) (ps : List (Int × Int)), vs = [.ref t, .ref d] ∧ PrsAt H t ps ∧ PrsAt H d ps ∧ ps.length ≤ 64 ∧ Q (.bl true) H
def spSK : Sp := fun vs H Q _ => ∃ (l : Addr) (w : Str) (ln : List Int), vs = [.str w, .ref l] ∧ ListI H l ln ∧ Vd w ln 64 ∧ ∀ H', Ex H H' → Q (.bl true) H'
def spCK : Sp := fun vs H Q _ => ∃ (l : Addr) (w : Str) (ln : List Int) (n : Int), vs = [.str w, .ref l, .int n] ∧ ListI H l ln ∧ w ∈ words7 ∧ ln.length ≤ 5 ∧ ∀ H', Ex H H' → Q (.bl true) H'
def spImg : Sp := fun vs H Q _ => ∃ (b c l : Addr) (w : Str) (ln : List Int) (n : Nat), vs = [.ref b, .str w, .ref l, .int (n : Int)] ∧ Box H b c ∧ ListI H l ln ∧ l ≠ b ∧ Vd w ln n ∧ n ≤ 64 ∧
  ∀ p (xs : List Int) H', H p = none → xs.length = n → strayI xs = none → ListI H' p xs → Box H' b c → Mut b H H' → Q (.ref p) H'
def spSdK : Sp := fun vs H Q _ => ∃ (a l : Addr) (xs : List Int) (w : Str) (ln : List Int), vs = [.ref a, .str w, .ref l] ∧ ListI H a xs ∧ xs.length ≤ 64 ∧ strayI xs = none ∧ ListI H l ln ∧ w ∈ words7 ∧ Vd w ln xs.length ∧ ∀ H', Ex H H' → Q (.bl true) H'
def spBent : Sp := fun vs H Q _ => ∃ (b c l : Addr) (w : Str) (ln : List Int) (n : Nat), vs = [.ref b, .str w, .ref l, .int (n : Int)] ∧ Box H b c ∧ ListI H l ln ∧ l ≠ b ∧ Fm w ln ∧ n ≤ 64 ∧
  ∀ p q (w2 : Str) (ys : List Int) H', H p = none → H q = none → H' p = some (.lst [.str w2, .ref q]) → ListI H' q ys → w2 ∈ words7 → ys.length ≤ 5 → Box H' b c → Mut b H H' → Q (.ref p) H'
def spRf : Sp := fun vs H Q _ => ∃ (b c a l : Addr) (xs : List Int) (w : Str) (ln : List Int), vs = [.ref b, .ref a, .str w, .ref l] ∧ Box H b c ∧ ListI H a xs ∧ a ≠ b ∧ xs.length ≤ 64 ∧ strayI xs = none ∧ ListI H l ln ∧ l ≠ b ∧ w ∈ words7 ∧ ln.length ≤ 5 ∧ valF w ln xs.length = false ∧
  ∀ H', Box H' b c → Mut b H H' → Q (.bl true) H'
def spBK : Sp := fun vs H Q _ => ∃ (b c l : Addr) (w : Str) (ln : List Int) (n : Nat), vs = [.ref b, .int (n : Int), .str w, .ref l] ∧ Box H b c ∧ ListI H l ln ∧ l ≠ b ∧ Fm w ln ∧ n ≤ 64 ∧ ∀ H', Box H' b c → Mut b H H' → Q (.bl true) H'
/-! ### lists of ints as data -/
def dI (xs : List Int) : PyData := .list (xs.map PyData.int)
theorem dpAll_I {K : PySem.W.Frag} {H : Hp} : ∀ xs : List Int, DpAll K H (xs.map V.int) (xs.map PyData.int)
  | [] => .nil
  | x :: xs => .cons (.int x) (dpAll_I xs)
theorem dp_I {K : PySem.W.Frag} {H : Hp} {a : Addr} {xs : List Int} (h : H a = some (.lst (xs.map V.int))) : Dp K H (.ref a) (dI xs) := .lst (SqL.of h) (dpAll_I xs)
theorem lay_I : ∀ xs : List Int, PyData.canLayAll0 (xs.map PyData.int) = true
  | [] => by simp [PyData.canLayAll0]
  | x :: xs => by
    simp only [List.map_cons, PyData.canLayAll0, PyData.canLay0, lay_I xs]
    rfl
theorem deep_I : ∀ xs : List Int, PyData.depthAll (xs.map PyData.int) ≤ 1
  | [] => by simp [PyData.depthAll]
  | x :: xs => by
    have := deep_I xs
    simp only [List.map_cons, PyData.depthAll, PyData.depth]
    omega
theorem canLay_I (xs : List Int) : PyData.canLay0 (dI xs) = true := by
  unfold dI
  simp only [PyData.canLay0]
  exact lay_I xs
theorem shaped_I (xs : List Int) : SeqAt.shaped (dI xs) = true := by
  have h2 : PyData.depth (dI xs) ≤ 64 := by
    have := deep_I xs
    unfold dI
    simp only [PyData.depth]
    omega
  unfold SeqAt.shaped
  rw [canLay_I, decide_eq_true h2]
  rfl
theorem eqvAll_I : ∀ xs ys : List Int, PyData.eqvAll (xs.map PyData.int) (ys.map PyData.int) = decide (xs = ys)
  | [], [] => by simp [PyData.eqvAll]
  | [], _ :: _ => by simp [PyData.eqvAll]
  | _ :: _, [] => by simp [PyData.eqvAll]
  | x :: xs, y :: ys => by
    have ih := eqvAll_I xs ys
    simp only [List.map_cons, PyData.eqvAll, PyData.eqv, ih]
    rw [Bool.eq_iff_iff]
    simp
theorem eqv_dI (xs ys : List Int) : PyData.eqv (dI xs) (dI ys) = decide (xs = ys) := by
  unfold dI
  simp only [PyData.eqv]
  exact eqvAll_I xs ys
theorem ne_self (v : V) : (!decide (v = v)) = false := by simp
/-! ### what a side is to show -/
theorem asc_uniq : ∀ {ps qs : List (Int × Int)}, Asc ps → Asc qs → (∀ x, x ∈ ps ↔ x ∈ qs) → ps = qs
  | [], [], _, _, _ => rfl
  | [], q :: qs, _, _, h => absurd ((h q).mpr List.mem_cons_self) (by simp)
  | p :: ps, [], _, _, h => absurd ((h p).mp List.mem_cons_self) (by simp)
  | p :: ps, q :: qs, hp, hq, h => by
    have hp' := List.pairwise_cons.mp hp
    have hq' := List.pairwise_cons.mp hq
    have e : p = q := by
      rcases List.mem_cons.mp ((h p).mp List.mem_cons_self) with e | m
      · exact e
      · rcases List.mem_cons.mp ((h q).mpr List.mem_cons_self) with e | m2
        · exact e.symm
        · have a1 := hq'.1 p m
          have a2 := hp'.1 q m2
          omega
    subst e
    refine congrArg (p :: ·) (asc_uniq hp'.2 hq'.2 fun x => ⟨fun m => ?_, fun m => ?_⟩)
    · rcases List.mem_cons.mp ((h x).mp (List.mem_cons_of_mem _ m)) with e | m2
      · have := hp'.1 x m
        rw [e] at this
        omega
      · exact m2
    · rcases List.mem_cons.mp ((h x).mpr (List.mem_cons_of_mem _ m)) with e | m2
      · have := hq'.1 x m
        rw [e] at this
        omega
      · exact m2
theorem asc_due (ln nm : List Int) : Asc (dueF ln nm) := by
  unfold dueF Asc
  rw [List.pairwise_map]
  refine (List.Pairwise.filter _ List.pairwise_lt_range).imp fun {a b} h => ?_
  show (a : Int) < (b : Int)
  omega
theorem due_len (ln nm : List Int) : (dueF ln nm).length ≤ 64 := by
  unfold dueF
  rw [List.length_map]
  exact Nat.le_trans (List.length_filter_le _ _) (by rw [List.length_range]; exact Nat.le_refl _)
theorem getD_of_lt {xs : List Int} {i : Nat} (h : i < xs.length) : xs.getD i 0 = xs[i] := by
  rw [List.getD_eq_getElem?_getD, List.getElem?_eq_getElem h]
  rfl
theorem idx_nd {ln : List Int} (nd : ln.Nodup) {i : Nat} (h : i < ln.length) : ln.idxOf ln[i] = i := by
  have h1 : ln.idxOf ln[i] < ln.length := List.idxOf_lt_length_of_mem (List.getElem_mem h)
  have h2 : ln[ln.idxOf ln[i]] = ln[i] := List.getElem_idxOf h1
  rw [List.nodup_iff_pairwise_ne, List.pairwise_iff_getElem] at nd
  rcases Nat.lt_trichotomy (ln.idxOf ln[i]) i with c | c | c
  · exact absurd h2 (nd _ _ h1 h c)
  · exact c
  · exact absurd h2.symm (nd _ _ h h1 c)
theorem mem_due {ln nm : List Int} (nd : ln.Nodup) (lo : ∀ x ∈ ln, 0 ≤ x ∧ x < 64) (hl : nm.length = ln.length) (x : Int × Int) : x ∈ dueF ln nm ↔ x ∈ ln.zip nm := by
  unfold dueF
  rw [List.mem_map]
  constructor
  · rintro ⟨n, hn, rfl⟩
    rw [List.mem_filter] at hn
    have hm := List.contains_iff_mem.mp hn.2
    have hi := List.idxOf_lt_length_of_mem hm
    rw [getD_of_lt (by omega), List.mem_iff_getElem]
    refine ⟨ln.idxOf (n : Int), by rw [List.length_zip]; omega, ?_⟩
    rw [List.getElem_zip, List.getElem_idxOf]
  · intro hx
    obtain ⟨i, hi, rfl⟩ := List.mem_iff_getElem.mp hx
    rw [List.length_zip] at hi
    have h1 : i < ln.length := by omega
    have l := lo ln[i] (List.getElem_mem h1)
    have e : ((ln[i].toNat : Nat) : Int) = ln[i] := by omega
    refine ⟨ln[i].toNat, List.mem_filter.mpr ⟨List.mem_range.mpr (by omega), by rw [e]; exact List.contains_iff_mem.mpr (List.getElem_mem h1)⟩, ?_⟩
    rw [e, idx_nd nd h1, getD_of_lt (by omega), List.getElem_zip]
theorem due_is {ln nm : List Int} {ps : List (Int × Int)} (nd : ln.Nodup) (lo : ∀ x ∈ ln, 0 ≤ x ∧ x < 64) (hl : nm.length = ln.length) (a : Asc ps) (p : ps.Perm (ln.zip nm)) : ps = dueF ln nm :=
  asc_uniq a (asc_due ln nm) fun x => p.mem_iff.trans (mem_due nd lo hl x).symm
theorem Fm.nm0 {w : Str} {ln : List Int} (h : Fm w ln) : (Pv.nm0 ln).length = ln.length := by cases h <;> rfl
theorem Fm.nm1 {w : Str} {ln : List Int} (h : Fm w ln) : (Pv.nm1 ln).length = ln.length := by cases h <;> rfl
theorem Fm.le4 {w : Str} {ln : List Int} (h : Fm w ln) : ln.length ≤ 4 := by cases h <;> simp
theorem Fm.w3 {w : Str} {ln : List Int} (h : Fm w ln) : w ∈ words3 := by cases h <;> simp [words3]
theorem Fm.pos {w : Str} {ln : List Int} (h : Fm w ln) : 0 < ln.length := by cases h <;> simp
theorem w37 {w : Str} (h : w ∈ words3) : w ∈ words7 := by
  unfold words3 at h
  unfold words7
  simp only [List.mem_cons, List.not_mem_nil, or_false] at h ⊢
  rcases h with h | h | h <;> simp [h]
/-- all of a side's pairs are shown -/
theorem all_shown {ln nm : List Int} {ps : List (Int × Int)} {g : Int → Int} (p : ps.Perm (ln.zip nm)) (hl : nm.length = ln.length) : (ps.all fun x => decide (g x.1 = x.2)) = decide (ln.map g = nm) := by
  rw [p.all_eq]
  clear p ps
  induction ln generalizing nm with
  | nil => cases nm with
    | nil => simp
    | cons _ _ => simp at hl
  | cons a ln ih => cases nm with
    | nil => simp at hl
    | cons b nm =>
      have := ih (nm := nm) (by simpa using hl)
      rw [List.zip_cons_cons, List.all_cons, this, List.map_cons, Bool.eq_iff_iff]
      simp
theorem nd_ix' {l : List Addr} (h : l.Nodup) {i j : Nat} {a : Addr} (hi : l[i]? = some a) (hj : l[j]? = some a) : i = j := by
  obtain ⟨h1, e1⟩ := List.getElem?_eq_some_iff.mp hi
  obtain ⟨h2, e2⟩ := List.getElem?_eq_some_iff.mp hj
  rw [List.nodup_iff_pairwise_ne, List.pairwise_iff_getElem] at h
  rcases Nat.lt_trichotomy i j with c | c | c
  · exact absurd (e1.trans e2.symm) (h i j h1 h2 c)
  · exact c
  · exact absurd (e2.trans e1.symm) (h j i h2 h1 c)
theorem ne_ix {l : List Addr} (h : l.Nodup) (i j : Nat) {a b : Addr} (ha : l[i]? = some a) (hb : l[j]? = some b) (hij : i ≠ j) : a ≠ b := fun z => hij (nd_ix' h ha (z ▸ hb))
theorem Fm.nm0_mem {w : Str} {ln : List Int} (h : Fm w ln) {x : Int} (hx : x ∈ Pv.nm0 ln) : x ∈ ln := by
  cases h
  all_goals
    simp only [Pv.nm0, List.mem_cons, List.not_mem_nil, or_false] at hx ⊢
    omega
theorem Fm.nm1_mem {w : Str} {ln : List Int} (h : Fm w ln) {x : Int} (hx : x ∈ Pv.nm1 ln) : x ∈ ln := by
  cases h
  all_goals
    simp only [Pv.nm1, List.mem_cons, List.not_mem_nil, or_false] at hx ⊢
    omega
theorem stray_none {xs : List Int} (h : ∀ x ∈ xs, 0 ≤ x ∧ x < (xs.length : Int)) : strayI xs = none := by
  refine firstOf_none fun k hk => ?_
  have := h xs[k] (List.getElem_mem hk)
  unfold badN
  rw [getD_of_lt hk, decide_eq_false (by omega), decide_eq_false (by omega)]
  rfl
theorem ixN_int {n : Nat} {i : Int} (h0 : 0 ≤ i) (h1 : i < (n : Int)) : ixN n i = some i.toNat := by
  obtain ⟨j, rfl⟩ := Int.eq_ofNat_of_zero_le h0
  exact Evl.ixN_nat (by omega)
theorem at_int {xs : List Int} {i : Int} (h0 : 0 ≤ i) (h1 : i < (xs.length : Int)) : atI (xs.map V.int) i = some (V.int (xs.getD i.toNat 0)) := by
  obtain ⟨j, rfl⟩ := Int.eq_ofNat_of_zero_le h0
  rw [at_map (xs := xs) (j := j) (by omega), Int.toNat_natCast, getD_of_lt (by omega)]
theorem set_rng {xs : List Int} {n v : Int} {j : Nat} (h : ∀ x ∈ xs, 0 ≤ x ∧ x < n) (hv : 0 ≤ v ∧ v < n) : ∀ x ∈ xs.set j v, 0 ≤ x ∧ x < n := fun x hx => by
  rcases List.mem_or_eq_of_mem_set hx with m | e
  · exact h x m
  · rw [e]
    exact hv
theorem word_at {d : Int} (d0 : 0 ≤ d) (d1 : d < 7) : ∃ w2 ∈ words7, atI [V.str "tie", V.str "move", V.str "cross", V.str "ties", V.str "", V.str "Move", V.str "loop"] d = some (V.str w2) := by
  obtain ⟨d, rfl⟩ := Int.eq_ofNat_of_zero_le d0
  match d, d1 with
  | 0, _ => exact ⟨"tie", by simp [words7], rfl⟩
  | 1, _ => exact ⟨"move", by simp [words7], rfl⟩
  | 2, _ => exact ⟨"cross", by simp [words7], rfl⟩
  | 3, _ => exact ⟨"ties", by simp [words7], rfl⟩
  | 4, _ => exact ⟨"", by simp [words7], rfl⟩
  | 5, _ => exact ⟨"Move", by simp [words7], rfl⟩
  | 6, _ => exact ⟨"loop", by simp [words7], rfl⟩
  | n + 7, h => omega
/-- what is put into a bent image is no record -/
theorem menu_bad {n d t : Int} (n0 : 0 < n) (d0 : 0 ≤ d) (t0 : 0 ≤ t) (t1 : t < 5) (h : n ≤ 64) : [-1, n, 0 - n, n + d, 10 ^ (20 : Int).toNat].getD t.toNat 0 < 0 ∨ n ≤ [-1, n, 0 - n, n + d, 10 ^ (20 : Int).toNat].getD t.toNat 0 := by
  obtain ⟨t, rfl⟩ := Int.eq_ofNat_of_zero_le t0
  have e : (10 : Int) ^ (20 : Int).toNat = 100000000000000000000 := by decide
  match t, t1 with
  | 0, _ => exact Or.inl (by show (-1 : Int) < 0; decide)
  | 1, _ => exact Or.inr (Int.le_refl _)
  | 2, _ => exact Or.inl (by show 0 - n < 0; omega)
  | 3, _ => exact Or.inr (by show n ≤ n + d; omega)
  | 4, _ => exact Or.inr (by show n ≤ 10 ^ (20 : Int).toNat; rw [e]; omega)
  | m + 5, h => omega
theorem stray_set {xs : List Int} {v : Int} {j : Nat} (h : j < xs.length) (hv : v < 0 ∨ (xs.length : Int) ≤ v) : strayI (xs.set j v) ≠ none := fun z => by
  have := firstOf_no z j (by rw [List.length_set]; exact h)
  unfold badN at this
  rw [getD_of_lt (by rw [List.length_set]; exact h), List.getElem_set_self, List.length_set, Bool.or_eq_false_iff] at this
  have a := of_decide_eq_false this.1
  have b := of_decide_eq_false this.2
  omega
theorem filter_first {p : Nat → Bool} {n k : Nat} (h : firstOf p n = some k) : ∃ r, (List.range n).filter p = k :: r := by
  unfold firstOf at h
  rw [← List.head?_filter] at h
  cases q : (List.range n).filter p with
  | nil => rw [q] at h; cases h
  | cons a r =>
    rw [q] at h
    cases h
    exact ⟨r, rfl⟩

end Pv

namespace Pv
open PySem L2 Evl
theorem tup2 {K : PySem.W.Frag} {c : Addr} {od : Option Addr} {n : Nat} {sl : Array (Option Value)} {p q : Addr} (l : List.lookup c K = some ⟨.type "tuple", od, .seq #[.ref p, .ref q] n, sl⟩) (H : Hp) : SqT K H c [.ref p, .ref q] :=
  Or.inr ⟨_, _, _, l, rfl, rfl, (by show 2 ≤ sizeLine; decide), .cons rfl (.cons rfl .nil)⟩
def sides_mk {w : World} {K : PySem.W.Frag} {c k0 k1 k2 j00 j01 j10 j11 j20 j21 : Addr} {t0 t1 t2 a00_0 a00_1 a01_0 a01_1 a10_0 a10_1 a10_2 a11_0 a11_1 a11_2 a20_0 a20_1 a20_2 a20_3 a21_0 a21_1 a21_2 a21_3 : Tok} {ep n0 n1 n2 n00 n01 n10 n11 n20 n21 : Nat} {od0 od1 od2 od00 od01 od10 od11 od20 od21 : Option Addr} {sl0 sl1 sl2 sl00 sl01 sl10 sl11 sl20 sl21 : Array (Option Value)}
    (sm : (c == sysModules) = false) (l : List.lookup c K = some ⟨.type "dict", none, .dict #[⟨PyData.keyHash w.params "tie", .str "tie" t0, .ref k0⟩, ⟨PyData.keyHash w.params "move", .str "move" t1, .ref k1⟩, ⟨PyData.keyHash w.params "cross", .str "cross" t2, .ref k2⟩] ep, #[]⟩)
    (f0 : List.lookup k0 K = some ⟨.type "tuple", od0, .seq #[.ref j00, .ref j01] n0, sl0⟩)
    (f00 : List.lookup j00 K = some ⟨.type "tuple", od00, .seq #[.int 0 a00_0, .int 1 a00_1] n00, sl00⟩)
    (f01 : List.lookup j01 K = some ⟨.type "tuple", od01, .seq #[.int 1 a01_0, .int 0 a01_1] n01, sl01⟩)
    (f1 : List.lookup k1 K = some ⟨.type "tuple", od1, .seq #[.ref j10, .ref j11] n1, sl1⟩)
    (f10 : List.lookup j10 K = some ⟨.type "tuple", od10, .seq #[.int 1 a10_0, .int 0 a10_1, .int 2 a10_2] n10, sl10⟩)
    (f11 : List.lookup j11 K = some ⟨.type "tuple", od11, .seq #[.int 2 a11_0, .int 1 a11_1, .int 0 a11_2] n11, sl11⟩)
    (f2 : List.lookup k2 K = some ⟨.type "tuple", od2, .seq #[.ref j20, .ref j21] n2, sl2⟩)
    (f20 : List.lookup j20 K = some ⟨.type "tuple", od20, .seq #[.int 1 a20_0, .int 0 a20_1, .int 3 a20_2, .int 2 a20_3] n20, sl20⟩)
    (f21 : List.lookup j21 K = some ⟨.type "tuple", od21, .seq #[.int 3 a21_0, .int 2 a21_1, .int 1 a21_2, .int 0 a21_3] n21, sl21⟩)
    : SdK w K c where
  es := #[⟨PyData.keyHash w.params "tie", .str "tie" t0, .ref k0⟩, ⟨PyData.keyHash w.params "move", .str "move" t1, .ref k1⟩, ⟨PyData.keyHash w.params "cross", .str "cross" t2, .ref k2⟩]
  n := ep
  kd := ⟨l, ⟨⟨_, _, rfl, rfl⟩, ⟨_, _, rfl, rfl⟩, ⟨_, _, rfl, rfl⟩, trivial⟩, sm⟩
  no := fun z hz h3 => by
    unfold words7 at hz
    unfold words3 at h3
    simp only [List.mem_cons, List.not_mem_nil, or_false, not_or] at hz h3
    unfold PySem.W.nsIn
    rw [show K.lookup c = _ from l]
    rcases hz with h | rfl | rfl | rfl | rfl | rfl | rfl
    · exact absurd h h3.1
    · exact absurd rfl h3.2.1
    · exact absurd rfl h3.2.2
    · rfl
    · rfl
    · rfl
    · rfl
  yes := fun z hz => by
    unfold words3 at hz
    simp only [List.mem_cons, List.not_mem_nil, or_false] at hz
    rcases hz with rfl | rfl | rfl
    · refine ⟨k0, j00, j01, ?_, tup2 f0, [0, 1], [1, 0], fun H => Or.inr ⟨_, _, _, f00, rfl, rfl, (by show 2 ≤ sizeLine; decide), .cons ⟨_, rfl⟩ (.cons ⟨_, rfl⟩ (.nil))⟩, fun H => Or.inr ⟨_, _, _, f01, rfl, rfl, (by show 2 ≤ sizeLine; decide), .cons ⟨_, rfl⟩ (.cons ⟨_, rfl⟩ (.nil))⟩, fun ln fm => ?_⟩
      · unfold PySem.W.nsIn
        rw [show K.lookup c = _ from l]
        rfl
      · cases fm
        refine ⟨rfl, rfl, rfl, rfl, fun x hx => ?_, fun x hx => ?_⟩
        all_goals
          simp only [List.mem_cons, List.not_mem_nil, or_false] at hx
          show x < 2
          omega
    · refine ⟨k1, j10, j11, ?_, tup2 f1, [1, 0, 2], [2, 1, 0], fun H => Or.inr ⟨_, _, _, f10, rfl, rfl, (by show 3 ≤ sizeLine; decide), .cons ⟨_, rfl⟩ (.cons ⟨_, rfl⟩ (.cons ⟨_, rfl⟩ (.nil)))⟩, fun H => Or.inr ⟨_, _, _, f11, rfl, rfl, (by show 3 ≤ sizeLine; decide), .cons ⟨_, rfl⟩ (.cons ⟨_, rfl⟩ (.cons ⟨_, rfl⟩ (.nil)))⟩, fun ln fm => ?_⟩
      · unfold PySem.W.nsIn
        rw [show K.lookup c = _ from l]
        rfl
      · cases fm
        refine ⟨rfl, rfl, rfl, rfl, fun x hx => ?_, fun x hx => ?_⟩
        all_goals
          simp only [List.mem_cons, List.not_mem_nil, or_false] at hx
          show x < 3
          omega
    · refine ⟨k2, j20, j21, ?_, tup2 f2, [1, 0, 3, 2], [3, 2, 1, 0], fun H => Or.inr ⟨_, _, _, f20, rfl, rfl, (by show 4 ≤ sizeLine; decide), .cons ⟨_, rfl⟩ (.cons ⟨_, rfl⟩ (.cons ⟨_, rfl⟩ (.cons ⟨_, rfl⟩ (.nil))))⟩, fun H => Or.inr ⟨_, _, _, f21, rfl, rfl, (by show 4 ≤ sizeLine; decide), .cons ⟨_, rfl⟩ (.cons ⟨_, rfl⟩ (.cons ⟨_, rfl⟩ (.cons ⟨_, rfl⟩ (.nil))))⟩, fun ln fm => ?_⟩
      · unfold PySem.W.nsIn
        rw [show K.lookup c = _ from l]
        rfl
      · cases fm
        refine ⟨rfl, rfl, rfl, rfl, fun x hx => ?_, fun x hx => ?_⟩
        all_goals
          simp only [List.mem_cons, List.not_mem_nil, or_false] at hx
          show x < 4
          omega
end Pv

namespace Pv
open PySem L2 Evl
local macro_rules | `(tactic| walk_at "r1") => `(tactic| first
  | refine ⟨_, rfl, ?_⟩
  | refine ⟨rfl, ?_⟩
  | refine ⟨_, _, rfl, rfl, (show (_ : Prop) from by first | decide | omega | assumption | exact Or.inr ⟨by decide, by decide⟩ | exact Or.inl ⟨by omega, by omega⟩ | exact ⟨by decide, by decide, by decide⟩ | exact ⟨by decide, by decide⟩ | exact wide_div (b := 60) (by omega) (by omega) (by decide) (by decide)), ?_⟩
  | refine ⟨_, _, rfl, rfl, ?_⟩
  | refine ⟨_, _, _, _, rfl, rfl, (show (_ : Prop) from by first | exact SqL.of (by assumption) | exact SqL.of upd_same | assumption | exact upd_same), rfl, ?_⟩
  | refine Or.inl ⟨_, rfl, ?_⟩)
local macro_rules | `(tactic| walk_at "ex") => `(tactic| first | exact Ex.refl _ | assumption | (refine ex_new ?_ (by assumption); walk_at "ex"))
local macro_rules | `(tactic| walk_at "r") => `(tactic| repeat (walk_at "r1"))

section
variable {P : Program} {w : World} {K : PySem.W.Frag} {mg : Str → Option Value} {base : Heap} {A : Ad}
theorem ok_InvalidImage (T : Txt K mg A)   : Okd P w K mg base CX0 1 A.i_InvalidImage P_InvalidImage (spInit A.InvalidImage "record") := by
  obtain ⟨fd, F⟩ := T.f_InvalidImage.fn

  refine ⟨fd, F.ok sc_InvalidImage (fun vs H Q E h => ?_) (fun cdv A' outer s H vs Q E hr h => ?_), F.binds fun _ _ _ _ _ _ us hl => match us, hl with | [_, _], _ => rfl⟩
  · obtain ⟨a, v, rfl, _⟩ := h
    rfl
  · obtain ⟨a, v, rfl, ha, k⟩ := h
    refine ⟨_, (pss_one (ps_ost (pv 0) (pv 1))), ?_⟩
    exact ⟨_, rfl, _, rfl, a, A.InvalidImage, rfl, T.e_InvalidImage.oex, T.f_InvalidImage.nf, Or.inl ⟨ha, fun dx hdx ne => k dx hdx ne⟩⟩

end

section
variable {P : Program} {w : World} {K : PySem.W.Frag} {mg : Str → Option Value} {base : Heap} {A : Ad}
theorem ok_check_image (T : Txt K mg A)  (g_InvalidImage : Okd P w K mg base CX0 1 A.i_InvalidImage P_InvalidImage (spInit A.InvalidImage "record")) : Okd P w K mg base (L2N.CX P w) 3 A.check_image P_check_image (spCI2 A) := by
  obtain ⟨fd, F⟩ := T.d_check_image
  obtain ⟨fd_InvalidImage, G_InvalidImage, b_InvalidImage⟩ := g_InvalidImage
  refine ⟨fd, F.okN sc_check_image (fun vs H Q E h => ?_) (fun cdv A' outer s H vs Q E hr h => ?_), F.binds fun _ _ _ _ _ _ us hl => match us, hl with | [_], _ => rfl⟩
  · obtain ⟨a, xs, rfl, _⟩ := h
    rfl
  · obtain ⟨a, xs, rfl, hx, hl, kq, kr⟩ := h
    refine ⟨_, (pss_cons (ps_set (i := 1) sc_check_image.nd rfl (Or.inl rfl) (pe_callB call_len_seq (by rfl) T.n_len PySem.boot_len (pa_cons (pv 0) pa_nil)))
      (pss_one (ps_for (passes_of rfl) rfl (pi_enum (by rfl) T.n_enumerate (pa_cons (pv 0) pa_nil)) (pg_tup (by rfl) (pgs_cons (pg_name (i := 2) sc_check_image.nd rfl (Or.inl rfl)) (pgs_cons (pg_name (i := 3) sc_check_image.nd rfl (Or.inl rfl)) pgs_nil))) (pss_one (ps_if (PW.pt (pw_or (pt_cmpR op_lt (pv 3) pe_int (nomark _)) (pw_or1 (pt_cmpR op_ge (pv 3) (pv 1) (nomark _))))) (pss_one (L2N.ps_raise rfl (L2N.takes_of rfl rfl rfl rfl) (L2N.pmk_oexN T.e_InvalidImage.oex T.f_InvalidImage.i T.f_InvalidImage.t G_InvalidImage (hr.mono (by decide)) b_InvalidImage pass0 rfl T.e_InvalidImage.g (pa_cons (pv 2) pa_nil)))) pss_nil))))), ?_⟩
    refine ⟨_, rfl, _, _, rfl, Or.inl (SqL.of hx), ?_⟩
    refine ⟨_, rfl, _, _, rfl, SqL.of hx, for_it walk_enum (fun i σ H' => ∃ v1 v2 : Option V, σ = [some (.ref a), some (.int ((xs.map V.int).length : Int)), v1, v2] ∧ Ex H H' ∧ ∀ j, j < i → badN xs j = false)
      ⟨none, none, rfl, Ex.refl H, fun j hj => absurd hj (Nat.not_lt_zero _)⟩ (fun i σ H' _ ⟨_, _, _, e, _⟩ => SqL.of (e _ _ hx)) ?_ ?_⟩
    · rintro i x σ H' H2 hi ⟨v1, v2, rfl, e, nb⟩ ⟨T0, y1, y2, rfl, hT, rfl, e1, e2⟩
      rw [List.length_map] at hi
      obtain ⟨z, hz, rfl⟩ := markV_int e2
      cases e1
      have hbad : badN xs i = (decide (z < 0) || decide ((xs.length : Int) ≤ z)) := by
        unfold badN
        rw [strip_getD_of hz]
      have raise : badN xs i = true → ∀ d H3, Ex (upd H' T0 (.tup [.int (i : Nat), .int z])) H3 → H3 d = some (.xd [("record", .int (i : Int))]) → E (.ref A.InvalidImage) (some d) H3 := fun hb d H3 ex hd =>
        kr i (firstOf_some hi hb nb) d H3 ((ex_new e hT).trans ex) hd
      refine ⟨T0, _, rfl, SqT.of upd_same, rfl, _, _, rfl, _, _, rfl, rfl, ?_⟩
      walk_at "r"
      refine ite_b (fun c => ?_) (fun c => ?_)
      · exact ⟨_, rfl, (by show 1 ≤ 1000; decide), mkO_go (raise (by rw [hbad, c]; rfl))⟩
      walk_at "r"
      rw [List.length_map]
      refine ite_b (fun c2 => ?_) (fun c2 => ?_)
      · exact ⟨_, rfl, (by show 1 ≤ 1000; decide), mkO_go (raise (by rw [hbad, c2, Bool.or_true]))⟩
      refine ⟨_, _, rfl, ex_new e hT, fun j hj => ?_⟩
      by_cases hji : j = i
      · rw [hji, hbad, c, c2]
        rfl
      · exact nb j (by omega)
    · rintro σ H' ⟨v1, v2, rfl, e, nb⟩
      rw [List.length_map] at nb
      exact kq (firstOf_none nb) H' e

end

section
variable {P : Program} {w : World} {K : PySem.W.Frag} {mg : Str → Option Value} {base : Heap} {A : Ad}
theorem ok_law_mix (T : Txt K mg A)   : Okd P w K mg base CX0 1 A.law_mix P_law_mix spMix := by
  obtain ⟨fd, F⟩ := T.d_law_mix

  refine ⟨fd, F.ok sc_law_mix (fun vs H Q E h => ?_) (fun cdv A' outer s H vs Q E hr h => ?_), F.binds fun _ _ _ _ _ _ us hl => match us, hl with | [_, _], _ => rfl⟩
  · obtain ⟨a, b, rfl, _⟩ := h
    rfl
  · obtain ⟨a, b, rfl, k⟩ := h
    refine ⟨_, (pss_cons (ps_set (i := 2) sc_law_mix.nd rfl (Or.inl rfl) (pe_op op_mod (pe_callTy call_int1 (by rfl) T.n_int (by decide +kernel) (pa_cons (pe_op op_add (pe_op op_add (pe_op op_mul (pv 0) pe_int) (pe_op op_mul (pv 1) pe_int)) pe_int) pa_nil)) pe_int))
      (pss_cons (ps_set (i := 3) sc_law_mix.nd rfl (Or.inl rfl) (pe_op op_mod (pe_callTy call_int1 (by rfl) T.n_int (by decide +kernel) (pa_cons (pe_op op_add (pe_op op_add (pe_op op_mul (pv 2) (pv 2)) (pe_op op_mul (pv 1) pe_int)) pe_int) pa_nil)) pe_int))
      (pss_one (ps_ret (pe_op op_mod (pe_callTy call_int1 (by rfl) T.n_int (by decide +kernel) (pa_cons (pe_op op_add (pe_op op_mul (pv 3) (pv 3)) (pv 2)) pa_nil)) pe_int))))), ?_⟩
    walk_at "r"
    exact k _ (Int.emod_nonneg _ (by decide))

end

section
variable {P : Program} {w : World} {K : PySem.W.Frag} {mg : Str → Option Value} {base : Heap} {A : Ad}
theorem ok_law_box (T : Txt K mg A)   : Okd P w K mg base CX0 1 A.law_box P_law_box (spBox K) := by
  obtain ⟨fd, F⟩ := T.d_law_box

  refine ⟨fd, F.ok sc_law_box (fun vs H Q E h => ?_) (fun cdv A' outer s H vs Q E hr h => ?_), F.binds fun _ _ _ _ _ _ us hl => match us, hl with | [_], _ => rfl⟩
  · obtain ⟨a, ns, rfl, _⟩ := h
    rfl
  · obtain ⟨a, ns, rfl, hs, k⟩ := h
    refine ⟨_, (pss_cons (ps_set (i := 1) sc_law_box.nd rfl (Or.inl rfl) pe_int)
      (pss_cons (ps_for PassesOwn.never rfl (pi_list (pe_slice sl_list (pv 0) po_none (po_some pe_int))) (pg_name (i := 2) sc_law_box.nd rfl (Or.inl rfl)) (pss_one (ps_set (i := 1) sc_law_box.nd rfl (Or.inl rfl) (pe_op op_mod (pe_callTy call_int1 (by rfl) T.n_int (by decide +kernel) (pa_cons (pe_op op_add (pe_op op_mul (pv 1) pe_int) (pv 2)) pa_nil)) pe_int))))
      (pss_one (ps_ret (pe_lst (pa_cons (pe_callTy call_list_of (by rfl) T.n_list (by decide +kernel) (pa_cons (pe_slice sl_list (pv 0) po_none (po_some pe_int)) pa_nil)) (pa_cons pe_int (pa_cons pe_int (pa_cons pe_int (pa_cons (pv 1) pa_nil)))))))))), ?_⟩
    walk_at "r"
    refine ⟨a, _, rfl, hs, fun p hp => ⟨_, rfl, ⟨_, SqL.of upd_same⟩, ?_⟩⟩
    rw [show (63 : Int) = ((63 : Nat) : Int) from rfl, cut_take]
    have hsp : ∀ {G : Hp}, Ex (upd H p (.lst ((ns.take 63).map V.int))) G → SqL K G p ((ns.take 63).map V.int) := fun e => SqL.of (e _ _ upd_same)
    refine for_list (K := K) (a := p) (xs := (ns.take 63).map V.int) (fun i σ H' => H' = upd H p (.lst ((ns.take 63).map V.int)) ∧ ∃ (g : Int) (v : Option V), σ = [some (.ref a), some (.int g), v]) ⟨rfl, 13, none, rfl⟩ (fun i σ H' _ ⟨e, _⟩ => hsp (e ▸ Ex.refl _)) ?_ ?_
    · rintro i y σ H' hi ⟨rfl, g, v, rfl⟩
      obtain ⟨z, hz, rfl⟩ := int_at hi
      walk_at "r"
      exact ⟨_, _, rfl⟩
    · rintro σ H' ⟨rfl, g, v, rfl⟩
      walk_at "r"
      refine ⟨a, _, rfl, sqL_ex (Ex.new hp) hs, fun q hq => ?_⟩
      rw [cut_take]
      refine ⟨_, _, rfl, Or.inl (SqL.of upd_same), fun c hc => ?_⟩
      walk_at "r"
      refine ⟨(by show 5 ≤ sizeLine; decide), fun b hb => ?_⟩
      have e1 := Ex.new (o := .lst ((ns.take 63).map V.int)) hp
      have e2 := e1.trans (Ex.new (o := .lst ((ns.take 63).map V.int)) hq)
      have e3 := e2.trans (Ex.new (o := .lst ((ns.take 63).map V.int)) hc)
      refine k b c _ (back_none e3 hb) (back_none e2 hc) (e3.trans (Ex.new hb)) ⟨ns.take 63, 0, 0, 0, g, upd_same, ?_, by decide, by decide, by rw [List.length_take]; omega⟩
      rw [upd_ne (ne_of_none upd_same hb), upd_same]

end

section
variable {P : Program} {w : World} {K : PySem.W.Frag} {mg : Str → Option Value} {base : Heap} {A : Ad}
theorem ok_law_draw (T : Txt K mg A)  (g_law_mix : Okd P w K mg base CX0 1 A.law_mix P_law_mix spMix) : Okd P w K mg base CX0 2 A.law_draw P_law_draw spDraw := by
  obtain ⟨fd, F⟩ := T.d_law_draw
  obtain ⟨fd_law_mix, G_law_mix, b_law_mix⟩ := g_law_mix
  refine ⟨fd, F.ok sc_law_draw (fun vs H Q E h => ?_) (fun cdv A' outer s H vs Q E hr h => ?_), F.binds fun _ _ _ _ _ _ us hl => match us, hl with | [_, _], _ => rfl⟩
  · obtain ⟨b, c, n, rfl, _⟩ := h
    rfl
  · obtain ⟨b, c, n, rfl, n0, n1, B, k⟩ := h
    refine ⟨_, (pss_cons (ps_asg (pe_op op_add (pe_ix ix_list (pv 0) pe_int (fun _ _ => rfl)) pe_int) (pg_sub (pv 0) pe_int set_list))
      (pss_cons (ps_if (PW.pt (pw_and (pt_cmpR op_eq (pe_ix ix_list (pv 0) pe_int (fun _ _ => rfl)) pe_int (nomark _)) (pw_and1 (pt_cmpR op_lt (pe_ix ix_list (pv 0) pe_int (fun _ _ => rfl)) (pe_callB call_len_seq (by rfl) T.n_len PySem.boot_len (pa_cons (pe_ix ix_list (pv 0) pe_int (fun _ _ => rfl)) pa_nil)) (nomark _))))) (pss_cons (ps_set (i := 2) sc_law_draw.nd rfl (Or.inl rfl) (pe_ix ix_list (pe_ix ix_list (pv 0) pe_int (fun _ _ => rfl)) (pe_ix ix_list (pv 0) pe_int (fun _ _ => rfl)) (fun _ _ => rfl)))
      (pss_cons (ps_asg (pe_op op_add (pe_ix ix_list (pv 0) pe_int (fun _ _ => rfl)) pe_int) (pg_sub (pv 0) pe_int set_list))
      (pss_cons (ps_if (pt_cmpR op_lt (pe_callB call_abs (by rfl) T.n_abs (by decide +kernel) (pa_cons (pv 2) pa_nil)) (pe_op op_pow pe_int pe_int) (nomark _)) (pss_one (ps_ret (pe_op op_mod (pe_callTy call_int1 (by rfl) T.n_int (by decide +kernel) (pa_cons (pe_call G_law_mix (hr.mono (by decide)) (by rfl) T.g_law_mix T.k_law_mix b_law_mix .nil pass0 (pa_cons (pv 2) (pa_cons (pe_ix ix_list (pv 0) pe_int (fun _ _ => rfl)) pa_nil))) pa_nil)) (pv 1)))) pss_nil)
      (pss_one (ps_asg (pe_callB call_abs (by rfl) T.n_abs (by decide +kernel) (pa_cons (pv 2) pa_nil)) (pg_sub (pv 0) pe_int set_list)))))) pss_nil)
      (pss_cons (ps_if (pt_cmpR op_gt (pe_ix ix_list (pv 0) pe_int (fun _ _ => rfl)) pe_int (nomark _)) (pss_cons (ps_set (i := 3) sc_law_draw.nd rfl (Or.inl rfl) (pe_ix ix_list (pv 0) pe_int (fun _ _ => rfl)))
      (pss_cons (ps_asg (pe_op op_fdivW (pv 3) (pv 1)) (pg_sub (pv 0) pe_int set_list))
      (pss_one (ps_ret (pe_op op_mod (pe_callTy call_int1 (by rfl) T.n_int (by decide +kernel) (pa_cons (pv 3) pa_nil)) (pv 1)))))) pss_nil)
      (pss_one (ps_ret (pe_op op_mod (pe_callTy call_int1 (by rfl) T.n_int (by decide +kernel) (pa_cons (pe_call G_law_mix (hr.mono (by decide)) (by rfl) T.g_law_mix T.k_law_mix b_law_mix .nil pass0 (pa_cons (pe_ix ix_list (pv 0) pe_int (fun _ _ => rfl)) (pa_cons (pe_ix ix_list (pv 0) pe_int (fun _ _ => rfl)) pa_nil))) pa_nil)) (pv 1))))))), ?_⟩
    obtain ⟨ns, d, i, st, sd, hb, hc, d0, i0, hl⟩ := B
    have ncb : c ≠ b := fun e => by rw [e, hb] at hc; cases ns <;> cases hc
    have hbs : ∀ x y z u v : V, [x, y, z, u, v].length = 5 := fun _ _ _ _ _ => rfl
    walk_at "r"
    refine ite_b (fun c1 => ?_) (fun c1 => ?_)
    · have hc1 : ∀ o, upd H b o c = some (.lst (ns.map V.int)) := fun o => by rw [upd_ne ncb]; exact hc
      walk_at "r"
      refine ⟨c, _, rfl, Or.inl (SqL.of (hc1 _)), ?_⟩
      rw [List.length_map]
      walk_at "r"
      refine ite_b (fun c2 => ?_) (fun c2 => ?_)
      · have c2 := of_decide_eq_true c2
        obtain ⟨i, rfl⟩ := Int.eq_ofNat_of_zero_le i0
        have hi : i < ns.length := by omega
        walk_at "r"
        refine ⟨c, _, _, _, rfl, rfl, SqL.of (hc1 _), at_map hi, ?_⟩
        walk_at "r"
        have ab0 : 0 ≤ (if ns[i] < 0 then -ns[i] else ns[i]) := by split <;> omega
        refine ite_b (fun c3 => ?_) (fun c3 => ?_)
        · walk_at "r"
          refine ⟨_, _, rfl, fun d3 h3 => ?_⟩
          walk_at "r"
          exact k _ _ (Int.emod_nonneg _ (by omega)) (Int.emod_lt_of_pos _ n0) ⟨ns, _, _, _, _, upd_same, by simp only [upd_ne ncb]; exact hc, d0, by omega, hl⟩ (by repeat (first | exact Mut.refl _ _ | refine Mut.upd ?_))
        · walk_at "r"
          refine ite_b (fun c4 => ?_) (fun c4 => ?_)
          · walk_at "r"
            exact k _ _ (Int.emod_nonneg _ (by omega)) (Int.emod_lt_of_pos _ n0) ⟨ns, _, _, _, _, upd_same, by simp only [upd_ne ncb]; exact hc, Int.ediv_nonneg ab0 (by omega), by omega, hl⟩ (by repeat (first | exact Mut.refl _ _ | refine Mut.upd ?_))
          · walk_at "r"
            refine ⟨_, _, rfl, fun d3 h3 => ?_⟩
            walk_at "r"
            exact k _ _ (Int.emod_nonneg _ (by omega)) (Int.emod_lt_of_pos _ n0) ⟨ns, _, _, _, _, upd_same, by simp only [upd_ne ncb]; exact hc, ab0, by omega, hl⟩ (by repeat (first | exact Mut.refl _ _ | refine Mut.upd ?_))
      · walk_at "r"
        refine ite_b (fun c3 => ?_) (fun c3 => ?_)
        · walk_at "r"
          exact k _ _ (Int.emod_nonneg _ (by omega)) (Int.emod_lt_of_pos _ n0) ⟨ns, _, _, _, _, upd_same, by simp only [upd_ne ncb]; exact hc, Int.ediv_nonneg d0 (by omega), by omega, hl⟩ (by repeat (first | exact Mut.refl _ _ | refine Mut.upd ?_))
        · walk_at "r"
          refine ⟨_, _, rfl, fun d3 h3 => ?_⟩
          walk_at "r"
          exact k _ _ (Int.emod_nonneg _ (by omega)) (Int.emod_lt_of_pos _ n0) ⟨ns, _, _, _, _, upd_same, by simp only [upd_ne ncb]; exact hc, d0, by omega, hl⟩ (by repeat (first | exact Mut.refl _ _ | refine Mut.upd ?_))
    · refine iteF ?_
      walk_at "r"
      refine ite_b (fun c3 => ?_) (fun c3 => ?_)
      · walk_at "r"
        exact k _ _ (Int.emod_nonneg _ (by omega)) (Int.emod_lt_of_pos _ n0) ⟨ns, _, _, _, _, upd_same, by simp only [upd_ne ncb]; exact hc, Int.ediv_nonneg d0 (by omega), by omega, hl⟩ (by repeat (first | exact Mut.refl _ _ | refine Mut.upd ?_))
      · walk_at "r"
        refine ⟨_, _, rfl, fun d3 h3 => ?_⟩
        walk_at "r"
        exact k _ _ (Int.emod_nonneg _ (by omega)) (Int.emod_lt_of_pos _ n0) ⟨ns, _, _, _, _, upd_same, by simp only [upd_ne ncb]; exact hc, d0, by omega, hl⟩ (by repeat (first | exact Mut.refl _ _ | refine Mut.upd ?_))

end

section
variable {P : Program} {w : World} {K : PySem.W.Frag} {mg : Str → Option Value} {base : Heap} {A : Ad}
theorem ok_law_whole (T : Txt K mg A)   : Okd P w K mg base CX0 1 A.law_whole P_law_whole spWhole := by
  obtain ⟨fd, F⟩ := T.d_law_whole

  refine ⟨fd, F.ok sc_law_whole (fun vs H Q E h => ?_) (fun cdv A' outer s H vs Q E hr h => ?_), F.binds fun _ _ _ _ _ _ us hl => match us, hl with | [_, _], _ => rfl⟩
  · obtain ⟨a, b, rfl, _⟩ := h
    rfl
  · obtain ⟨a, b, rfl, k⟩ := h
    refine ⟨_, (pss_one (ps_ret (pe_and (pe_callB call_isi (by rfl) T.n_isinstance (by decide +kernel) (pa_cons (pv 0) (pa_cons (pe_bltn (v := .ty "int") (u := .type "int") (by rfl) T.n_int (by decide +kernel) rfl) pa_nil))) (pe_and (pe_not (pe_callB call_isi (by rfl) T.n_isinstance (by decide +kernel) (pa_cons (pv 0) (pa_cons (pe_bltn (v := .ty "bool") (u := .type "bool") (by rfl) T.n_bool (by decide +kernel) rfl) pa_nil)))) (pe_one (pe_cmpR op_eq (pv 0) (pv 1) (nomark _))))))), ?_⟩
    walk_at "r"
    refine ⟨_, _, _, _, true, rfl, ClsV.ty "int", TyX.base (TyOf.int a), kit_ty (by decide +kernel), _, rfl, iteT ?_⟩
    refine ⟨_, rfl, _, _, _, _, false, rfl, ClsV.ty "bool", TyX.base (TyOf.int a), kit_ty (by decide +kernel), ?_⟩
    refine ⟨_, rfl, true, rfl, iteT ⟨_, rfl, _, rfl, rfl, ?_⟩⟩
    rw [show decide (V.int a = V.int b) = decide (a = b) from dec_int]
    exact k

end

section
variable {P : Program} {w : World} {K : PySem.W.Frag} {mg : Str → Option Value} {base : Heap} {A : Ad}
theorem okh_law_whole (T : Txt K mg A)   : Okh P w K mg base CX0 1 A.law_whole P_law_whole spWhole := by
  obtain ⟨fd, F⟩ := T.d_law_whole

  refine ⟨fd, F.okH sc_law_whole (fun vs H Q E h => ?_) (fun cdv A' outer s H vs Q E p hot hr h => ?_), F.binds fun _ _ _ _ _ _ us hl => match us, hl with | [_, _], _ => rfl⟩
  · obtain ⟨a, b, rfl, _⟩ := h
    rfl
  · obtain ⟨a, b, rfl, k⟩ := h
    refine ⟨_, (pss_one (ps_ret (pe_and (pe_callB call_isi (by rfl) T.n_isinstance (by decide +kernel) (pa_cons (pv 0) (pa_cons (pe_bltn (v := .ty "int") (u := .type "int") (by rfl) T.n_int (by decide +kernel) rfl) pa_nil))) (pe_and (pe_not (pe_callB call_isi (by rfl) T.n_isinstance (by decide +kernel) (pa_cons (pv 0) (pa_cons (pe_bltn (v := .ty "bool") (u := .type "bool") (by rfl) T.n_bool (by decide +kernel) rfl) pa_nil)))) (pe_one (pe_cmpR op_eq (pv 0) (pv 1) (nomark _))))))), ?_⟩
    walk_at "r"
    refine ⟨_, _, _, _, true, rfl, ClsV.ty "int", TyX.base (TyOf.int a), kit_ty (by decide +kernel), _, rfl, iteT ?_⟩
    refine ⟨_, rfl, _, _, _, _, false, rfl, ClsV.ty "bool", TyX.base (TyOf.int a), kit_ty (by decide +kernel), ?_⟩
    refine ⟨_, rfl, true, rfl, iteT ⟨_, rfl, _, rfl, rfl, ?_⟩⟩
    rw [show decide (V.int a = V.int b) = decide (a = b) from dec_int]
    exact k

end

section
variable {P : Program} {w : World} {K : PySem.W.Frag} {mg : Str → Option Value} {base : Heap} {A : Ad}
theorem ok_law_row (T : Txt K mg A)  (g_law_whole : Okd P w K mg base CX0 1 A.law_whole P_law_whole spWhole) : Okd P w K mg base CX0 2 A.law_row P_law_row spRowK := by
  obtain ⟨fd, F⟩ := T.d_law_row
  obtain ⟨fd_law_whole, G_law_whole, b_law_whole⟩ := g_law_whole
  refine ⟨fd, F.ok sc_law_row (fun vs H Q E h => ?_) (fun cdv A' outer s H vs Q E hr h => ?_), F.binds fun _ _ _ _ _ _ us hl => match us, hl with | [_, _], _ => rfl⟩
  · obtain ⟨t, d, xs, rfl, _⟩ := h
    rfl
  · obtain ⟨t, d, xs, rfl, ht, hd, h64, k⟩ := h
    refine ⟨_, (pss_cons (ps_if (PW.pt (pw_or (pt_not (pt_val (pe_callB call_isi (by rfl) T.n_isinstance (by decide +kernel) (pa_cons (pv 0) (pa_cons (pe_bltn (v := .ty "list") (u := .type "list") (by rfl) T.n_list (by decide +kernel) rfl) pa_nil))))) (pw_or1 (pt_cmpR op_ne (pe_callB call_len_seq (by rfl) T.n_len PySem.boot_len (pa_cons (pv 0) pa_nil)) (pe_callB call_len_seq (by rfl) T.n_len PySem.boot_len (pa_cons (pv 1) pa_nil)) (nomark _))))) (pss_one (ps_ret pe_bl)) pss_nil)
      (pss_cons (ps_for PassesOwn.never rfl (pi_range1 (by rfl) T.n_range (pa_cons (pe_callB call_len_seq (by rfl) T.n_len PySem.boot_len (pa_cons (pv 1) pa_nil)) pa_nil)) (pg_name (i := 2) sc_law_row.nd rfl (Or.inl rfl)) (pss_one (ps_if (pt_not (pt_val (pe_call G_law_whole (hr.mono (by decide)) (by rfl) T.g_law_whole T.k_law_whole b_law_whole .nil pass0 (pa_cons (pe_ix ix_list (pv 0) (pv 2) (fun _ _ => rfl)) (pa_cons (pe_ix ix_list (pv 1) (pv 2) (fun _ _ => rfl)) pa_nil))))) (pss_one (ps_ret pe_bl)) pss_nil)))
      (pss_one (ps_ret pe_bl)))), ?_⟩
    unfold ListI at ht hd
    refine ⟨_, rfl, _, _, _, _, true, rfl, ClsV.ty "list", TyX.base (TyOf.lst ht), kit_ty (by decide +kernel), ?_⟩
    refine ⟨_, rfl, iteF ?_⟩
    refine ⟨_, rfl, t, _, rfl, Or.inl (SqL.of ht), _, rfl, d, _, rfl, Or.inl (SqL.of hd), rfl, _, rfl, ?_⟩
    refine ite_b (fun c => absurd (ne_self _) (by rw [c]; decide)) (fun _ => ?_)
    refine ⟨_, rfl, d, _, rfl, Or.inl (SqL.of hd), _, rfl, (by rw [List.length_map]; omega), (by rw [List.length_map]; omega), ?_⟩
    rw [List.length_map]
    refine for_range (lo := 0) (n := xs.length) (fun i σ H' => ∃ v2, σ = [some (.ref t), some (.ref d), v2] ∧ H' = H) ⟨none, rfl, rfl⟩ ?_ ?_
    · rintro i σ H' hi ⟨v2, rfl, rfl⟩
      have e0 : (0 : Int) + (i : Int) = ((i : Nat) : Int) := by omega
      rw [e0]
      refine ⟨_, rfl, _, rfl, t, _, _, _, rfl, rfl, SqL.of ht, at_map hi, _, rfl, _, rfl, d, _, _, _, rfl, rfl, SqL.of hd, at_map hi, xs[i], xs[i], rfl, ?_⟩
      rw [decide_eq_true rfl]
      refine ⟨_, rfl, iteF ?_⟩
      exact ⟨_, rfl, rfl⟩
    · rintro σ H' ⟨v2, rfl, rfl⟩
      exact k

end

section
variable {P : Program} {w : World} {K : PySem.W.Frag} {mg : Str → Option Value} {base : Heap} {A : Ad}
theorem ok_law_list_told (T : Txt K mg A)  (g_law_whole : Okd P w K mg base CX0 1 A.law_whole P_law_whole spWhole) : Okd P w K mg base CX0 2 A.law_list_told P_law_list_told spLT := by
  obtain ⟨fd, F⟩ := T.d_law_list_told
  obtain ⟨fd_law_whole, G_law_whole, b_law_whole⟩ := g_law_whole
  refine ⟨fd, F.ok sc_law_list_told (fun vs H Q E h => ?_) (fun cdv A' outer s H vs Q E hr h => ?_), F.binds fun _ _ _ _ _ _ us hl => match us, hl with | [_, _], _ => rfl⟩
  · obtain ⟨t, d, ps, rfl, _⟩ := h
    rfl
  · obtain ⟨t, d, ps, rfl, ht, hd, h64, k⟩ := h
    refine ⟨_, (pss_cons (ps_if (PW.pt (pw_or (pt_not (pt_val (pe_callB call_isi (by rfl) T.n_isinstance (by decide +kernel) (pa_cons (pv 0) (pa_cons (pe_bltn (v := .ty "list") (u := .type "list") (by rfl) T.n_list (by decide +kernel) rfl) pa_nil))))) (pw_or1 (pt_cmpR op_ne (pe_callB call_len_seq (by rfl) T.n_len PySem.boot_len (pa_cons (pv 0) pa_nil)) (pe_callB call_len_seq (by rfl) T.n_len PySem.boot_len (pa_cons (pv 1) pa_nil)) (nomark _))))) (pss_one (ps_ret pe_bl)) pss_nil)
      (pss_cons (ps_for PassesOwn.never rfl (pi_range1 (by rfl) T.n_range (pa_cons (pe_callB call_len_seq (by rfl) T.n_len PySem.boot_len (pa_cons (pv 1) pa_nil)) pa_nil)) (pg_name (i := 2) sc_law_list_told.nd rfl (Or.inl rfl)) (pss_cons (ps_if (PW.pt (pw_or (pt_not (pt_val (pe_callB call_isi (by rfl) T.n_isinstance (by decide +kernel) (pa_cons (pe_ix ix_list (pv 0) (pv 2) (fun _ _ => rfl)) (pa_cons (pe_bltn (v := .ty "tuple") (u := .type "tuple") (by rfl) T.n_tuple (by decide +kernel) rfl) pa_nil))))) (pw_or1 (pt_cmpR op_ne (pe_callB call_len_seq (by rfl) T.n_len PySem.boot_len (pa_cons (pe_ix ix_list (pv 0) (pv 2) (fun _ _ => rfl)) pa_nil)) pe_int (nomark _))))) (pss_one (ps_ret pe_bl)) pss_nil)
      (pss_one (ps_if (PW.pt (pw_or (pt_not (pt_val (pe_call G_law_whole (hr.mono (by decide)) (by rfl) T.g_law_whole T.k_law_whole b_law_whole .nil pass0 (pa_cons (pe_ix ix_tup (pe_ix ix_list (pv 0) (pv 2) (fun _ _ => rfl)) pe_int (fun _ _ => rfl)) (pa_cons (pe_ix ix_tup (pe_ix ix_list (pv 1) (pv 2) (fun _ _ => rfl)) pe_int (fun _ _ => rfl)) pa_nil))))) (pw_or1 (pt_not (pt_val (pe_call G_law_whole (hr.mono (by decide)) (by rfl) T.g_law_whole T.k_law_whole b_law_whole .nil pass0 (pa_cons (pe_ix ix_tup (pe_ix ix_list (pv 0) (pv 2) (fun _ _ => rfl)) pe_int (fun _ _ => rfl)) (pa_cons (pe_ix ix_tup (pe_ix ix_list (pv 1) (pv 2) (fun _ _ => rfl)) pe_int (fun _ _ => rfl)) pa_nil)))))))) (pss_one (ps_ret pe_bl)) pss_nil))))
      (pss_one (ps_ret pe_bl)))), ?_⟩
    obtain ⟨ts, t1, t2, t3⟩ := ht
    obtain ⟨ds, d1, d2, d3⟩ := hd
    refine ⟨_, rfl, _, _, _, _, true, rfl, ClsV.ty "list", TyX.base (TyOf.lst t1), kit_ty (by decide +kernel), ?_⟩
    refine ⟨_, rfl, iteF ?_⟩
    refine ⟨_, rfl, t, _, rfl, Or.inl (SqL.of t1), _, rfl, d, _, rfl, Or.inl (SqL.of d1), rfl, _, rfl, ?_⟩
    rw [List.length_map, List.length_map, t2, d2]
    refine ite_b (fun c => absurd (ne_self _) (by rw [c]; decide)) (fun _ => ?_)
    refine ⟨_, rfl, d, _, rfl, Or.inl (SqL.of d1), _, rfl, (by rw [List.length_map]; omega), (by rw [List.length_map]; omega), ?_⟩
    rw [List.length_map, d2]
    refine for_range (lo := 0) (n := ps.length) (fun i σ H' => ∃ v2, σ = [some (.ref t), some (.ref d), v2] ∧ H' = H) ⟨none, rfl, rfl⟩ ?_ ?_
    · rintro i σ H' hi ⟨v2, rfl, rfl⟩
      have e0 : (0 : Int) + (i : Int) = ((i : Nat) : Int) := by omega
      rw [e0]
      have it : i < ts.length := by omega
      have id_ : i < ds.length := by omega
      have at_ := t3 i ts[i] ps[i] (List.getElem?_eq_getElem it) (List.getElem?_eq_getElem hi)
      have ad_ := d3 i ds[i] ps[i] (List.getElem?_eq_getElem id_) (List.getElem?_eq_getElem hi)
      have gt : atI (ts.map V.ref) (i : Int) = some (V.ref ts[i]) := atI_nat (by rw [List.getElem?_map, List.getElem?_eq_getElem it]; rfl)
      have gd : atI (ds.map V.ref) (i : Int) = some (V.ref ds[i]) := atI_nat (by rw [List.getElem?_map, List.getElem?_eq_getElem id_]; rfl)
      refine ⟨_, rfl, _, rfl, t, _, _, _, rfl, rfl, SqL.of t1, gt, _, _, _, _, true, rfl, ClsV.ty "tuple", TyX.base (TyOf.tup at_), kit_ty (by decide +kernel), ?_⟩
      refine ⟨_, rfl, iteF ?_⟩
      refine ⟨_, rfl, _, rfl, t, _, _, _, rfl, rfl, SqL.of t1, gt, ts[i], _, rfl, Or.inr (SqT.of at_), ?_⟩
      walk_at "r"
      refine ⟨t, _, _, _, rfl, rfl, SqL.of t1, gt, ts[i], _, _, _, rfl, rfl, SqT.of at_, rfl, ?_⟩
      refine ⟨_, rfl, _, rfl, d, _, _, _, rfl, rfl, SqL.of d1, gd, ds[i], _, _, _, rfl, rfl, SqT.of ad_, rfl, ps[i].1, ps[i].1, rfl, ?_⟩
      rw [decide_eq_true rfl]
      refine ⟨_, rfl, iteF ?_⟩
      refine ⟨_, rfl, _, rfl, t, _, _, _, rfl, rfl, SqL.of t1, gt, ts[i], _, _, _, rfl, rfl, SqT.of at_, rfl, ?_⟩
      refine ⟨_, rfl, _, rfl, d, _, _, _, rfl, rfl, SqL.of d1, gd, ds[i], _, _, _, rfl, rfl, SqT.of ad_, rfl, ps[i].2, ps[i].2, rfl, ?_⟩
      rw [decide_eq_true rfl]
      refine ⟨_, rfl, iteF ?_⟩
      exact ⟨_, rfl, rfl⟩
    · rintro σ H' ⟨v2, rfl, rfl⟩
      exact k

end

section
variable {P : Program} {w : World} {K : PySem.W.Frag} {mg : Str → Option Value} {base : Heap} {A : Ad}
theorem ok_law_names (T : Txt K mg A)   : Okd P w K mg base CX0 1 A.law_names P_law_names spNames := by
  obtain ⟨fd, F⟩ := T.d_law_names

  refine ⟨fd, F.ok sc_law_names (fun vs H Q E h => ?_) (fun cdv A' outer s H vs Q E hr h => ?_), F.binds fun _ _ _ _ _ _ us hl => match us, hl with | [_, _], _ => rfl⟩
  · obtain ⟨l, w, ln, rfl, _⟩ := h
    rfl
  · obtain ⟨l, w, ln, rfl, hl, fm, k⟩ := h
    refine ⟨_, (pss_cons (ps_set (i := 2) sc_law_names.nd rfl (Or.inl rfl) (pe_ix ix_list (pv 1) pe_int (fun _ _ => rfl)))
      (pss_cons (ps_set (i := 3) sc_law_names.nd rfl (Or.inl rfl) (pe_ix ix_list (pv 1) pe_int (fun _ _ => rfl)))
      (pss_cons (ps_if (pt_cmpR op_eq (pv 0) pe_str (nomark _)) (pss_one (ps_ret (pe_lst (pa_cons (pe_lst (pa_cons (pv 2) (pa_cons (pv 3) pa_nil))) (pa_cons (pe_lst (pa_cons (pv 3) (pa_cons (pv 2) pa_nil))) pa_nil))))) pss_nil)
      (pss_cons (ps_set (i := 4) sc_law_names.nd rfl (Or.inl rfl) (pe_ix ix_list (pv 1) pe_int (fun _ _ => rfl)))
      (pss_cons (ps_if (pt_cmpR op_eq (pv 0) pe_str (nomark _)) (pss_one (ps_ret (pe_lst (pa_cons (pe_lst (pa_cons (pv 3) (pa_cons (pv 2) (pa_cons (pv 4) pa_nil)))) (pa_cons (pe_lst (pa_cons (pv 4) (pa_cons (pv 3) (pa_cons (pv 2) pa_nil)))) pa_nil))))) pss_nil)
      (pss_cons (ps_set (i := 5) sc_law_names.nd rfl (Or.inl rfl) (pe_ix ix_list (pv 1) pe_int (fun _ _ => rfl)))
      (pss_one (ps_ret (pe_lst (pa_cons (pe_lst (pa_cons (pv 3) (pa_cons (pv 2) (pa_cons (pv 5) (pa_cons (pv 4) pa_nil))))) (pa_cons (pe_lst (pa_cons (pv 5) (pa_cons (pv 4) (pa_cons (pv 3) (pa_cons (pv 2) pa_nil))))) pa_nil))))))))))), ?_⟩
    unfold ListI at hl
    cases fm with
    | tie a b =>
      walk_at "r"
      refine ⟨(by show 2 ≤ sizeLine; decide), fun q0 h0 => ?_⟩
      walk_at "r"
      refine ⟨(by show 2 ≤ sizeLine; decide), fun q1 h1 => ?_⟩
      refine ⟨(by show 2 ≤ sizeLine; decide), fun p hp => ?_⟩
      obtain ⟨a1, a2, a3, a4, a5, a6⟩ := new3 (x2 := .lst [.ref q0, .ref q1]) h0 h1 hp
      exact k p q0 q1 _ a1 h0 a2 a3 a4 a5 a6
    | move a b c =>
      walk_at "r"
      refine ⟨(by show 3 ≤ sizeLine; decide), fun q0 h0 => ?_⟩
      walk_at "r"
      refine ⟨(by show 3 ≤ sizeLine; decide), fun q1 h1 => ?_⟩
      refine ⟨(by show 2 ≤ sizeLine; decide), fun p hp => ?_⟩
      obtain ⟨a1, a2, a3, a4, a5, a6⟩ := new3 (x2 := .lst [.ref q0, .ref q1]) h0 h1 hp
      exact k p q0 q1 _ a1 h0 a2 a3 a4 a5 a6
    | cross a b c d =>
      walk_at "r"
      refine ⟨(by show 4 ≤ sizeLine; decide), fun q0 h0 => ?_⟩
      walk_at "r"
      refine ⟨(by show 4 ≤ sizeLine; decide), fun q1 h1 => ?_⟩
      refine ⟨(by show 2 ≤ sizeLine; decide), fun p hp => ?_⟩
      obtain ⟨a1, a2, a3, a4, a5, a6⟩ := new3 (x2 := .lst [.ref q0, .ref q1]) h0 h1 hp
      exact k p q0 q1 _ a1 h0 a2 a3 a4 a5 a6

end

section
variable {P : Program} {w : World} {K : PySem.W.Frag} {mg : Str → Option Value} {base : Heap} {A : Ad}
theorem okl_ {wd : Str} {n : Nat} (hw : wd ∈ words7) (hn : n ≤ 5) : (![PyData.list [.str "tie", .int 2], .list [.str "move", .int 3], .list [.str "cross", .int 4]].any fun z => PyData.eqv z (.list [.str wd, .int (n : Int)])) = !okLen wd n := by
  have key : ∀ w ∈ words7, ∀ m ∈ List.range 6, (![PyData.list [.str "tie", .int 2], .list [.str "move", .int 3], .list [.str "cross", .int 4]].any fun z => PyData.eqv z (.list [.str w, .int (m : Int)])) = !okLen w m := by decide +kernel
  exact key wd hw n (List.mem_range.mpr (by omega))
theorem shp_ {wd : Str} {n : Nat} (hw : wd ∈ words7) (hn : n ≤ 5) : SeqAt.shaped (.list [.str wd, .int (n : Int)]) = true := by
  have key : ∀ w ∈ words7, ∀ m ∈ List.range 6, SeqAt.shaped (.list [.str w, .int (m : Int)]) = true := by decide +kernel
  exact key wd hw n (List.mem_range.mpr (by omega))
theorem ok_law_valid (T : Txt K mg A)   : Okd P w K mg base CX0 1 A.law_valid P_law_valid spValid := by
  obtain ⟨fd, F⟩ := T.d_law_valid

  refine ⟨fd, F.ok sc_law_valid (fun vs H Q E h => ?_) (fun cdv A' outer s H vs Q E hr h => ?_), F.binds fun _ _ _ _ _ _ us hl => match us, hl with | [_, _, _], _ => rfl⟩
  · obtain ⟨l, wd, ln, n, rfl, _⟩ := h
    rfl
  · obtain ⟨l, wd, ln, n, rfl, hl, hw, h5, k⟩ := h
    refine ⟨_, (pss_cons (ps_set (i := 3) sc_law_valid.nd rfl (Or.inl rfl) (pe_callB call_len_seq (by rfl) T.n_len PySem.boot_len (pa_cons (pv 1) pa_nil)))
      (pss_cons (ps_if (pt_cmpR (op_notInD (units65R hr)) (pe_lst (pa_cons (pv 0) (pa_cons (pv 3) pa_nil))) (pe_lst (pa_cons (pe_lst (pa_cons pe_str (pa_cons pe_int pa_nil))) (pa_cons (pe_lst (pa_cons pe_str (pa_cons pe_int pa_nil))) (pa_cons (pe_lst (pa_cons pe_str (pa_cons pe_int pa_nil))) pa_nil)))) (by with_unfolding_all rfl)) (pss_one (ps_ret pe_bl)) pss_nil)
      (pss_cons (ps_for PassesOwn.never rfl (pi_range1 (by rfl) T.n_range (pa_cons (pv 3) pa_nil)) (pg_name (i := 4) sc_law_valid.nd rfl (Or.inl rfl)) (pss_one (ps_if (PW.pt (pw_or (pt_cmpR op_lt (pe_ix ix_list (pv 1) (pv 4) (fun _ _ => rfl)) pe_int (nomark _)) (pw_or (pt_cmpR op_ge (pe_ix ix_list (pv 1) (pv 4) (fun _ _ => rfl)) (pv 2) (nomark _)) (pw_or1 (pt_cmpR op_in_seq (pe_ix ix_list (pv 1) (pv 4) (fun _ _ => rfl)) (pe_slice sl_list (pv 1) po_none (po_some (pv 4))) (by with_unfolding_all rfl)))))) (pss_one (ps_ret pe_bl)) pss_nil)))
      (pss_cons (ps_if (pt_cmpR op_eq (pv 0) pe_str (nomark _)) (pss_one (ps_ret (pe_cmpR op_lt (pe_ix ix_list (pv 1) pe_int (fun _ _ => rfl)) (pe_ix ix_list (pv 1) pe_int (fun _ _ => rfl)) (nomark _)))) pss_nil)
      (pss_cons (ps_if (pt_cmpR op_eq (pv 0) pe_str (nomark _)) (pss_one (ps_ret (pe_cmpR op_lt (pe_ix ix_list (pv 1) pe_int (fun _ _ => rfl)) (pe_ix ix_list (pv 1) pe_int (fun _ _ => rfl)) (nomark _)))) pss_nil)
      (pss_one (ps_ret (pe_and (pe_cmpR op_lt (pe_ix ix_list (pv 1) pe_int (fun _ _ => rfl)) (pe_ix ix_list (pv 1) pe_int (fun _ _ => rfl)) (nomark _)) (pe_and (pe_cmpR op_lt (pe_ix ix_list (pv 1) pe_int (fun _ _ => rfl)) (pe_ix ix_list (pv 1) pe_int (fun _ _ => rfl)) (nomark _)) (pe_and (pe_cmpR op_lt (pe_ix ix_list (pv 1) pe_int (fun _ _ => rfl)) (pe_ix ix_list (pv 1) pe_int (fun _ _ => rfl)) (nomark _)) (pe_one (pe_cmpR op_lt (pe_ix ix_list (pv 1) pe_int (fun _ _ => rfl)) (pe_ix ix_list (pv 1) pe_int (fun _ _ => rfl)) (nomark _))))))))))))), ?_⟩
    have hl' := hl
    unfold ListI at hl'
    refine ⟨_, rfl, l, _, rfl, Or.inl (SqL.of hl'), ?_⟩
    rw [List.length_map]
    walk_at "r"
    refine ⟨(by show 2 ≤ sizeLine; decide), fun q hq => ?_⟩
    refine ⟨(by show 2 ≤ sizeLine; decide), fun q1 h1 => ?_⟩
    refine ⟨(by show 2 ≤ sizeLine; decide), fun q2 h2 => ?_⟩
    refine ⟨(by show 2 ≤ sizeLine; decide), fun q3 h3 => ?_⟩
    refine ⟨(by show 3 ≤ sizeLine; decide), fun q4 h4 => ?_⟩
    have okl : (![PyData.list [.str "tie", .int 2], .list [.str "move", .int 3], .list [.str "cross", .int 4]].any fun z => PyData.eqv z (.list [.str wd, .int (ln.length : Int)])) = !okLen wd ln.length := okl_ hw h5
    have x1 := Ex.new (o := .lst [.str wd, .int (ln.length : Int)]) hq
    have x2 := Ex.new (o := .lst [.str "tie", .int 2]) h1
    have x3 := Ex.new (o := .lst [.str "move", .int 3]) h2
    have x4 := Ex.new (o := .lst [.str "cross", .int 4]) h3
    have x5 := Ex.new (o := .lst [.ref q1, .ref q2, .ref q3]) h4
    have x15 := (((x1.trans x2).trans x3).trans x4).trans x5
    refine ⟨.list [.str wd, .int (ln.length : Int)], [.list [.str "tie", .int 2], .list [.str "move", .int 3], .list [.str "cross", .int 4]], ?_, ?_, shp_ hw h5, by decide +kernel, ?_⟩
    · exact .lst (SqL.of (x5 _ _ (x4 _ _ (x3 _ _ (x2 _ _ upd_same))))) (.cons (.str _) (.cons (.int _) .nil))
    · exact .lst (SqL.of upd_same) (.cons (.lst (SqL.of (x5 _ _ (x4 _ _ (x3 _ _ upd_same)))) (.cons (.str _) (.cons (.int _) .nil))) (.cons (.lst (SqL.of (x5 _ _ (x4 _ _ upd_same))) (.cons (.str _) (.cons (.int _) .nil))) (.cons (.lst (SqL.of (x5 _ _ upd_same)) (.cons (.str _) (.cons (.int _) .nil))) .nil)))
    rw [okl]
    have hlG := x15 _ _ hl'
    generalize upd (upd (upd (upd (upd H q _) q1 _) q2 _) q3 _) q4 _ = G at *
    refine ⟨_, rfl, ?_⟩
    cases ho : okLen wd ln.length with
    | false =>
      have : valF wd ln n = false := by unfold valF; rw [ho]; rfl
      rw [this] at k
      exact iteT (k G x15)
    | true =>
      refine iteF ?_
      have fm := fm_of ho
      refine ⟨_, rfl, _, rfl, by omega, by omega, for_range (lo := 0) (n := ln.length) (fun i σ H' => ∃ v : Option V, σ = [some (.str wd), some (.ref l), some (.int n), some (.int (ln.length : Int)), v] ∧ Ex H H' ∧ ∀ j, j < i → badK ln n j = false) ⟨none, rfl, x15, fun j hj => absurd hj (Nat.not_lt_zero _)⟩ ?_ ?_⟩
      · rintro i σ H' hi ⟨v, rfl, e, nb⟩
        have e0 : (0 : Int) + (i : Int) = ((i : Nat) : Int) := by omega
        rw [e0]
        have hl1 : H' l = some (.lst (ln.map V.int)) := e _ _ hl'
        have gd : ln.getD i 0 = ln[i] := by
          rw [List.getD_eq_getElem?_getD, List.getElem?_eq_getElem hi]
          rfl
        have bk : badK ln n i = (decide (ln[i] < 0) || (decide (n ≤ ln[i]) || (ln.take i).contains ln[i])) := by
          unfold badK
          rw [gd]
        refine ⟨_, rfl, _, rfl, l, _, _, _, rfl, rfl, SqL.of hl1, at_map hi, ?_⟩
        walk_at "r"
        refine ite_b (fun c => ?_) (fun c => ?_)
        · rw [valF_bad hi (by rw [bk, c]; rfl)] at k
          exact k H' e
        · refine ⟨_, rfl, _, rfl, l, _, _, _, rfl, rfl, SqL.of hl1, at_map hi, ?_⟩
          walk_at "r"
          refine ite_b (fun c2 => ?_) (fun c2 => ?_)
          · rw [valF_bad hi (by rw [bk, c2, Bool.true_or, Bool.or_true])] at k
            exact k H' e
          · refine ⟨_, rfl, _, rfl, l, _, _, _, rfl, rfl, SqL.of hl1, at_map hi, ?_⟩
            refine ⟨_, rfl, _, rfl, _, rfl, l, _, rfl, SqL.of hl1, fun p hp => ?_⟩
            rw [cut_take]
            refine ⟨p, _, rfl, Or.inl (SqL.of upd_same), rfl, flat_ints _, _, rfl, ?_⟩
            show if inV _ _ = true then _ else _
            rw [inV_ints]
            refine ite_b (fun c3 => ?_) (fun c3 => ?_)
            · rw [valF_bad hi (by rw [bk, c3, Bool.or_true, Bool.or_true])] at k
              exact k _ (e.trans (Ex.new hp))
            · refine ⟨_, rfl, e.trans (Ex.new hp), fun j hj => ?_⟩
              by_cases y : j = i
              · rw [y, bk, c, c2, c3]
                rfl
              · exact nb j (by omega)
      · rintro σ H' ⟨v, rfl, e, nb⟩
        have hv := valF_ok (n := n) nb ho
        rw [hv] at k
        have hl1 : H' l = some (.lst (ln.map V.int)) := e _ _ hl'
        cases fm with
        | tie a b =>
          walk_at "r"
          exact k H' e
        | move a b c =>
          walk_at "r"
          exact k H' e
        | cross a b c d =>
          have ek : ordF "cross" [a, b, c, d] = (decide (a < b) && decide (a < c) && decide (a < d) && decide (b < d)) := rfl
          rw [ek] at k
          walk_at "r"
          refine ite_b (fun c1 => ?_) (fun c1 => ?_)
          · walk_at "r"
            refine ite_b (fun c2 => ?_) (fun c2 => ?_)
            · walk_at "r"
              refine ite_b (fun c3 => ?_) (fun c3 => ?_)
              · walk_at "r"
                rw [c1, c2, c3] at k
                exact k H' e
              · rw [c1, c2, c3] at k
                exact k H' e
            · rw [c1, c2] at k
              exact k H' e
          · rw [c1] at k
            exact k H' e

end

section
variable {P : Program} {w : World} {K : PySem.W.Frag} {mg : Str → Option Value} {base : Heap} {A : Ad}
theorem okh_law_valid (T : Txt K mg A)   : Okh P w K mg base CX0 1 A.law_valid P_law_valid spValid := by
  obtain ⟨fd, F⟩ := T.d_law_valid

  refine ⟨fd, F.okH sc_law_valid (fun vs H Q E h => ?_) (fun cdv A' outer s H vs Q E p hot hr h => ?_), F.binds fun _ _ _ _ _ _ us hl => match us, hl with | [_, _, _], _ => rfl⟩
  · obtain ⟨l, wd, ln, n, rfl, _⟩ := h
    rfl
  · obtain ⟨l, wd, ln, n, rfl, hl, hw, h5, k⟩ := h
    refine ⟨_, (pss_cons (ps_set (i := 3) sc_law_valid.nd rfl (Or.inl rfl) (pe_callB call_len_seq (by rfl) T.n_len PySem.boot_len (pa_cons (pv 1) pa_nil)))
      (pss_cons (ps_if (pt_cmpR (op_notInD (units65H hr)) (pe_lst (pa_cons (pv 0) (pa_cons (pv 3) pa_nil))) (pe_lst (pa_cons (pe_lst (pa_cons pe_str (pa_cons pe_int pa_nil))) (pa_cons (pe_lst (pa_cons pe_str (pa_cons pe_int pa_nil))) (pa_cons (pe_lst (pa_cons pe_str (pa_cons pe_int pa_nil))) pa_nil)))) (by with_unfolding_all rfl)) (pss_one (ps_ret pe_bl)) pss_nil)
      (pss_cons (L2H.ps_forH PassesOwn.never ⟨p, ⟨hot.1, hot.2⟩, List.mem_cons_self⟩ (L2H.pi_range1H (by rfl) T.n_range (pa_cons (pv 3) pa_nil)) (pg_name (i := 4) sc_law_valid.nd rfl (Or.inl rfl)) (pss_one (ps_if (PW.pt (pw_or (pt_cmpR op_lt (pe_ix ix_list (pv 1) (pv 4) (fun _ _ => rfl)) pe_int (nomark _)) (pw_or (pt_cmpR op_ge (pe_ix ix_list (pv 1) (pv 4) (fun _ _ => rfl)) (pv 2) (nomark _)) (pw_or1 (pt_cmpR op_in_seq (pe_ix ix_list (pv 1) (pv 4) (fun _ _ => rfl)) (pe_slice sl_list (pv 1) po_none (po_some (pv 4))) (by with_unfolding_all rfl)))))) (pss_one (ps_ret pe_bl)) pss_nil)))
      (pss_cons (ps_if (pt_cmpR op_eq (pv 0) pe_str (nomark _)) (pss_one (ps_ret (pe_cmpR op_lt (pe_ix ix_list (pv 1) pe_int (fun _ _ => rfl)) (pe_ix ix_list (pv 1) pe_int (fun _ _ => rfl)) (nomark _)))) pss_nil)
      (pss_cons (ps_if (pt_cmpR op_eq (pv 0) pe_str (nomark _)) (pss_one (ps_ret (pe_cmpR op_lt (pe_ix ix_list (pv 1) pe_int (fun _ _ => rfl)) (pe_ix ix_list (pv 1) pe_int (fun _ _ => rfl)) (nomark _)))) pss_nil)
      (pss_one (ps_ret (pe_and (pe_cmpR op_lt (pe_ix ix_list (pv 1) pe_int (fun _ _ => rfl)) (pe_ix ix_list (pv 1) pe_int (fun _ _ => rfl)) (nomark _)) (pe_and (pe_cmpR op_lt (pe_ix ix_list (pv 1) pe_int (fun _ _ => rfl)) (pe_ix ix_list (pv 1) pe_int (fun _ _ => rfl)) (nomark _)) (pe_and (pe_cmpR op_lt (pe_ix ix_list (pv 1) pe_int (fun _ _ => rfl)) (pe_ix ix_list (pv 1) pe_int (fun _ _ => rfl)) (nomark _)) (pe_one (pe_cmpR op_lt (pe_ix ix_list (pv 1) pe_int (fun _ _ => rfl)) (pe_ix ix_list (pv 1) pe_int (fun _ _ => rfl)) (nomark _))))))))))))), ?_⟩
    have hl' := hl
    unfold ListI at hl'
    refine ⟨_, rfl, l, _, rfl, Or.inl (SqL.of hl'), ?_⟩
    rw [List.length_map]
    walk_at "r"
    refine ⟨(by show 2 ≤ sizeLine; decide), fun q hq => ?_⟩
    refine ⟨(by show 2 ≤ sizeLine; decide), fun q1 h1 => ?_⟩
    refine ⟨(by show 2 ≤ sizeLine; decide), fun q2 h2 => ?_⟩
    refine ⟨(by show 2 ≤ sizeLine; decide), fun q3 h3 => ?_⟩
    refine ⟨(by show 3 ≤ sizeLine; decide), fun q4 h4 => ?_⟩
    have okl : (![PyData.list [.str "tie", .int 2], .list [.str "move", .int 3], .list [.str "cross", .int 4]].any fun z => PyData.eqv z (.list [.str wd, .int (ln.length : Int)])) = !okLen wd ln.length := okl_ hw h5
    have x1 := Ex.new (o := .lst [.str wd, .int (ln.length : Int)]) hq
    have x2 := Ex.new (o := .lst [.str "tie", .int 2]) h1
    have x3 := Ex.new (o := .lst [.str "move", .int 3]) h2
    have x4 := Ex.new (o := .lst [.str "cross", .int 4]) h3
    have x5 := Ex.new (o := .lst [.ref q1, .ref q2, .ref q3]) h4
    have x15 := (((x1.trans x2).trans x3).trans x4).trans x5
    refine ⟨.list [.str wd, .int (ln.length : Int)], [.list [.str "tie", .int 2], .list [.str "move", .int 3], .list [.str "cross", .int 4]], ?_, ?_, shp_ hw h5, by decide +kernel, ?_⟩
    · exact .lst (SqL.of (x5 _ _ (x4 _ _ (x3 _ _ (x2 _ _ upd_same))))) (.cons (.str _) (.cons (.int _) .nil))
    · exact .lst (SqL.of upd_same) (.cons (.lst (SqL.of (x5 _ _ (x4 _ _ (x3 _ _ upd_same)))) (.cons (.str _) (.cons (.int _) .nil))) (.cons (.lst (SqL.of (x5 _ _ (x4 _ _ upd_same))) (.cons (.str _) (.cons (.int _) .nil))) (.cons (.lst (SqL.of (x5 _ _ upd_same)) (.cons (.str _) (.cons (.int _) .nil))) .nil)))
    rw [okl]
    have hlG := x15 _ _ hl'
    generalize upd (upd (upd (upd (upd H q _) q1 _) q2 _) q3 _) q4 _ = G at *
    refine ⟨_, rfl, ?_⟩
    cases ho : okLen wd ln.length with
    | false =>
      have : valF wd ln n = false := by unfold valF; rw [ho]; rfl
      rw [this] at k
      exact iteT (k G x15)
    | true =>
      refine iteF ?_
      have fm := fm_of ho
      refine ⟨_, rfl, _, rfl, by omega, by omega, for_range (lo := 0) (n := ln.length) (fun i σ H' => ∃ v : Option V, σ = [some (.str wd), some (.ref l), some (.int n), some (.int (ln.length : Int)), v] ∧ Ex H H' ∧ ∀ j, j < i → badK ln n j = false) ⟨none, rfl, x15, fun j hj => absurd hj (Nat.not_lt_zero _)⟩ ?_ ?_⟩
      · rintro i σ H' hi ⟨v, rfl, e, nb⟩
        have e0 : (0 : Int) + (i : Int) = ((i : Nat) : Int) := by omega
        rw [e0]
        have hl1 : H' l = some (.lst (ln.map V.int)) := e _ _ hl'
        have gd : ln.getD i 0 = ln[i] := by
          rw [List.getD_eq_getElem?_getD, List.getElem?_eq_getElem hi]
          rfl
        have bk : badK ln n i = (decide (ln[i] < 0) || (decide (n ≤ ln[i]) || (ln.take i).contains ln[i])) := by
          unfold badK
          rw [gd]
        refine ⟨_, rfl, _, rfl, l, _, _, _, rfl, rfl, SqL.of hl1, at_map hi, ?_⟩
        walk_at "r"
        refine ite_b (fun c => ?_) (fun c => ?_)
        · rw [valF_bad hi (by rw [bk, c]; rfl)] at k
          exact k H' e
        · refine ⟨_, rfl, _, rfl, l, _, _, _, rfl, rfl, SqL.of hl1, at_map hi, ?_⟩
          walk_at "r"
          refine ite_b (fun c2 => ?_) (fun c2 => ?_)
          · rw [valF_bad hi (by rw [bk, c2, Bool.true_or, Bool.or_true])] at k
            exact k H' e
          · refine ⟨_, rfl, _, rfl, l, _, _, _, rfl, rfl, SqL.of hl1, at_map hi, ?_⟩
            refine ⟨_, rfl, _, rfl, _, rfl, l, _, rfl, SqL.of hl1, fun p hp => ?_⟩
            rw [cut_take]
            refine ⟨p, _, rfl, Or.inl (SqL.of upd_same), rfl, flat_ints _, _, rfl, ?_⟩
            show if inV _ _ = true then _ else _
            rw [inV_ints]
            refine ite_b (fun c3 => ?_) (fun c3 => ?_)
            · rw [valF_bad hi (by rw [bk, c3, Bool.or_true, Bool.or_true])] at k
              exact k _ (e.trans (Ex.new hp))
            · refine ⟨_, rfl, e.trans (Ex.new hp), fun j hj => ?_⟩
              by_cases y : j = i
              · rw [y, bk, c, c2, c3]
                rfl
              · exact nb j (by omega)
      · rintro σ H' ⟨v, rfl, e, nb⟩
        have hv := valF_ok (n := n) nb ho
        rw [hv] at k
        have hl1 : H' l = some (.lst (ln.map V.int)) := e _ _ hl'
        cases fm with
        | tie a b =>
          walk_at "r"
          exact k H' e
        | move a b c =>
          walk_at "r"
          exact k H' e
        | cross a b c d =>
          have ek : ordF "cross" [a, b, c, d] = (decide (a < b) && decide (a < c) && decide (a < d) && decide (b < d)) := rfl
          rw [ek] at k
          walk_at "r"
          refine ite_b (fun c1 => ?_) (fun c1 => ?_)
          · walk_at "r"
            refine ite_b (fun c2 => ?_) (fun c2 => ?_)
            · walk_at "r"
              refine ite_b (fun c3 => ?_) (fun c3 => ?_)
              · walk_at "r"
                rw [c1, c2, c3] at k
                exact k H' e
              · rw [c1, c2, c3] at k
                exact k H' e
            · rw [c1, c2] at k
              exact k H' e
          · rw [c1] at k
            exact k H' e

end

section
variable {P : Program} {w : World} {K : PySem.W.Frag} {mg : Str → Option Value} {base : Heap} {A : Ad}
theorem perm_erase : ∀ {xs : List Int} {j : Nat} (h : j < xs.length), xs.Perm ([xs[j]] ++ xs.eraseIdx j)
  | a :: xs, 0, h => List.Perm.refl _
  | a :: xs, j + 1, h => by
    have ih := perm_erase (xs := xs) (j := j) (by simpa using h)
    refine (ih.cons a).trans ?_
    exact List.Perm.swap _ _ _
theorem ok_law_taken (T : Txt K mg A)  (g_law_draw : Okd P w K mg base CX0 2 A.law_draw P_law_draw spDraw) : Okd P w K mg base CX0 3 A.law_taken P_law_taken spTaken := by
  obtain ⟨fd, F⟩ := T.d_law_taken
  obtain ⟨fd_law_draw, G_law_draw, b_law_draw⟩ := g_law_draw
  refine ⟨fd, F.ok sc_law_taken (fun vs H Q E h => ?_) (fun cdv A' outer s H vs Q E hr h => ?_), F.binds fun _ _ _ _ _ _ us hl => match us, hl with | [_, _, _], _ => rfl⟩
  · obtain ⟨b, c, n, m, rfl, _⟩ := h
    rfl
  · obtain ⟨b, c, n, m, rfl, hmn, hn, hm, B, k⟩ := h
    refine ⟨_, (pss_cons (ps_set (i := 3) sc_law_taken.nd rfl (Or.inl rfl) (pe_listRg (by rfl) (by rfl) T.n_list (prg_1 (by rfl) T.n_range (pv 1))))
      (pss_cons (ps_set (i := 4) sc_law_taken.nd rfl (Or.inl rfl) (pe_lst pa_nil))
      (pss_cons (ps_for PassesOwn.never rfl (pi_range1 (by rfl) T.n_range (pa_cons (pv 2) pa_nil)) (pg_name (i := 5) sc_law_taken.nd rfl (Or.inl rfl)) (pss_one (ps_expr (pe_bm PySem.F.plainAttrs_list PySem.F.slot_list_append PySem.F.type_list_append mt_append (pv 4) (pa_cons (pe_bm PySem.F.plainAttrs_list PySem.F.slot_list_pop PySem.F.type_list_pop mt_popAt (pv 3) (pa_cons (pe_call G_law_draw (hr.mono (by decide)) (by rfl) T.g_law_draw T.k_law_draw b_law_draw .nil pass0 (pa_cons (pv 0) (pa_cons (pe_callB call_len_seq (by rfl) T.n_len PySem.boot_len (pa_cons (pv 3) pa_nil)) pa_nil))) pa_nil)) pa_nil)))))
      (pss_one (ps_ret (pv 4)))))), ?_⟩
    walk_at "r"
    refine ⟨RgOk.of_le (by decide) (by omega) (by decide) (by omega), fun sp hsp => ?_⟩
    walk_at "r"
    refine ⟨by decide, fun od hod => ?_⟩
    have nsb : sp ≠ b := B.ne hsp
    have nsc : sp ≠ c := B.nec hsp
    have nos : od ≠ sp := fun e => by rw [e, upd_same] at hod; cases hod
    have hod' : H od = none := by rw [upd_ne nos] at hod; exact hod
    have nob : od ≠ b := B.ne hod'
    have noc : od ≠ c := B.nec hod'
    walk_at "r"
    have h2 : ListI (upd (upd H sp (.lst (rgV 0 (n : Int)))) od (.lst [])) sp ((List.range n).map fun i : Nat => (i : Int)) := by
      show (upd (upd H sp _) od _) sp = _
      rw [upd_ne (Ne.symm nos), upd_same, rgV_map]
    have h3 : ((List.range n).map fun i : Nat => (i : Int)).Nodup := by
      rw [List.nodup_iff_pairwise_ne, List.pairwise_map]
      exact (List.nodup_iff_pairwise_ne.mp List.nodup_range).imp fun h => by omega
    refine ⟨by omega, by omega, for_range (lo := 0) (n := m) (fun i σ H' => ∃ (xs ys : List Int) (v : Option V), σ = [some (.ref b), some (.int n), some (.int m), some (.ref sp), some (.ref od), v] ∧ xs.length + i = n ∧ ys.length = i ∧ Below n xs ∧ Below n ys ∧ (ys ++ xs).Nodup ∧ ListI H' sp xs ∧ ListI H' od ys ∧ Box H' b c ∧ Mut b H H')
      ⟨(List.range n).map fun i : Nat => (i : Int), [], none, rfl, by rw [List.length_map, List.length_range]; rfl, rfl, below_rg n, (fun _ h => by simp at h), h3, h2, upd_same, (B.upd nsb nsc).upd nob noc, ((Mut.refl _ _).new hsp).new hod⟩ ?_ ?_⟩
    · rintro i σ H' hi ⟨xs, ys, v, rfl, hl, hy, bx, by', nd, hx, hyy, B', M'⟩
      refine ⟨_, rfl, Or.inl ⟨rfl, _, SqL.of hyy⟩, _, rfl, Or.inl ⟨rfl, _, SqL.of hx⟩, _, rfl, _, rfl, _, _, rfl, Or.inl (SqL.of hx), ?_⟩
      rw [List.length_map]
      refine ⟨b, c, _, rfl, by omega, by omega, B', fun d H1 h0 h1 B1 M1 => ?_⟩
      obtain ⟨j, rfl⟩ := Int.eq_ofNat_of_zero_le h0
      have hj : j < xs.length := by omega
      have hj2 : j < (xs.map V.int).length := by rw [List.length_map]; exact hj
      have hx1 : ListI H1 sp xs := M1 _ _ nsb hx
      have hy1 : ListI H1 od ys := M1 _ _ nob hyy
      refine ⟨_, _, _, j, _, rfl, rfl, hx1, by omega, by omega, (ixN_seq (Evl.ixN_nat hj2)).1, ix_map hj, ?_⟩
      refine ⟨_, _, _, rfl, rfl, (by rw [upd_ne nos]; exact hy1), small1000 (by rw [List.length_map]; omega), ?_⟩
      refine ⟨xs.eraseIdx j, ys ++ [xs[j]], _, rfl, by rw [List.length_eraseIdx_of_lt hj]; omega, by rw [List.length_append]; simp; omega, fun x h => bx x (List.mem_of_mem_eraseIdx h), fun x h => ?_, ?_, ?_, ?_, (B1.upd nsb nsc).upd nob noc, ?_⟩
      · rcases List.mem_append.mp h with h | h
        · exact by' x h
        · rw [List.mem_singleton.mp h]
          exact bx _ (List.getElem_mem hj)
      · refine (List.Perm.nodup_iff ?_).mpr nd
        rw [List.append_assoc]
        exact (perm_erase hj).symm.append_left ys
      · show (upd (upd H1 sp _) od _) sp = _
        rw [upd_ne (Ne.symm nos), upd_same, map_erase]
      · show (upd (upd H1 sp _) od _) od = _
        rw [upd_same, List.map_append]
        rfl
      · intro a o ha e
        have e1 := M1 _ _ ha (M' _ _ ha e)
        rw [upd_ne (ne_of_none e hod'), upd_ne (ne_of_none e hsp)]
        exact e1
    · rintro σ H' ⟨xs, ys, v, rfl, hl, hy, bx, by', nd, hx, hyy, B', M'⟩
      walk_at "r"
      exact k od ys H' hod' hy (List.nodup_append.mp nd).1 by' hyy B' M'

end

section
variable {P : Program} {w : World} {K : PySem.W.Frag} {mg : Str → Option Value} {base : Heap} {A : Ad}
theorem ok_law_formed (T : Txt K mg A)   : Okd P w K mg base CX0 1 A.law_formed P_law_formed spFormed := by
  obtain ⟨fd, F⟩ := T.d_law_formed

  refine ⟨fd, F.ok sc_law_formed (fun vs H Q E h => ?_) (fun cdv A' outer s H vs Q E hr h => ?_), F.binds fun _ _ _ _ _ _ us hl => match us, hl with | [_, _], _ => rfl⟩
  · obtain ⟨l, wd, ln, rfl, _⟩ := h
    rfl
  · obtain ⟨l, wd, ln, rfl, hl, fm, nd, k⟩ := h
    refine ⟨_, (pss_cons (ps_if (pt_cmpR op_eq (pv 0) pe_str (nomark _)) (pss_one (ps_ret (pe_lst (pa_cons (pe_callB (call_min2 (by rfl)) (by rfl) T.n_min (by decide +kernel) (pa_cons (pe_ix ix_list (pv 1) pe_int (fun _ _ => rfl)) (pa_cons (pe_ix ix_list (pv 1) pe_int (fun _ _ => rfl)) pa_nil))) (pa_cons (pe_callB (call_max2 (by rfl)) (by rfl) T.n_max (by decide +kernel) (pa_cons (pe_ix ix_list (pv 1) pe_int (fun _ _ => rfl)) (pa_cons (pe_ix ix_list (pv 1) pe_int (fun _ _ => rfl)) pa_nil))) pa_nil))))) pss_nil)
      (pss_cons (ps_if (pt_cmpR op_eq (pv 0) pe_str (nomark _)) (pss_one (ps_ret (pe_lst (pa_cons (pe_ix ix_list (pv 1) pe_int (fun _ _ => rfl)) (pa_cons (pe_callB (call_min2 (by rfl)) (by rfl) T.n_min (by decide +kernel) (pa_cons (pe_ix ix_list (pv 1) pe_int (fun _ _ => rfl)) (pa_cons (pe_ix ix_list (pv 1) pe_int (fun _ _ => rfl)) pa_nil))) (pa_cons (pe_callB (call_max2 (by rfl)) (by rfl) T.n_max (by decide +kernel) (pa_cons (pe_ix ix_list (pv 1) pe_int (fun _ _ => rfl)) (pa_cons (pe_ix ix_list (pv 1) pe_int (fun _ _ => rfl)) pa_nil))) pa_nil)))))) pss_nil)
      (pss_cons (ps_set (i := 2) sc_law_formed.nd rfl (Or.inl rfl) pe_int)
      (pss_cons (ps_for PassesOwn.never rfl (pi_range1 (by rfl) T.n_range (pa_cons pe_int pa_nil)) (pg_name (i := 3) sc_law_formed.nd rfl (Or.inl rfl)) (pss_one (ps_if (pt_cmpR op_lt (pe_ix ix_list (pv 1) (pv 3) (fun _ _ => rfl)) (pe_ix ix_list (pv 1) (pv 2) (fun _ _ => rfl)) (nomark _)) (pss_one (ps_set (i := 2) sc_law_formed.nd rfl (Or.inl rfl) (pv 3))) pss_nil)))
      (pss_cons (ps_set (i := 4) sc_law_formed.nd rfl (Or.inl rfl) (pe_op op_cat (pe_slice sl_list (pv 1) (po_some (pv 2)) po_none) (pe_slice sl_list (pv 1) po_none (po_some (pv 2)))))
      (pss_cons (ps_if (pt_cmpR op_lt (pe_ix ix_list (pv 4) pe_int (fun _ _ => rfl)) (pe_ix ix_list (pv 4) pe_int (fun _ _ => rfl)) (nomark _)) (pss_one (ps_ret (pe_lst (pa_cons (pe_ix ix_list (pv 4) pe_int (fun _ _ => rfl)) (pa_cons (pe_ix ix_list (pv 4) pe_int (fun _ _ => rfl)) (pa_cons (pe_ix ix_list (pv 4) pe_int (fun _ _ => rfl)) (pa_cons (pe_ix ix_list (pv 4) pe_int (fun _ _ => rfl)) pa_nil))))))) pss_nil)
      (pss_one (ps_ret (pv 4))))))))), ?_⟩
    unfold ListI at hl
    have nd2 := nd
    cases fm with
    | tie a b =>
      walk_at "r"
      refine ⟨a, b, rfl, ?_⟩
      walk_at "r"
      refine ⟨a, b, rfl, ?_⟩
      refine ⟨(by show 2 ≤ sizeLine; decide), fun p hp => ?_⟩
      rw [List.nodup_cons, List.mem_singleton] at nd
      have hab := nd.1
      by_cases c : a < b
      · rw [if_neg (show ¬ b < a by omega), if_pos (show b > a from c)]
        exact k p [a, b] _ hp (Ex.new hp) (.tie a b) (List.Perm.refl _) (decide_eq_true c) upd_same
      · rw [if_pos (show b < a by omega), if_neg (show ¬ b > a from c)]
        exact k p [b, a] _ hp (Ex.new hp) (.tie b a) (List.Perm.swap _ _ _) (decide_eq_true (show b < a by omega)) upd_same
    | move a b c =>
      walk_at "r"
      refine ⟨b, c, rfl, ?_⟩
      walk_at "r"
      refine ⟨b, c, rfl, ?_⟩
      refine ⟨(by show 3 ≤ sizeLine; decide), fun p hp => ?_⟩
      rw [List.nodup_cons, List.nodup_cons, List.mem_singleton] at nd
      have hbc := nd.2.1
      by_cases z : b < c
      · rw [if_neg (show ¬ c < b by omega), if_pos (show c > b from z)]
        exact k p [a, b, c] _ hp (Ex.new hp) (.move a b c) (List.Perm.refl _) (decide_eq_true z) upd_same
      · rw [if_pos (show c < b by omega), if_neg (show ¬ c > b from z)]
        exact k p [a, c, b] _ hp (Ex.new hp) (.move a c b) ((List.Perm.swap _ _ _).cons a) (decide_eq_true (show c < b by omega)) upd_same
    | cross a b c d =>
      walk_at "r"
      refine ⟨by decide, by decide, for_range (lo := 0) (n := 4) (fun i σ H' => H' = H ∧ ∃ (m : Nat) (v3 v4 : Option V), σ = [some (.str "cross"), some (.ref l), some (.int (m : Int)), v3, v4] ∧ m < 4 ∧ ∀ j, j < i → [a, b, c, d].getD m 0 ≤ [a, b, c, d].getD j 0) ⟨rfl, 0, none, none, rfl, by decide, fun j hj => absurd hj (Nat.not_lt_zero _)⟩ ?_ ?_⟩
      · rintro i σ H' hi ⟨rfl, m, v3, v4, rfl, hm, hle⟩
        have e0 : (0 : Int) + (i : Int) = ((i : Nat) : Int) := by omega
        rw [e0]
        have g : ∀ j : Nat, j < 4 → atI ([a, b, c, d].map V.int) (j : Int) = some (V.int ([a, b, c, d].getD j 0)) := fun j hj => by
          rw [at_map (xs := [a, b, c, d]) (show j < 4 from hj), List.getD_eq_getElem?_getD, List.getElem?_eq_getElem (show j < [a, b, c, d].length from hj)]
          rfl
        refine ⟨_, rfl, _, rfl, l, _, _, _, rfl, rfl, SqL.of hl, g i hi, ?_⟩
        refine ⟨_, rfl, _, rfl, l, _, _, _, rfl, rfl, SqL.of hl, g m hm, ?_⟩
        refine ⟨_, _, rfl, rfl, _, rfl, ?_⟩
        refine ite_b (fun z => ?_) (fun z => ?_)
        · have z := of_decide_eq_true z
          refine ⟨_, rfl, rfl, i, _, _, rfl, hi, fun j hj => ?_⟩
          by_cases y : j = i
          · rw [y]
            exact Int.le_refl _
          · have := hle j (by omega)
            omega
        · have z := of_decide_eq_false z
          refine ⟨rfl, m, _, _, rfl, hm, fun j hj => ?_⟩
          by_cases y : j = i
          · rw [y]
            omega
          · exact hle j (by omega)
      · rintro σ H' ⟨rfl, m, v3, v4, rfl, hm, hle⟩
        walk_at "r"
        refine ⟨l, _, rfl, SqL.of hl, fun p1 h1 => ?_⟩
        have g1 : upd H' p1 (.lst (cutV ([a, b, c, d].map V.int) (some (m : Int)) none)) l = some (.lst ([a, b, c, d].map V.int)) := by
          rw [upd_ne (ne_of_none hl h1)]
          exact hl
        refine ⟨_, rfl, _, rfl, _, rfl, l, _, rfl, SqL.of g1, fun p2 h2 => ?_⟩
        rw [cut_drop (xs := [a, b, c, d]) (show m ≤ 4 by omega)] at h2 g1 ⊢
        rw [cut_take (xs := [a, b, c, d])]
        have n12 : p1 ≠ p2 := ne_of_none upd_same h2
        have h20 : H' p2 = none := by rw [upd_ne (Ne.symm n12)] at h2; exact h2
        have y1 := Ex.new (o := .lst (([a, b, c, d].drop m).map V.int)) h1
        have y2 := Ex.new (o := .lst (([a, b, c, d].take m).map V.int)) h2
        refine ⟨p1, p2, _, _, rfl, rfl, y2 _ _ upd_same, upd_same, sz_of (by rw [List.length_map, List.length_map, List.length_drop, List.length_take]; show _ ≤ _; simp; omega), fun p3 h3 => ?_⟩
        rw [← List.map_append]
        have y3 := Ex.new (o := .lst (([a, b, c, d].drop m ++ [a, b, c, d].take m).map V.int)) h3
        have p30 : H' p3 = none := back_none (y1.trans y2) h3
        have hle4 := fun j (hj : j < 4) => hle j hj
        have le0 := hle4 0 (by decide)
        have le1 := hle4 1 (by decide)
        have le2 := hle4 2 (by decide)
        have le3 := hle4 3 (by decide)
        simp only [List.nodup_cons, List.mem_cons, List.not_mem_nil, or_false, not_or] at nd
        obtain ⟨x0, x1, x2, x3, ex, px, o1, o2, o3, o4⟩ : ∃ x0 x1 x2 x3 : Int, [a, b, c, d].drop m ++ [a, b, c, d].take m = [x0, x1, x2, x3] ∧ ([x0, x1, x2, x3] : List Int).Perm [a, b, c, d] ∧ x0 < x1 ∧ x0 < x2 ∧ x0 < x3 ∧ x1 ≠ x3 := by
          match m, hm with
          | 0, _ => exact ⟨a, b, c, d, rfl, List.Perm.refl _, by simp at le1; omega, by simp at le2; omega, by simp at le3; omega, by omega⟩
          | 1, _ => exact ⟨b, c, d, a, rfl, (List.perm_append_comm (l₁ := [b, c, d]) (l₂ := [a])), by simp at le2; omega, by simp at le3; omega, by simp at le0; omega, by omega⟩
          | 2, _ => exact ⟨c, d, a, b, rfl, (List.perm_append_comm (l₁ := [c, d]) (l₂ := [a, b])), by simp at le3; omega, by simp at le0; omega, by simp at le1; omega, by omega⟩
          | 3, _ => exact ⟨d, a, b, c, rfl, (List.perm_append_comm (l₁ := [d]) (l₂ := [a, b, c])), by simp at le0; omega, by simp at le1; omega, by simp at le2; omega, by omega⟩
        rw [ex] at y3 ⊢
        have eH := (y1.trans y2).trans y3
        have h3' : upd (upd (upd H' p1 (.lst (([a, b, c, d].drop m).map V.int))) p2 (.lst (([a, b, c, d].take m).map V.int))) p3 (.lst ([x0, x1, x2, x3].map V.int)) p3 = some (.lst [.int x0, .int x1, .int x2, .int x3]) := upd_same
        generalize upd (upd (upd H' p1 (.lst (([a, b, c, d].drop m).map V.int))) p2 (.lst (([a, b, c, d].take m).map V.int))) p3 (.lst ([x0, x1, x2, x3].map V.int)) = G at *
        walk_at "r"
        refine ite_b (fun z => ?_) (fun z => ?_)
        · have z := of_decide_eq_true z
          walk_at "r"
          refine ⟨(by show 4 ≤ sizeLine; decide), fun p4 h4 => ?_⟩
          exact k p4 [x0, x3, x2, x1] _ (back_none eH h4) (eH.trans (Ex.new h4)) (.cross _ _ _ _) (((List.reverse_perm [x1, x2, x3]).cons x0).trans px) (by show (decide _ && decide _ && decide _ && decide _) = true; rw [decide_eq_true o3, decide_eq_true o2, decide_eq_true o1, decide_eq_true z]; rfl) upd_same
        · have z := of_decide_eq_false z
          walk_at "r"
          exact k p3 [x0, x1, x2, x3] _ p30 eH (.cross _ _ _ _) px (by show (decide _ && decide _ && decide _ && decide _) = true; rw [decide_eq_true o1, decide_eq_true o2, decide_eq_true o3, decide_eq_true (by omega)]; rfl) h3'

end

section
variable {P : Program} {w : World} {K : PySem.W.Frag} {mg : Str → Option Value} {base : Heap} {A : Ad}
theorem idx_leI : ∀ {l : List Int} {j : Nat} {x : Int} (h : j < l.length), l[j] = x → l.idxOf x ≤ j
  | a :: l, 0, x, h, e => by
    have e : a = x := e
    subst e
    rw [List.idxOf_cons_self]
    exact Nat.le_refl _
  | a :: l, j + 1, x, h, e => by
    have e : l[j]'(by simpa using h) = x := e
    have ih := idx_leI (by simpa using h) e
    rw [List.idxOf_cons]
    by_cases c : a == x
    · rw [c]
      exact Nat.zero_le _
    · rw [Bool.eq_false_iff.mpr c]
      exact Nat.succ_le_succ ih
theorem ok_law_side_due (T : Txt K mg A)   : Okd P w K mg base CX0 1 A.law_side_due P_law_side_due (spDue K) := by
  obtain ⟨fd, F⟩ := T.d_law_side_due

  refine ⟨fd, F.ok sc_law_side_due (fun vs H Q E h => ?_) (fun cdv A' outer s H vs Q E hr h => ?_), F.binds fun _ _ _ _ _ _ us hl => match us, hl with | [_, _, _], _ => rfl⟩
  · obtain ⟨l, q, wd, ln, nm, rfl, _⟩ := h
    rfl
  · obtain ⟨l, q, wd, ln, nm, rfl, hl, hq, hnm, h4, k⟩ := h
    refine ⟨_, (pss_cons (ps_set (i := 3) sc_law_side_due.nd rfl (Or.inl rfl) (pe_lst pa_nil))
      (pss_cons (ps_for PassesOwn.never rfl (pi_range1 (by rfl) T.n_range (pa_cons pe_int pa_nil)) (pg_name (i := 4) sc_law_side_due.nd rfl (Or.inl rfl)) (pss_one (ps_if (pt_cmpR op_in_seq (pv 4) (pv 1) (by with_unfolding_all rfl)) (pss_one (ps_expr (pe_bm PySem.F.plainAttrs_list PySem.F.slot_list_append PySem.F.type_list_append mt_append (pv 3) (pa_cons (pe_tup (pa_cons (pv 4) (pa_cons (pe_ix ix_list (pv 2) (pe_bm PySem.F.plainAttrs_list PySem.F.slot_list_index PySem.F.type_list_index mt_index (pv 1) (pa_cons (pv 4) pa_nil)) (fun _ _ => rfl)) pa_nil))) pa_nil)))) pss_nil)))
      (pss_one (ps_ret (pv 3))))), ?_⟩
    refine ⟨(by show 0 ≤ sizeLine; decide), fun p hp => ?_⟩
    let du : Nat → List (Int × Int) := fun i => ((List.range i).filter fun x : Nat => ln.contains (x : Int)).map fun x : Nat => ((x : Int), nm.getD (ln.idxOf (x : Int)) 0)
    refine ⟨_, rfl, by decide, by decide, for_range (lo := 0) (n := 64) (fun i σ H' => ∃ v : Option V, σ = [some (.str wd), some (.ref l), some (.ref q), some (.ref p), v] ∧ Ex H H' ∧ PrsAt H' p (du i) ∧ (du i).length ≤ i) ⟨none, rfl, Ex.new hp, ⟨[], upd_same, rfl, fun i t x h => by cases h⟩, Nat.le_refl _⟩ ?_ ?_⟩
    · rintro i σ H' hi ⟨v, rfl, e, at_, hdl⟩
      have e0 : (0 : Int) + (i : Int) = ((i : Nat) : Int) := by omega
      rw [e0]
      have hl1 : H' l = some (.lst (ln.map V.int)) := e _ _ hl
      have hq1 : H' q = some (.lst (nm.map V.int)) := e _ _ hq
      have step : du (i + 1) = if ln.contains (i : Int) then du i ++ [((i : Int), nm.getD (ln.idxOf (i : Int)) 0)] else du i := by
        show ((List.range (i + 1)).filter _).map _ = _
        rw [List.range_succ, List.filter_append, List.map_append]
        by_cases z : ln.contains (i : Int) = true
        · rw [if_pos z, List.filter_cons, if_pos z]
          rfl
        · rw [if_neg z, List.filter_cons, if_neg z]
          exact List.append_nil _
      refine ⟨_, rfl, _, rfl, l, _, rfl, Or.inl (SqL.of hl1), rfl, flat_ints _, _, rfl, ?_⟩
      show if inV _ _ = true then _ else _
      rw [inV_ints]
      refine ite_b (fun c => ?_) (fun c => ?_)
      · rw [if_pos c] at step
        obtain ⟨ts, t1, t2, t3⟩ := at_
        have hm := List.contains_iff_mem.mp c
        have hj : ln.idxOf (i : Int) < ln.length := List.idxOf_lt_length_of_mem hm
        refine ⟨_, rfl, Or.inl ⟨rfl, _, SqL.of t1⟩, _, rfl, ?_⟩
        refine ⟨_, rfl, _, rfl, Or.inl ⟨rfl, _, SqL.of hl1⟩, _, rfl, ?_⟩
        refine ⟨l, _, _, ln.idxOf (i : Int), V.int ln[ln.idxOf (i : Int)], rfl, rfl, SqL.of hl1, rfl, flat_ints _, ix_map hj, eqV_ints.mpr (List.getElem_idxOf hj), fun m z' hm' hz' => ?_, ?_⟩
        · obtain ⟨y, hy, rfl⟩ := int_at hz'
          cases q9 : eqV (V.int y) (V.int (i : Int)) with
          | false => rfl
          | true =>
            have := eqV_ints.mp q9
            exact absurd this (by
              have hml : m < ln.length := by omega
              rw [List.getElem?_eq_getElem hml] at hy
              have hy := Option.some.inj hy
              rw [← hy]
              intro z
              have := idx_leI hml z
              omega)
        refine ⟨q, _, _, _, rfl, rfl, SqL.of hq1, at_map (by omega), ?_⟩
        refine ⟨(by show 2 ≤ sizeLine; decide), fun r hr => ?_⟩
        have er := Ex.new (o := .tup [V.int (i : Int), V.int (nm[ln.idxOf (i : Int)]'(by omega))]) hr
        have nrp : r ≠ p := Ne.symm (ne_of_none t1 hr)
        refine ⟨p, _, _, rfl, rfl, er _ _ t1, small1000 (by rw [List.length_map]; omega), ?_⟩
        refine ⟨_, rfl, (e.trans er).mut hp, ⟨ts ++ [r], by rw [upd_same, List.map_append]; rfl, by rw [step, List.length_append, List.length_append, t2]; rfl, fun j u x hj hx => ?_⟩, by rw [step, List.length_append]; simp; omega⟩
        rw [step] at hx
        by_cases hlt : j < ts.length
        · rw [List.getElem?_append_left hlt] at hj
          rw [List.getElem?_append_left (by omega)] at hx
          have hu := t3 j u x hj hx
          have nu : u ≠ p := fun zz => by rw [zz, t1] at hu; cases hu
          rw [upd_ne nu]
          exact er _ _ hu
        · rw [List.getElem?_append_right (by omega)] at hj hx
          by_cases hz : j - ts.length = 0
          · rw [hz] at hj
            rw [← t2, hz] at hx
            cases hj
            cases hx
            rw [upd_ne nrp, upd_same]
            have : nm.getD (ln.idxOf (i : Int)) 0 = nm[ln.idxOf (i : Int)]'(by omega) := by
              rw [List.getD_eq_getElem?_getD, List.getElem?_eq_getElem (by omega)]
              rfl
            rw [this]
          · rw [List.getElem?_eq_none (by simp; omega)] at hj
            cases hj
      · rw [if_neg (by rw [c]; decide)] at step
        exact ⟨_, rfl, e, step ▸ at_, by rw [step]; omega⟩
    · rintro σ H' ⟨v, rfl, e, at_, hdl⟩
      walk_at "r"
      exact k p H' hp e at_

end

section
variable {P : Program} {w : World} {K : PySem.W.Frag} {mg : Str → Option Value} {base : Heap} {A : Ad}
theorem ok_in_order (T : Txt K mg A)   : Okd P w K mg base CX0 1 A.in_order P_in_order (spIO K) := by
  obtain ⟨fd, F⟩ := T.d_in_order

  refine ⟨fd, F.ok sc_in_order (fun vs H Q E h => ?_) (fun cdv A' outer s H vs Q E hr h => ?_), F.binds fun _ _ _ _ _ _ us hl => match us, hl with | [_, _], _ => rfl⟩
  · obtain ⟨t, w, ln, rfl, _⟩ := h
    rfl
  · obtain ⟨t, w, ln, rfl, ht, fm, nd, k⟩ := h
    refine ⟨_, (pss_cons (ps_if (pt_cmpR op_eq (pv 0) pe_str (nomark _)) (pss_one (ps_ret (pe_cmpR op_lt (pe_ix ix_tup (pv 1) pe_int (fun _ _ => rfl)) (pe_ix ix_tup (pv 1) pe_int (fun _ _ => rfl)) (nomark _)))) pss_nil)
      (pss_cons (ps_if (pt_cmpR op_eq (pv 0) pe_str (nomark _)) (pss_one (ps_ret (pe_cmpR op_lt (pe_ix ix_tup (pv 1) pe_int (fun _ _ => rfl)) (pe_ix ix_tup (pv 1) pe_int (fun _ _ => rfl)) (nomark _)))) pss_nil)
      (pss_one (ps_ret (pe_and (pe_cmpR op_eq (pe_ix ix_tup (pv 1) pe_int (fun _ _ => rfl)) (pe_callB (cr_minT (by rfl)) (by rfl) T.n_min (by decide +kernel) (pa_cons (pv 1) pa_nil)) (nomark _)) (pe_one (pe_cmpR op_lt (pe_ix ix_tup (pv 1) pe_int (fun _ _ => rfl)) (pe_ix ix_tup (pv 1) pe_int (fun _ _ => rfl)) (nomark _)))))))), ?_⟩
    cases fm with
    | tie a b =>
      walk_at "r"
      exact k
    | move a b c =>
      walk_at "r"
      exact k
    | cross a b c d =>
      walk_at "r"
      refine ⟨t, [a, b, c, d], rfl, ht, (by show 0 < 4; decide), fun m hm hle => ⟨rfl, _, rfl, ?_⟩⟩
      have lb := hle b (by simp)
      have lc := hle c (by simp)
      have ld := hle d (by simp)
      have la := hle a (by simp)
      rw [List.mem_cons, List.mem_cons, List.mem_cons, List.mem_singleton] at hm
      rw [List.nodup_cons, List.mem_cons, List.mem_cons, List.mem_singleton] at nd
      have ek : ordF "cross" [a, b, c, d] = (decide (a < b) && decide (a < c) && decide (a < d) && decide (b < d)) := rfl
      refine ite_b (fun c1 => ?_) (fun c1 => ?_)
      · have c1 := of_decide_eq_true c1
        have c1 : a = m := by injection c1
        walk_at "r"
        rw [ek, decide_eq_true (show a < b by omega), decide_eq_true (show a < c by omega), decide_eq_true (show a < d by omega)] at k
        exact k
      · have c1 := of_decide_eq_false c1
        have c1 : a ≠ m := fun z => c1 (by rw [z])
        have z : (decide (a < b) && decide (a < c) && decide (a < d) && decide (b < d)) = false := by
          rcases hm with z | z | z | z
          · exact absurd z.symm c1
          · rw [decide_eq_false (show ¬ a < b by omega)]
            rfl
          · rw [decide_eq_false (show ¬ a < c by omega), Bool.and_false]
            rfl
          · rw [decide_eq_false (show ¬ a < d by omega), Bool.and_false]
            rfl
        rw [ek, z] at k
        exact k

end

section
variable {P : Program} {w : World} {K : PySem.W.Frag} {mg : Str → Option Value} {base : Heap} {A : Ad}
theorem ok_shown (T : Txt K mg A)   : Okd P w K mg base CX0 1 A.shown P_shown (spShown K) := by
  obtain ⟨fd, F⟩ := T.d_shown

  refine ⟨fd, F.ok sc_shown (fun vs H Q E h => ?_) (fun cdv A' outer s H vs Q E hr h => ?_), F.binds fun _ _ _ _ _ _ us hl => match us, hl with | [_, _], _ => rfl⟩
  · obtain ⟨t, q, ln, is, rfl, _⟩ := h
    rfl
  · obtain ⟨t, q, ln, is, rfl, ht, hq, hl, hi0, h4, nd, k⟩ := h
    refine ⟨_, (pss_one (ps_ret (pe_callB cr_sortedPO (by rfl) T.n_sorted (by decide +kernel) (pa_cons (pe_lc (own := [("record", 3), ("place", 2)]) (g := gTup K 2 (gCons (gName 3) (gCons (gName 2) gNil))) (tt := tYes) (by rfl) sc_shown.nd (RZ.pi_zipA (by rfl) T.n_zip (pa_cons (pv 0) (pa_cons (pv 1) pa_nil))) (blkOk_by (own := [("record", 3), ("place", 2)]) (N := N_shown) (sc := defScope s_shown) (by decide +kernel)) (fun _ _ _ _ _ => (pg_tup (by rfl) (pgs_cons (pg_name (i := 3) sc_shown.nd rfl (Or.inl rfl)) (pgs_cons (pg_name (i := 2) sc_shown.nd rfl (Or.inl rfl)) pgs_nil)))) (fun _ _ _ _ _ => pts_nil) (fun _ _ _ _ _ => (pe_tup (pa_cons (pv 3) (pa_cons (pe_ix (ix_tupK (K := K) rfl) (pv 0) (pv 2) (fun _ _ => rfl)) pa_nil))))) pa_nil)))), ?_⟩
    have hz : ln.length = min (ln.map V.int).length (nI is).length := by rw [List.length_map, nI_len]; omega
    refine ⟨_, rfl, _, rfl, t, q, _, _, rfl, Or.inr ⟨ht, hq, fun D hD => ?_⟩⟩
    refine lc_it (RZ.walk_zipT hz) (fun j H' => Ex H H' ∧ ∃ ts : List Addr, H' D = some (.lst (ts.map V.ref)) ∧ ts.length = j ∧ ∀ i u, ts[i]? = some u → H' u = some (.tup [.int (ln.getD i 0), .int (ln.getD (is.getD i 0) 0)])) ⟨Ex.new hD, [], upd_same, rfl, fun i u z => by cases z⟩ (fun i H' _ z => ⟨sqT_ex z.1 ht, sqT_ex z.1 hq⟩) ?_ ?_
    · rintro i x H' H2 hi ⟨e, ts, hDl, htl, hts⟩ ⟨T0, y1, y2, rfl, hT, rfl, e1, e2⟩
      obtain ⟨z, hz1, rfl⟩ := int_at e1
      obtain ⟨hi2, rfl⟩ := nat_at e2
      refine ⟨T0, _, rfl, SqT.of upd_same, rfl, _, _, rfl, _, _, rfl, rfl, ?_⟩
      refine ⟨rfl, _, rfl, ?_⟩
      have ez : z = ln.getD i 0 := by
        rw [List.getD_eq_getElem?_getD, hz1]
        rfl
      have hlt : is.getD i 0 < ln.length := hi0 _ (by rw [List.getD_eq_getElem?_getD, List.getElem?_eq_getElem hi2]; exact List.getElem_mem hi2)
      have eT := Ex.new (o := .tup [V.int z, V.int ((is.getD i 0 : Nat) : Int)]) hT
      refine ⟨_, rfl, _, rfl, t, _, _, _, rfl, rfl, sqT_ex (e.trans eT) ht, at_map hlt, ?_⟩
      refine ⟨(by show 2 ≤ sizeLine; decide), fun p hp => ?_⟩
      have eP := Ex.new (o := .tup [V.int z, V.int ln[is.getD i 0]]) hp
      have nDT : ∀ {G : Hp}, Ex H' G → ∀ {r : Addr}, H' r = none → r ≠ D := fun _ _ hr => Ne.symm (ne_of_none hDl hr)
      have npD : p ≠ D := Ne.symm (ne_of_none (eT _ _ hDl) hp)
      have e2 : Ex H (upd (upd H' T0 (.tup [V.int z, V.int ((is.getD i 0 : Nat) : Int)])) p (.tup [V.int z, V.int ln[is.getD i 0]])) := (e.trans eT).trans eP
      refine ⟨_, eP _ _ (eT _ _ hDl), small1000 (by rw [List.length_map]; omega), e2.mut hD, ts ++ [p], by rw [upd_same, List.map_append]; rfl, by rw [List.length_append, htl]; rfl, fun j u hj => ?_⟩
      by_cases hlt2 : j < i
      · rw [List.getElem?_append_left (by omega)] at hj
        have hu := hts j u hj
        have nu : u ≠ D := fun zz => by rw [zz, hDl] at hu; cases hu
        rw [upd_ne nu]
        exact eP _ _ (eT _ _ hu)
      · by_cases hji : j = i
        · subst hji
          rw [List.getElem?_append_right (by omega), htl, Nat.sub_self] at hj
          have hj := Option.some.inj hj
          subst hj
          rw [upd_ne npD, upd_same, ez]
          have : ln[is.getD j 0] = ln.getD (is.getD j 0) 0 := by
            rw [List.getD_eq_getElem?_getD (l := ln), List.getElem?_eq_getElem hlt]
            rfl
          rw [this]
        · rw [List.getElem?_eq_none (by rw [List.length_append, htl]; simp; omega)] at hj
          cases hj
    · rintro H' ⟨e, ts, hDl, htl, hts⟩
      let kk : V → Int × Int := fun v => match v with
        | .ref a => (match H' a with
          | some (.tup [.int x, .int y]) => (x, y)
          | _ => (0, 0))
        | _ => (0, 0)
      have hkk : ∀ i (hi : i < ts.length), kk (.ref ts[i]) = (ln.getD i 0, ln.getD (is.getD i 0) 0) := fun i hi => by
        show (match H' ts[i] with
          | some (.tup [.int x, .int y]) => (x, y)
          | _ => (0, 0)) = _
        rw [hts i ts[i] (List.getElem?_eq_getElem hi)]
      refine ⟨D, _, kk, rfl, SqL.of hDl, fun v hv => ?_, fun ys p hsr hst hp => ?_⟩
      · rw [List.mem_map] at hv
        obtain ⟨u, hu, rfl⟩ := hv
        obtain ⟨i, hi, rfl⟩ := List.mem_iff_getElem.mp hu
        exact ⟨_, rfl, by rw [hkk i hi]; exact hts i _ (List.getElem?_eq_getElem hi)⟩
      · have hperm := hst.perm
        have hmap : (ts.map V.ref).map kk = ln.zip (is.map fun i => ln.getD i 0) := by
          refine List.ext_getElem (by rw [List.length_map, List.length_map, List.length_zip, List.length_map]; omega) fun i h1 h2 => ?_
          rw [List.length_map, List.length_map] at h1
          rw [List.getElem_map, List.getElem_map, hkk i h1, List.getElem_zip, List.getElem_map]
          have a1 : ln.getD i 0 = ln[i] := by
            rw [List.getD_eq_getElem?_getD, List.getElem?_eq_getElem (by omega)]
            rfl
          have a2 : is.getD i 0 = is[i] := by
            rw [List.getD_eq_getElem?_getD, List.getElem?_eq_getElem (by omega)]
            rfl
          rw [a1, a2]
        have pk : (ys.map kk).Perm (ln.zip (is.map fun i => ln.getD i 0)) := by
          rw [← hmap]
          exact hperm.map kk
        have pn : ((ys.map kk).map Prod.fst).Nodup := by
          refine (pk.map Prod.fst).nodup_iff.mpr ?_
          rw [List.map_fst_zip (by rw [List.length_map]; omega)]
          exact nd
        have hmem : ∀ v ∈ ys, ∃ u, v = .ref u ∧ H' u = some (.tup [.int (kk v).1, .int (kk v).2]) := fun v hv => by
          have := hperm.mem_iff.mp hv
          rw [List.mem_map] at this
          obtain ⟨u, hu, rfl⟩ := this
          obtain ⟨i, hi, rfl⟩ := List.mem_iff_getElem.mp hu
          exact ⟨_, rfl, by rw [hkk i hi]; exact hts i _ (List.getElem?_eq_getElem hi)⟩
        refine k p (ys.map kk) _ (e.trans (Ex.new hp)) ?_ pk ?_
        · unfold Asc
          rw [List.nodup_iff_pairwise_ne, List.pairwise_map] at pn
          have hsr2 : ys.Pairwise (fun x y => ltP kk y x = false) := hsr
          rw [List.pairwise_iff_getElem] at hsr2 pn ⊢
          intro i j hi hj hij
          have hi' := hi
          have hj' := hj
          rw [List.length_map] at hi' hj'
          have q1 := SrtO.lexB_no.mp (hsr2 i j hi' hj' hij)
          have q2 := pn i j hi hj hij
          rw [List.getElem_map, List.getElem_map] at q2
          rw [List.getElem_map, List.getElem_map]
          omega
        · let un : V → Addr := fun v => match v with
            | .ref a => a
            | _ => 0
          have hys : ys = (ys.map un).map V.ref := by
            rw [List.map_map]
            refine (List.map_id ys).symm.trans (List.map_congr_left fun v hv => ?_)
            obtain ⟨u, rfl, _⟩ := hmem v hv
            rfl
          refine ⟨ys.map un, by rw [upd_same, ← hys], by rw [List.length_map, List.length_map], fun i u x h1 h2 => ?_⟩
          rw [List.getElem?_map] at h1 h2
          cases q : ys[i]? with
          | none => rw [q] at h1; cases h1
          | some v =>
            rw [q] at h1 h2
            cases h1
            cases h2
            obtain ⟨u, e1, e2⟩ := hmem v (List.mem_of_getElem? q)
            subst e1
            show upd H' p _ u = _
            rw [upd_ne (ne_of_none e2 hp)]
            exact e2

end

section
variable {P : Program} {w : World} {K : PySem.W.Frag} {mg : Str → Option Value} {base : Heap} {A : Ad}
theorem ok_check_change (T : Txt K mg A) (hS : SdK w K A.SIDES) (g_in_order : Okd P w K mg base CX0 1 A.in_order P_in_order (spIO K)) : Okd P w K mg base (L2N.CX P w) 3 A.check_change P_check_change (spCC K A) := by
  obtain ⟨fd, F⟩ := T.d_check_change
  obtain ⟨fd_in_order, G_in_order, b_in_order⟩ := g_in_order
  refine ⟨fd, F.okN sc_check_change (fun vs H Q E h => ?_) (fun cdv A' outer s H vs Q E hr h => ?_), F.binds fun _ _ _ _ _ _ us hl => match us, hl with | [_, _], _ => rfl⟩
  · obtain ⟨a, wd, ln, n, rfl, _⟩ := h
    rfl
  · obtain ⟨a, wd, ln, n, rfl, hc, hw, hl, kq, kr⟩ := h
    refine ⟨_, (pss_cons (ps_asg (pv 0) (pg_tup (by rfl) (pgs_cons (pg_name (i := 2) sc_check_change.nd rfl (Or.inl rfl)) (pgs_cons (pg_name (i := 3) sc_check_change.nd rfl (Or.inl rfl)) pgs_nil))))
      (pss_cons (ps_if (PW.pt (pw_or (pt_cmpR (op_notIn_kd hS.kd) (pv 2) (pe_glob (v := .ref A.SIDES) rfl T.g_SIDES rfl) (by with_unfolding_all rfl)) (pw_or1 (pt_cmpR op_ne (pe_callB call_len_seq (by rfl) T.n_len PySem.boot_len (pa_cons (pv 3) pa_nil)) (pe_callB call_len_seq (by rfl) T.n_len PySem.boot_len (pa_cons (pe_ix ix_tup (pe_ix ix_kdict (pe_glob (v := .ref A.SIDES) rfl T.g_SIDES rfl) (pv 2) (fun _ _ => rfl)) pe_int (fun _ _ => rfl)) pa_nil)) (nomark _))))) (pss_one (L2N.ps_raise rfl (L2N.takes_of rfl rfl rfl rfl) (L2N.pmk_own0N PySem.F.excBase_ValueError T.q_InvalidChange T.e_InvalidChange.g T.e_InvalidChange.k (raises_own T.e_InvalidChange.sub T.e_InvalidChange.ty) rfl))) pss_nil)
      (pss_cons (ps_if (PW.pt (pw_or (pt_cmpR op_ne (pe_lenSetT (by rfl) (by rfl) T.n_len (by rfl) T.n_set (pv 3)) (pe_callB call_len_seq (by rfl) T.n_len PySem.boot_len (pa_cons (pv 3) pa_nil)) (nomark _)) (pw_or1 (pt_not (pt_val (pe_call G_in_order (hr.mono (by decide)) (by rfl) T.g_in_order T.k_in_order b_in_order .nil pass0 (pa_cons (pv 2) (pa_cons (pv 3) pa_nil)))))))) (pss_one (L2N.ps_raise rfl (L2N.takes_of rfl rfl rfl rfl) (L2N.pmk_own0N PySem.F.excBase_ValueError T.q_InvalidChange T.e_InvalidChange.g T.e_InvalidChange.k (raises_own T.e_InvalidChange.sub T.e_InvalidChange.ty) rfl))) pss_nil)
      (pss_one (ps_if (PW.pt (pw_or (pt_cmpR op_lt (pe_callB (cr_minT (by rfl)) (by rfl) T.n_min (by decide +kernel) (pa_cons (pv 3) pa_nil)) pe_int (nomark _)) (pw_or1 (pt_cmpR op_ge (pe_callB (cr_maxT (by rfl)) (by rfl) T.n_max (by decide +kernel) (pa_cons (pv 3) pa_nil)) (pv 1) (nomark _))))) (pss_one (L2N.ps_raise rfl (L2N.takes_of rfl rfl rfl rfl) (L2N.pmk_own0N PySem.F.excBase_ValueError T.q_InvalidChange T.e_InvalidChange.g T.e_InvalidChange.k (raises_own T.e_InvalidChange.sub T.e_InvalidChange.ty) rfl))) pss_nil))))), ?_⟩
    obtain ⟨tt, hc1, hc2⟩ := hc
    refine ⟨_, rfl, a, _, rfl, SqT.of hc1, rfl, _, _, rfl, _, _, rfl, rfl, ?_⟩
    have bad : valF wd ln n = false → ∀ H', Ex H H' → E (.ref A.InvalidChange) none H' := kr
    by_cases h3 : wd ∈ words3
    · obtain ⟨p, q0, q1, hp, hq, i0, i1, hi0, hi1, hln⟩ := hS.yes wd h3
      have hlen := hS.len h3 hln ln.length
      have kd : KDct K w A.SIDES wd (.ref p) := ⟨hS.es, hS.n, _, hS.kd.at_, hS.kd.lit, hp, rfl⟩
      refine ⟨_, rfl, wd, _, rfl, rfl, hp, _, rfl, iteF ?_⟩
      refine ⟨_, rfl, tt, _, rfl, Or.inr (SqT.of hc2), ?_⟩
      refine ⟨_, rfl, A.SIDES, wd, _, rfl, rfl, kd, ?_⟩
      refine ⟨p, _, _, _, rfl, rfl, hq _, rfl, ?_⟩
      refine ⟨q0, _, rfl, Or.inr (hi0 _), rfl, ?_⟩
      rw [List.length_map, nI_len]
      refine ⟨_, rfl, ?_⟩
      have dn : decide (V.int (ln.length : Int) = V.int (i0.length : Int)) = okLen wd ln.length := by
        rw [hlen, dec_int, Bool.eq_iff_iff, beq_iff_eq, decide_eq_true_eq]
        omega
      rw [dn]
      cases ho : okLen wd ln.length with
      | false => exact iteT (bad (by unfold valF; rw [ho]; rfl) H (Ex.refl _))
      | true =>
        refine iteF ?_
        have fm := fm_of ho
        refine ⟨_, rfl, tt, ln, rfl, SqT.of hc2, by omega, fun cc hcl hcn => ?_⟩
        refine ⟨_, rfl, tt, _, rfl, Or.inr (SqT.of hc2), rfl, _, rfl, ?_⟩
        rw [List.length_map]
        refine ite_b (fun c => ?_) (fun c => ?_)
        · refine bad ?_ H (Ex.refl _)
          cases hv : valF wd ln n with
          | false => rfl
          | true =>
            have := hcn.mpr (vd_of hv).nd
            rw [this, decide_eq_true rfl] at c
            cases c
        · have hcc : cc = ln.length := by
            rw [Bool.not_eq_false', dec_int, beq_iff_eq] at c
            omega
          have nd := hcn.mp hcc
          refine ⟨_, rfl, _, rfl, tt, wd, ln, rfl, SqT.of hc2, fm, nd, ?_⟩
          have pos : 0 < ln.length := by cases fm <;> (show 0 < _; simp)
          cases hod : ordF wd ln with
          | false =>
            refine ⟨_, rfl, iteT (bad ?_ H (Ex.refl _))⟩
            unfold valF
            rw [hod, Bool.and_false]
          | true =>
            refine ⟨_, rfl, iteF ?_⟩
            refine ⟨_, rfl, tt, ln, rfl, SqT.of hc2, pos, fun m hm hle => ?_⟩
            refine ⟨_, _, rfl, rfl, _, rfl, ?_⟩
            refine ite_b (fun c1 => ?_) (fun c1 => ?_)
            · refine bad ?_ H (Ex.refl _)
              cases hv : valF wd ln n with
              | false => rfl
              | true =>
                have := (vd_of hv).lo m hm
                have := of_decide_eq_true c1
                omega
            · refine ⟨_, rfl, tt, ln, rfl, SqT.of hc2, pos, fun m2 hm2 hge => ?_⟩
              refine ⟨_, rfl, _, _, rfl, rfl, _, rfl, ?_⟩
              have c1 := of_decide_eq_false c1
              refine ite_b (fun c2 => ?_) (fun c2 => ?_)
              · refine bad ?_ H (Ex.refl _)
                cases hv : valF wd ln n with
                | false => rfl
                | true =>
                  have := (vd_of hv).lo m2 hm2
                  have := of_decide_eq_true c2
                  omega
              · have c2 := of_decide_eq_false c2
                have V : Vd wd ln n := ⟨fm, nd, fun x hx => ⟨by have := hle x hx; omega, by have := hge x hx; omega⟩, hod⟩
                exact kq V.is H (Ex.refl _)
    · have hno := okLen_no hw h3 ln.length
      refine ⟨_, rfl, wd, _, rfl, rfl, hS.no wd hw h3, _, rfl, iteT ?_⟩
      exact iteT (bad (by unfold valF; rw [hno]; rfl) H (Ex.refl _))

end

section
variable {P : Program} {w : World} {K : PySem.W.Frag} {mg : Str → Option Value} {base : Heap} {A : Ad}
theorem ok_sides (T : Txt K mg A) (hS : SdK w K A.SIDES) (g_shown : Okd P w K mg base CX0 1 A.shown P_shown (spShown K)) : Okd P w K mg base CX0 2 A.sides P_sides (spSides K) := by
  obtain ⟨fd, F⟩ := T.d_sides
  obtain ⟨fd_shown, G_shown, b_shown⟩ := g_shown
  refine ⟨fd, F.ok sc_sides (fun vs H Q E h => ?_) (fun cdv A' outer s H vs Q E hr h => ?_), F.binds fun _ _ _ _ _ _ us hl => match us, hl with | [_], _ => rfl⟩
  · obtain ⟨a, wd, ln, rfl, _⟩ := h
    rfl
  · obtain ⟨a, wd, ln, rfl, hc, fm, nd, k⟩ := h
    refine ⟨_, (pss_cons (ps_asg (pv 0) (pg_tup (by rfl) (pgs_cons (pg_name (i := 1) sc_sides.nd rfl (Or.inl rfl)) (pgs_cons (pg_name (i := 2) sc_sides.nd rfl (Or.inl rfl)) pgs_nil))))
      (pss_cons (ps_asg (pe_ix ix_kdict (pe_glob (v := .ref A.SIDES) rfl T.g_SIDES rfl) (pv 1) (fun _ _ => rfl)) (pg_tup (by rfl) (pgs_cons (pg_name (i := 3) sc_sides.nd rfl (Or.inl rfl)) (pgs_cons (pg_name (i := 4) sc_sides.nd rfl (Or.inl rfl)) pgs_nil))))
      (pss_one (ps_ret (pe_tup (pa_cons (pe_call G_shown (hr.mono (by decide)) (by rfl) T.g_shown T.k_shown b_shown .nil pass0 (pa_cons (pv 2) (pa_cons (pv 3) pa_nil))) (pa_cons (pe_call G_shown (hr.mono (by decide)) (by rfl) T.g_shown T.k_shown b_shown .nil pass0 (pa_cons (pv 2) (pa_cons (pv 4) pa_nil))) pa_nil))))))), ?_⟩
    obtain ⟨tt, hc1, hc2⟩ := hc
    have h3 : wd ∈ words3 := by cases fm <;> simp [words3]
    have h4 : ln.length ≤ 4 := by cases fm <;> simp
    obtain ⟨p, q0, q1, hp, hq, i0, i1, hi0, hi1, hln⟩ := hS.yes wd h3
    obtain ⟨l0, l1, e0, e1, b0, b1⟩ := hln ln fm
    refine ⟨_, rfl, a, _, rfl, SqT.of hc1, rfl, _, _, rfl, _, _, rfl, rfl, ?_⟩
    have kd : KDct K w A.SIDES wd (.ref p) := ⟨hS.es, hS.n, _, hS.kd.at_, hS.kd.lit, hp, rfl⟩
    refine ⟨_, rfl, A.SIDES, wd, _, rfl, rfl, kd, ?_⟩
    refine ⟨p, _, rfl, hq _, rfl, _, _, rfl, _, _, rfl, rfl, ?_⟩
    refine ⟨_, rfl, _, rfl, tt, q0, ln, i0, rfl, SqT.of hc2, hi0 _, l0, b0, h4, nd, fun p0 ps0 H1 x1 as0 pm0 at0 => ?_⟩
    refine ⟨_, rfl, _, rfl, tt, q1, ln, i1, rfl, SqT.of (x1 _ _ hc2), hi1 _, l1, b1, h4, nd, fun p1 ps1 H2 x2 as1 pm1 at1 => ?_⟩
    refine ⟨(by show 2 ≤ sizeLine; decide), fun p hp => ?_⟩
    have x3 := Ex.new (o := .tup [.ref p0, .ref p1]) hp
    rw [← e0] at pm0
    rw [← e1] at pm1
    exact k p p0 p1 ps0 ps1 _ ((x1.trans x2).trans x3) upd_same as0 pm0 (at0.ex (x2.trans x3)) as1 pm1 (at1.ex x3)

end

section
variable {P : Program} {w : World} {K : PySem.W.Frag} {mg : Str → Option Value} {base : Heap} {A : Ad}
theorem ok_side_of (T : Txt K mg A)  (g_check_image : Okd P w K mg base (L2N.CX P w) 3 A.check_image P_check_image (spCI2 A)) (g_check_change : Okd P w K mg base (L2N.CX P w) 3 A.check_change P_check_change (spCC K A)) (g_sides : Okd P w K mg base CX0 2 A.sides P_sides (spSides K)) : Okd P w K mg base (L2N.CX P w) 4 A.side_of P_side_of (spSO K A) := by
  obtain ⟨fd, F⟩ := T.d_side_of
  obtain ⟨fd_check_image, G_check_image, b_check_image⟩ := g_check_image
  obtain ⟨fd_check_change, G_check_change, b_check_change⟩ := g_check_change
  obtain ⟨fd_sides, G_sides, b_sides⟩ := g_sides
  refine ⟨fd, F.okN sc_side_of (fun vs H Q E h => ?_) (fun cdv A' outer s H vs Q E hr h => ?_), F.binds fun _ _ _ _ _ _ us hl => match us, hl with | [_, _], _ => rfl⟩
  · obtain ⟨a, c, xs, wd, ln, rfl, _⟩ := h
    rfl
  · obtain ⟨a, c, xs, wd, ln, rfl, ha, h64, hc, hw, h5, kI, kC, kq⟩ := h
    refine ⟨_, (pss_cons (ps_expr (pe_callS G_check_image (hr.mono (by decide)) rfl T.g_check_image T.k_check_image b_check_image (fun σ => L2N.passAt (L2N.takes_of rfl rfl rfl rfl) σ) (pa_cons (pv 0) pa_nil)))
      (pss_cons (ps_expr (pe_callS G_check_change (hr.mono (by decide)) rfl T.g_check_change T.k_check_change b_check_change (fun σ => L2N.passAt (L2N.takes_of rfl rfl rfl rfl) σ) (pa_cons (pv 1) (pa_cons (pe_callB call_len_seq (by rfl) T.n_len PySem.boot_len (pa_cons (pv 0) pa_nil)) pa_nil))))
      (pss_cons (ps_for (passes_of rfl) rfl (EnT.pi_enumT (by rfl) T.n_enumerate (pa_cons (pe_call G_sides (hr.mono (by decide)) (by rfl) T.g_sides T.k_sides b_sides .nil pass0 (pa_cons (pv 1) pa_nil)) pa_nil)) (pg_tup (by rfl) (pgs_cons (pg_name (i := 2) sc_side_of.nd rfl (Or.inl rfl)) (pgs_cons (pg_name (i := 3) sc_side_of.nd rfl (Or.inl rfl)) pgs_nil))) (pss_one (ps_if (pt_val (pe_callB (cr_all (by rfl)) (by rfl) T.n_all (by decide +kernel) (pa_cons (pe_lc (own := [("record", 5), ("name", 4)]) (g := gTup K 2 (gCons (gName 5) (gCons (gName 4) gNil))) (tt := tYes) (by rfl) sc_side_of.nd (pi_list (pv 3)) (blkOk_by (own := [("record", 5), ("name", 4)]) (N := N_side_of) (sc := defScope s_side_of) (by decide +kernel)) (fun _ _ _ _ _ => (pg_tup (by rfl) (pgs_cons (pg_name (i := 5) sc_side_of.nd rfl (Or.inl rfl)) (pgs_cons (pg_name (i := 4) sc_side_of.nd rfl (Or.inl rfl)) pgs_nil)))) (fun _ _ _ _ _ => pts_nil) (fun _ _ _ _ _ => (pe_cmpR op_eq (pe_ix (ix_listK (K := K) rfl) (pv 0) (pv 5) (fun _ _ => rfl)) (pv 4) (nomark _)))) pa_nil))) (pss_one (ps_ret (pv 2))) pss_nil)))
      (pss_one (ps_ret pe_non))))), ?_⟩
    unfold ListI at ha
    refine ⟨_, rfl, a, xs, rfl, ha, h64, fun hok H1 e1 => ?_, kI⟩
    refine ⟨_, rfl, _, rfl, a, _, rfl, Or.inl (SqL.of (e1 _ _ ha)), ?_⟩
    rw [List.length_map]
    refine ⟨c, wd, ln, _, rfl, hc.ex e1, hw, h5, fun hv H2 e2 => ?_, fun hv => (kC hok hv).mono e1⟩
    have vd := vd_of hv
    have fm := vd.fm
    have e12 := e1.trans e2
    refine ⟨_, rfl, c, wd, ln, rfl, hc.ex e12, fm, vd.nd, fun pr p0 p1 ps0 ps1 H3 e3 a3 as0 pm0 at0 as1 pm1 at1 => ?_⟩
    have eH := e12.trans e3
    refine ⟨pr, _, rfl, SqT.of a3, for_it EnT.walk_enumT (fun i σ H' => ∃ v2 v3 : Option V, σ = [some (.ref a), some (.ref c), v2, v3, none, none] ∧ Ex H3 H' ∧ (0 < i → shF xs ln ≠ nm0 ln) ∧ (1 < i → shF xs ln ≠ nm1 ln)) ⟨none, none, rfl, Ex.refl _, (fun h => absurd h (by omega)), (fun h => absurd h (by omega))⟩ (fun i σ H' _ ⟨_, _, _, e, _⟩ => SqT.of (e _ _ a3)) ?_ ?_⟩
    · rintro i x σ H' H'' hi ⟨v2, v3, rfl, e, n0, n1⟩ ⟨T0, y1, y2, rfl, hT, rfl, g1, g2⟩
      cases g1
      have hcase : ∃ (q : Addr) (ps : List (Int × Int)) (nm : List Int), y2 = .ref q ∧ PrsAt H3 q ps ∧ ps.Perm (ln.zip nm) ∧ nm.length = ln.length ∧ ((i = 0 ∧ nm = nm0 ln) ∨ (i = 1 ∧ nm = nm1 ln)) := by
        match i, hi, g2 with
        | 0, _, g2 => cases g2; exact ⟨p0, ps0, nm0 ln, rfl, at0, pm0, fm.nm0, Or.inl ⟨rfl, rfl⟩⟩
        | 1, _, g2 => cases g2; exact ⟨p1, ps1, nm1 ln, rfl, at1, pm1, fm.nm1, Or.inr ⟨rfl, rfl⟩⟩
      obtain ⟨q, ps, nm, rfl, atq, pmq, lq, cs⟩ := hcase
      refine ⟨T0, _, rfl, SqT.of upd_same, rfl, _, _, rfl, _, _, rfl, rfl, ?_⟩
      have eT := e.trans (Ex.new (o := .tup [V.int (i : Int), V.ref q]) hT)
      obtain ⟨ts, t1, t2, t3⟩ := atq.ex eT
      have eHT := eH.trans eT
      generalize upd H' T0 (.tup [V.int (i : Int), V.ref q]) = H4 at *
      have lnx : ∀ x ∈ ps, 0 ≤ x.1 ∧ x.1 < (xs.length : Int) := fun x hx => by
        have := pmq.mem_iff.mp hx
        exact vd.lo _ (List.of_mem_zip this).1
      refine ⟨_, rfl, q, rfl, ⟨_, SqL.of t1⟩, fun D hD => lc_list (K := K) (a := q) (xs := ts.map V.ref) (fun j G => Ex H4 G ∧ G D = some (.lst (((ps.take j).map fun x => decide (xs.getD x.1.toNat 0 = x.2)).map V.bl))) ⟨Ex.new hD, upd_same⟩ (fun j G _ z => SqL.of (z.1 _ _ t1)) ?_ ?_⟩
      · rintro j y G hj ⟨ej, hd⟩
        rw [List.getElem?_map] at hj
        cases hq : ts[j]? with
        | none => rw [hq] at hj; cases hj
        | some u =>
        rw [hq] at hj
        cases hj
        have hjl : j < ps.length := by have := (List.getElem?_eq_some_iff.mp hq).1; omega
        have hu := t3 j u ps[j] hq (List.getElem?_eq_getElem hjl)
        have lx := lnx _ (List.getElem_mem hjl)
        refine ⟨u, _, rfl, SqT.of (ej _ _ hu), rfl, _, _, rfl, _, _, rfl, rfl, rfl, ?_⟩
        refine ⟨_, rfl, _, rfl, a, _, _, _, rfl, rfl, SqL.of (ej _ _ (eHT _ _ ha)), at_int lx.1 lx.2, ?_⟩
        refine ⟨_, rfl, rfl, _, hd, small1000 (by rw [List.length_map, List.length_map, List.length_take]; have := pmq.length_eq; rw [List.length_zip] at this; have := fm.le4; omega), ej.mut hD, ?_⟩
        rw [upd_same, List.take_add_one, List.getElem?_eq_getElem hjl, List.map_append, List.map_append]
        rw [show decide (V.int (xs.getD ps[j].fst.toNat 0) = V.int ps[j].snd) = decide (xs.getD ps[j].fst.toNat 0 = ps[j].snd) from dec_int]
        rfl
      · rintro G ⟨ej, hd⟩
        rw [List.length_map, t2, List.take_length] at hd
        refine ⟨D, _, rfl, SqL.of hd, ?_⟩
        have hall : ((ps.map fun x => decide (xs.getD x.1.toNat 0 = x.2)).all id) = decide (shF xs ln = nm) := by
          rw [List.all_map]
          exact all_shown (g := fun z => xs.getD z.toNat 0) pmq lq
        rw [hall]
        refine ⟨_, rfl, ?_⟩
        have kk := kq hok hv G (eHT.trans ej)
        refine ite_b (fun z => ?_) (fun z => ?_)
        · have z := of_decide_eq_true z
          have sv : sideV xs ln = .int (i : Int) := by
            unfold sideV
            rcases cs with ⟨rfl, rfl⟩ | ⟨rfl, rfl⟩
            · rw [if_pos z]
              rfl
            · rw [if_neg (n0 (by decide)), if_pos z]
              rfl
          rw [sv] at kk
          exact ⟨_, rfl, kk⟩
        · have z := of_decide_eq_false z
          refine ⟨_, _, rfl, eT.trans ej, fun _ => ?_, fun _ => ?_⟩
          · rcases cs with ⟨rfl, rfl⟩ | ⟨rfl, rfl⟩
            · exact z
            · exact n0 (by decide)
          · rcases cs with ⟨rfl, rfl⟩ | ⟨rfl, rfl⟩
            · omega
            · exact z
    · rintro σ H' ⟨v2, v3, rfl, e, n0, n1⟩
      have z : sideV xs ln = .non := by
        unfold sideV
        rw [if_neg (n0 (by show 0 < 2; decide)), if_neg (n1 (by show 1 < 2; decide))]
      have := kq hok hv H' (eH.trans e)
      rw [z] at this
      exact this

end

section
variable {P : Program} {w : World} {K : PySem.W.Frag} {mg : Str → Option Value} {base : Heap} {A : Ad}
theorem ok_law_sides_kept (T : Txt K mg A)  (g_law_names : Okd P w K mg base CX0 1 A.law_names P_law_names spNames) (g_sides : Okd P w K mg base CX0 2 A.sides P_sides (spSides K)) (g_law_list_told : Okd P w K mg base CX0 2 A.law_list_told P_law_list_told spLT) (g_law_side_due : Okd P w K mg base CX0 1 A.law_side_due P_law_side_due (spDue K)) : Okd P w K mg base CX0 3 A.law_sides_kept P_law_sides_kept spSK := by
  obtain ⟨fd, F⟩ := T.d_law_sides_kept
  obtain ⟨fd_law_names, G_law_names, b_law_names⟩ := g_law_names
  obtain ⟨fd_sides, G_sides, b_sides⟩ := g_sides
  obtain ⟨fd_law_list_told, G_law_list_told, b_law_list_told⟩ := g_law_list_told
  obtain ⟨fd_law_side_due, G_law_side_due, b_law_side_due⟩ := g_law_side_due
  refine ⟨fd, F.ok sc_law_sides_kept (fun vs H Q E h => ?_) (fun cdv A' outer s H vs Q E hr h => ?_), F.binds fun _ _ _ _ _ _ us hl => match us, hl with | [_, _], _ => rfl⟩
  · obtain ⟨l, wd, ln, rfl, _⟩ := h
    rfl
  · obtain ⟨l, wd, ln, rfl, hl, vd, k⟩ := h
    refine ⟨_, (pss_cons (ps_set (i := 2) sc_law_sides_kept.nd rfl (Or.inl rfl) (pe_call G_law_names (hr.mono (by decide)) (by rfl) T.g_law_names T.k_law_names b_law_names .nil pass0 (pa_cons (pv 0) (pa_cons (pv 1) pa_nil))))
      (pss_cons (ps_set (i := 3) sc_law_sides_kept.nd rfl (Or.inl rfl) (pe_call G_sides (hr.mono (by decide)) (by rfl) T.g_sides T.k_sides b_sides .nil pass0 (pa_cons (pe_tup (pa_cons (pv 0) (pa_cons (pe_callTy call_tuple_of (by rfl) T.n_tuple (by decide +kernel) (pa_cons (pv 1) pa_nil)) pa_nil))) pa_nil)))
      (pss_cons (ps_if (PW.pt (pw_or (pt_not (pt_val (pe_callB call_isi (by rfl) T.n_isinstance (by decide +kernel) (pa_cons (pv 3) (pa_cons (pe_bltn (v := .ty "tuple") (u := .type "tuple") (by rfl) T.n_tuple (by decide +kernel) rfl) pa_nil))))) (pw_or1 (pt_cmpR op_ne (pe_callB call_len_seq (by rfl) T.n_len PySem.boot_len (pa_cons (pv 3) pa_nil)) pe_int (nomark _))))) (pss_one (ps_ret pe_bl)) pss_nil)
      (pss_cons (ps_if (pt_not (pt_val (pe_call G_law_list_told (hr.mono (by decide)) (by rfl) T.g_law_list_told T.k_law_list_told b_law_list_told .nil pass0 (pa_cons (pe_ix ix_tup (pv 3) pe_int (fun _ _ => rfl)) (pa_cons (pe_call G_law_side_due (hr.mono (by decide)) (by rfl) T.g_law_side_due T.k_law_side_due b_law_side_due .nil pass0 (pa_cons (pv 0) (pa_cons (pv 1) (pa_cons (pe_ix ix_list (pv 2) pe_int (fun _ _ => rfl)) pa_nil)))) pa_nil))))) (pss_one (ps_ret pe_bl)) pss_nil)
      (pss_one (ps_ret (pe_call G_law_list_told (hr.mono (by decide)) (by rfl) T.g_law_list_told T.k_law_list_told b_law_list_told .nil pass0 (pa_cons (pe_ix ix_tup (pv 3) pe_int (fun _ _ => rfl)) (pa_cons (pe_call G_law_side_due (hr.mono (by decide)) (by rfl) T.g_law_side_due T.k_law_side_due b_law_side_due .nil pass0 (pa_cons (pv 0) (pa_cons (pv 1) (pa_cons (pe_ix ix_list (pv 2) pe_int (fun _ _ => rfl)) pa_nil)))) pa_nil))))))))), ?_⟩
    have nd := vd.nd
    have fm := vd.fm
    refine ⟨_, rfl, _, rfl, l, wd, ln, rfl, hl, fm, fun p q0 q1 H1 hp h0 h1 e1 a0 a1 a2 => ?_⟩
    refine ⟨_, rfl, _, rfl, ?_⟩
    refine ⟨l, _, rfl, Or.inl ⟨SqL.of (e1 _ _ hl), fun tt htt => ?_⟩⟩
    refine ⟨(by show 2 ≤ sizeLine; decide), fun ch hch => ?_⟩
    have y1 := Ex.new (o := .tup (ln.map V.int)) htt
    have y2 := Ex.new (o := .tup [.str wd, .ref tt]) hch
    refine ⟨ch, wd, ln, rfl, ⟨tt, upd_same, y2 _ _ upd_same⟩, fm, nd, fun pr p0 p1 ps0 ps1 H4 e4 a4 as0 pm0 at0 as1 pm1 at1 => ?_⟩
    have e14 := (y1.trans y2).trans e4
    have eH := e1.trans e14
    have hlo : ∀ x ∈ ln, 0 ≤ x ∧ x < 64 := vd.lo
    have d0 := due_is nd hlo fm.nm0 as0 pm0
    have d1 := due_is nd hlo fm.nm1 as1 pm1
    rw [d0] at at0
    rw [d1] at at1
    refine ⟨_, rfl, _, _, _, _, true, rfl, ClsV.ty "tuple", TyX.base (TyOf.tup a4), kit_ty (by decide +kernel), ?_⟩
    refine ⟨_, rfl, iteF ?_⟩
    refine ⟨_, rfl, pr, _, rfl, Or.inr (SqT.of a4), ?_⟩
    walk_at "r"
    refine ⟨pr, _, _, _, rfl, rfl, SqT.of a4, rfl, ?_⟩
    refine ⟨_, rfl, _, rfl, _, rfl, p, _, _, _, rfl, rfl, SqL.of (e14 _ _ a0), rfl, l, q0, wd, ln, nm0 ln, rfl, eH _ _ hl, e14 _ _ a1, fm.nm0, fm.le4, fun r0 H5 hr0 e5 at5 => ?_⟩
    refine ⟨p0, r0, dueF ln (nm0 ln), rfl, at0.ex e5, at5, due_len _ _, ?_⟩
    refine ⟨_, rfl, iteF ?_⟩
    refine ⟨_, rfl, pr, _, _, _, rfl, rfl, SqT.of (e5 _ _ a4), rfl, ?_⟩
    refine ⟨_, rfl, _, rfl, _, rfl, p, _, _, _, rfl, rfl, SqL.of (e5 _ _ (e14 _ _ a0)), rfl, l, q1, wd, ln, nm1 ln, rfl, e5 _ _ (eH _ _ hl), e5 _ _ (e14 _ _ a2), fm.nm1, fm.le4, fun r1 H6 hr1 e6 at6 => ?_⟩
    refine ⟨p1, r1, dueF ln (nm1 ln), rfl, at1.ex (e5.trans e6), at6, due_len _ _, ?_⟩
    exact k H6 ((eH.trans e5).trans e6)

end

section
variable {P : Program} {w : World} {K : PySem.W.Frag} {mg : Str → Option Value} {base : Heap} {A : Ad}
theorem ok_law_check_kept (T : Txt K mg A)  (g_check_change : Okd P w K mg base (L2N.CX P w) 3 A.check_change P_check_change (spCC K A)) (g_law_valid : Okd P w K mg base CX0 1 A.law_valid P_law_valid spValid) (h_law_valid : Okh P w K mg base CX0 1 A.law_valid P_law_valid spValid) : Okd P w K mg base CX0 5 A.law_check_kept P_law_check_kept spCK := by
  obtain ⟨fd, F⟩ := T.d_law_check_kept
  obtain ⟨fd_check_change, G_check_change, b_check_change⟩ := g_check_change
  obtain ⟨fd_law_valid, G_law_valid, b_law_valid⟩ := g_law_valid
  obtain ⟨fdh_law_valid, H_law_valid, hb_law_valid⟩ := h_law_valid
  refine ⟨fd, F.ok sc_law_check_kept (fun vs H Q E h => ?_) (fun cdv A' outer s H vs Q E hr h => ?_), F.binds fun _ _ _ _ _ _ us hl => match us, hl with | [_, _, _], _ => rfl⟩
  · obtain ⟨l, wd, ln, n, rfl, _⟩ := h
    rfl
  · obtain ⟨l, wd, ln, n, rfl, hl, hw, h5, k⟩ := h
    refine ⟨_, (pss_cons (L2N.ps_try_as (i := 4) rfl rfl sc_law_check_kept.nd rfl rfl ⟨rfl, by decide, .inl T.e_InvalidChange.g⟩ L2N.takes0N (fun W pn xe tk _ => (pss_one (ps_set (i := 3) sc_law_check_kept.nd rfl (Or.inl rfl) (pe_callS G_check_change (hr.mono (by decide)) rfl T.g_check_change T.k_check_change b_check_change (fun σ => L2N.passAt tk σ) (pa_cons (pe_tup (pa_cons (pv 0) (pa_cons (pe_callTy (call_tuple_ofK (K := K) rfl) (by rfl) T.n_tuple (by decide +kernel) (pa_cons (pv 1) pa_nil)) pa_nil))) (pa_cons (pv 2) pa_nil)))))) (fun a oe cls d pn hz hf => (pss_cons (ps_if (PW.pt (pw_or (pt_val (pe_callB (call_isS2 (K := K) rfl hz.zc hf) (by rfl) T.n_isinstance (by decide +kernel) (pa_cons (pv 4) (pa_cons (pe_glob (v := .ref A.InvalidKind) rfl T.e_InvalidKind.g rfl) pa_nil)))) (pw_or (pt_not (pt_val (pe_callB (call_isS2 (K := K) rfl hz.zc hf) (by rfl) T.n_isinstance (by decide +kernel) (pa_cons (pv 4) (pa_cons (pe_glob (v := .ref A.MendError) rfl T.e_MendError.g rfl) pa_nil))))) (pw_or1 (pt_not (pt_val (pe_callB (call_isS2 (K := K) rfl hz.zc hf) (by rfl) T.n_isinstance (by decide +kernel) (pa_cons (pv 4) (pa_cons (pe_bltn (v := .ty "ValueError") (u := .type "ValueError") (by rfl) T.n_ValueError (by decide +kernel) rfl) pa_nil))))))))) (pss_one (ps_ret pe_bl)) pss_nil)
      (pss_one (ps_ret (pe_not (L2H.pe_callH H_law_valid (L2H.roomH_mark (hr.mono (by decide)) _) (hot_suite hz hf) (by rfl) T.g_law_valid T.k_law_valid hb_law_valid (passH0 (fun _ => E0)) (pa_cons (pv 0) (pa_cons (pv 1) (pa_cons (pv 2) pa_nil))))))))))
      (pss_one (ps_ret (pe_and (pe_cmpR op_isN (pv 3) pe_non (nomark _)) (pe_one (pe_call G_law_valid (hr.mono (by decide)) (by rfl) T.g_law_valid T.k_law_valid b_law_valid .nil pass0 (pa_cons (pv 0) (pa_cons (pv 1) (pa_cons (pv 2) pa_nil))))))))), ?_⟩
    have hl' := hl
    unfold ListI at hl'
    refine ⟨_, rfl, _, rfl, l, _, rfl, Or.inl ⟨SqL.of hl', fun tt htt => ?_⟩⟩
    refine ⟨(by show 2 ≤ sizeLine; decide), fun ch hch => ?_⟩
    have y1 := Ex.new (o := .tup (ln.map V.int)) htt
    have y2 := Ex.new (o := .tup [.str wd, .ref tt]) hch
    have y12 := y1.trans y2
    refine ⟨_, rfl, ch, wd, ln, n, rfl, ⟨tt, upd_same, y2 _ _ upd_same⟩, hw, h5, fun hv H1 e1 => ?_, fun hv H1 e1 => ?_⟩
    · have eH := y12.trans e1
      walk_at "r"
      refine ⟨l, wd, ln, n, rfl, eH _ _ hl', hw, h5, fun H2 e2 => ?_⟩
      rw [hv]
      exact k H2 (eH.trans e2)
    · have eH := y12.trans e1
      refine ⟨true, T.e_InvalidChange.exm, fun _ a0 ha0 => ?_, fun z => (nomatch z)⟩
      refine ⟨_, rfl, A.InvalidChange, _, _, false, rfl, rfl, Or.inl rfl, T.e_InvalidChange.exc T.cn T.ct, ClsV.own _, T.e_InvalidChange.kit_ne T.e_InvalidKind (ne_ix T.nd 3 2 rfl rfl (by decide)) (ne_ix T.nd 0 2 rfl rfl (by decide)), _, rfl, iteF ?_⟩
      refine ⟨_, rfl, A.InvalidChange, _, _, true, rfl, rfl, Or.inl rfl, T.e_InvalidChange.exc T.cn T.ct, ClsV.own _, T.e_InvalidChange.kit_base T.e_MendError (ne_ix T.nd 3 0 rfl rfl (by decide)), _, rfl, iteF ?_⟩
      refine ⟨_, rfl, A.InvalidChange, _, _, true, rfl, rfl, Or.inl rfl, T.e_InvalidChange.exc T.cn T.ct, ClsV.ty "ValueError", T.e_InvalidChange.kit_ve, _, rfl, iteF ?_⟩
      refine ⟨_, rfl, _, rfl, _, rfl, l, wd, ln, n, rfl, eH _ _ hl', hw, h5, fun H2 e2 => ?_⟩
      refine ⟨_, rfl, ?_⟩
      rw [hv]
      exact k H2 (eH.trans e2)

end

section
variable {P : Program} {w : World} {K : PySem.W.Frag} {mg : Str → Option Value} {base : Heap} {A : Ad}
theorem ok_law_image (T : Txt K mg A)  (g_law_draw : Okd P w K mg base CX0 2 A.law_draw P_law_draw spDraw) (g_law_names : Okd P w K mg base CX0 1 A.law_names P_law_names spNames) : Okd P w K mg base CX0 3 A.law_image P_law_image spImg := by
  obtain ⟨fd, F⟩ := T.d_law_image
  obtain ⟨fd_law_draw, G_law_draw, b_law_draw⟩ := g_law_draw
  obtain ⟨fd_law_names, G_law_names, b_law_names⟩ := g_law_names
  refine ⟨fd, F.ok sc_law_image (fun vs H Q E h => ?_) (fun cdv A' outer s H vs Q E hr h => ?_), F.binds fun _ _ _ _ _ _ us hl => match us, hl with | [_, _, _, _], _ => rfl⟩
  · obtain ⟨b, c, l, wd, ln, n, rfl, _⟩ := h
    rfl
  · obtain ⟨b, c, l, wd, ln, n, rfl, B, hl, nlb, vd, n64, k⟩ := h
    refine ⟨_, (pss_cons (ps_setLc (i := 4) (own := [("x", 10)]) (tt := tYes) (by rfl) sc_law_image.nd rfl rfl (sw_true rfl rfl rfl (by decide +kernel)) (pi_range1 (by rfl) T.n_range (pa_cons (pv 3) pa_nil)) (blkOk_by (own := [("x", 10)]) (N := N_law_image) (sc := defScope s_law_image) (by decide +kernel)) (fun _ _ _ _ _ => (pg_name (i := 10) sc_law_image.nd rfl (Or.inl rfl))) (fun _ _ _ _ _ => pts_nil) (fun _ _ _ _ _ => (pe_call G_law_draw (hr.mono (by decide)) (by rfl) T.g_law_draw T.k_law_draw b_law_draw .nil pass0 (pa_cons (pv 0) (pa_cons (pv 3) pa_nil)))))
      (pss_cons (ps_set (i := 5) sc_law_image.nd rfl (Or.inl rfl) (pe_call G_law_names (hr.mono (by decide)) (by rfl) T.g_law_names T.k_law_names b_law_names .nil pass0 (pa_cons (pv 1) (pa_cons (pv 2) pa_nil))))
      (pss_cons (ps_set (i := 6) sc_law_image.nd rfl (Or.inl rfl) (pe_call G_law_draw (hr.mono (by decide)) (by rfl) T.g_law_draw T.k_law_draw b_law_draw .nil pass0 (pa_cons (pv 0) (pa_cons pe_int pa_nil))))
      (pss_cons (ps_if (pt_cmpR op_eq (pv 6) pe_int (nomark _)) (pss_one (ps_ret (pv 4))) pss_nil)
      (pss_cons (ps_for PassesOwn.never rfl (pi_range1 (by rfl) T.n_range (pa_cons (pe_callB call_len_seq (by rfl) T.n_len PySem.boot_len (pa_cons (pv 2) pa_nil)) pa_nil)) (pg_name (i := 7) sc_law_image.nd rfl (Or.inl rfl)) (pss_cons (ps_set (i := 8) sc_law_image.nd rfl (Or.inl rfl) (pe_call G_law_draw (hr.mono (by decide)) (by rfl) T.g_law_draw T.k_law_draw b_law_draw .nil pass0 (pa_cons (pv 0) (pa_cons pe_int pa_nil))))
      (pss_cut (ps_if (PW.pt (pw_or (pt_cmpR op_eq (pv 6) pe_int (nomark _)) (pw_or1 (pt_cmpR op_eq (pv 6) pe_int (nomark _))))) (pss_one (ps_set (i := 8) sc_law_image.nd rfl (Or.inl rfl) (pv 6))) pss_nil)
      (pss_one (ps_asg (pe_ix ix_list (pe_ix ix_list (pv 5) (pv 8) (fun _ _ => rfl)) (pv 7) (fun _ _ => rfl)) (pg_sub (pv 4) (pe_ix ix_list (pv 2) (pv 7) (fun _ _ => rfl)) set_list))))))
      (pss_cut (ps_if (pt_cmpR op_eq (pv 6) pe_int (nomark _)) (pss_cons (ps_set (i := 9) sc_law_image.nd rfl (Or.inl rfl) (pe_call G_law_draw (hr.mono (by decide)) (by rfl) T.g_law_draw T.k_law_draw b_law_draw .nil pass0 (pa_cons (pv 0) (pa_cons pe_int pa_nil))))
      (pss_cons (ps_for PassesOwn.never rfl (pi_range1 (by rfl) T.n_range (pa_cons (pe_callB call_len_seq (by rfl) T.n_len PySem.boot_len (pa_cons (pv 2) pa_nil)) pa_nil)) (pg_name (i := 7) sc_law_image.nd rfl (Or.inl rfl)) (pss_one (ps_asg (pe_ix ix_list (pe_ix ix_list (pv 5) (pv 9) (fun _ _ => rfl)) (pv 7) (fun _ _ => rfl)) (pg_sub (pv 4) (pe_ix ix_list (pv 2) (pv 7) (fun _ _ => rfl)) set_list))))
      (pss_one (ps_asg (pe_call G_law_draw (hr.mono (by decide)) (by rfl) T.g_law_draw T.k_law_draw b_law_draw .nil pass0 (pa_cons (pv 0) (pa_cons (pv 3) pa_nil))) (pg_sub (pv 4) (pe_ix ix_list (pv 2) (pe_call G_law_draw (hr.mono (by decide)) (by rfl) T.g_law_draw T.k_law_draw b_law_draw .nil pass0 (pa_cons (pv 0) (pa_cons (pe_callB call_len_seq (by rfl) T.n_len PySem.boot_len (pa_cons (pv 2) pa_nil)) pa_nil))) (fun _ _ => rfl)) set_list))))) pss_nil)
      (pss_one (ps_ret (pv 4))))))))), ?_⟩
    have fm := vd.fm
    have lo := vd.lo
    unfold ListI at hl
    refine ⟨_, rfl, _, rfl, by omega, by omega, fun D hD => lc_range (lo := 0) (n := n) (fun j G => ∃ xs : List Int, xs.length = j ∧ (∀ x ∈ xs, 0 ≤ x ∧ x < (n : Int)) ∧ ListI G D xs ∧ Box G b c ∧ Mut b H G) ⟨[], rfl, (fun x hx => by cases hx), upd_same, B.upd (B.ne hD) (B.nec hD), (Mut.refl _ _).new hD⟩ ?_ ?_⟩
    · rintro j G hj ⟨xs, hxl, hr, hx, BG, MG⟩
      refine ⟨rfl, _, rfl, _, rfl, b, c, _, rfl, by omega, by omega, BG, fun d G1 d0 d1 B1 M1 => ?_⟩
      have nDb := B.ne hD
      have nDc := B.nec hD
      refine ⟨_, M1 _ _ nDb hx, small1000 (by rw [List.length_map]; omega), xs ++ [d], by rw [List.length_append, hxl]; rfl, fun x hm => ?_, ?_, B1.upd nDb nDc, fun a u ha h => ?_⟩
      · rcases List.mem_append.mp hm with hm | hm
        · exact hr x hm
        · rw [List.mem_singleton.mp hm]
          exact ⟨d0, d1⟩
      · show upd G1 D _ D = _
        rw [upd_same, List.map_append]
        rfl
      · rw [upd_ne (ne_of_none h hD)]
        exact M1 _ _ ha (MG _ _ ha h)
    · rintro G ⟨xs, hxl, hr, hx, BG, MG⟩
      have nDb := B.ne hD
      have nDc := B.nec hD
      have hlG := MG _ _ nlb hl
      refine ⟨_, rfl, _, rfl, l, wd, ln, rfl, hlG, fm, fun p q0 q1 G1 hp h0 h1 e1 a0 a1 a2 => ?_⟩
      have nlD : l ≠ D := ne_of_none hl hD
      have npD : p ≠ D := Ne.symm (ne_of_none hx hp)
      have n0D : q0 ≠ D := Ne.symm (ne_of_none hx h0)
      have n1D : q1 ≠ D := Ne.symm (ne_of_none hx h1)
      have npb := BG.ne hp
      have n0b := BG.ne h0
      have n1b := BG.ne h1
      let J : Hp → Prop := fun G' => ∃ ys : List Int, ys.length = n ∧ (∀ x ∈ ys, 0 ≤ x ∧ x < (n : Int)) ∧ ListI G' D ys ∧ Box G' b c ∧ Mut b H G' ∧ G' l = some (.lst (ln.map V.int)) ∧ G' p = some (.lst [.ref q0, .ref q1]) ∧ ListI G' q0 (nm0 ln) ∧ ListI G' q1 (nm1 ln)
      have J1 : J G1 := ⟨xs, hxl, hr, e1 _ _ hx, BG.ex e1, MG.trans (Mut.of_ex e1), e1 _ _ hlG, a0, a1, a2⟩
      have Jd : ∀ {X Y : Hp}, J X → Box Y b c → Mut b X Y → J Y := fun {X Y} j BY MY => by
        obtain ⟨ys, b1, b2, b3, b4, b5, b6, b7, b8, b9⟩ := j
        exact ⟨ys, b1, b2, MY _ _ nDb b3, BY, b5.trans MY, MY _ _ nlb b6, MY _ _ npb b7, MY _ _ n0b b8, MY _ _ n1b b9⟩
      have Jb : ∀ {X : Hp}, J X → Box X b c := fun j => by
        obtain ⟨ys, b1, b2, b3, b4, _⟩ := j
        exact b4
      have fin : ∀ {X : Hp}, J X → Q (.ref D) X := fun {X} j => by
        obtain ⟨ys, b1, b2, b3, b4, b5, _⟩ := j
        exact k D ys X hD b1 (stray_none (by rw [b1]; exact b2)) b3 b4 b5
      have hlo : ∀ i (hi : i < ln.length), 0 ≤ ln[i] ∧ ln[i] < (n : Int) := fun i hi => lo _ (List.getElem_mem hi)
      refine ⟨_, rfl, b, c, 5, rfl, by decide, by decide, BG.ex e1, fun wy G2 w0 w5 B2 M2 => ?_⟩
      have J2 := Jd J1 B2 M2
      refine ⟨_, rfl, rfl, _, rfl, ?_⟩
      refine ite_b (fun c4 => ⟨_, rfl, fin J2⟩) (fun c4 => ?_)
      have hl2 := J2
      obtain ⟨_, _, _, _, _, _, hl2, _⟩ := hl2
      have nmat : ∀ {X : Hp} (j : J X) (sd : Int) (i : Nat), 0 ≤ sd → sd < 2 → i < ln.length → ∃ (q : Addr) (v : Int) (nm : List Int), atI [V.ref q0, V.ref q1] sd = some (V.ref q) ∧ X q = some (.lst (nm.map V.int)) ∧ atI (nm.map V.int) (i : Int) = some (V.int v) ∧ 0 ≤ v ∧ v < (n : Int) := fun {X} j sd i s0 s1 hi => by
        obtain ⟨ys, b1, b2, b3, b4, b5, b6, b7, b8, b9⟩ := j
        rcases (show sd = 0 ∨ sd = 1 by omega) with rfl | rfl
        · have hi' : i < (nm0 ln).length := by rw [fm.nm0]; exact hi
          have := lo _ (fm.nm0_mem (List.getElem_mem hi'))
          exact ⟨q0, _, nm0 ln, rfl, b8, at_map hi', this.1, this.2⟩
        · have hi' : i < (nm1 ln).length := by rw [fm.nm1]; exact hi
          have := lo _ (fm.nm1_mem (List.getElem_mem hi'))
          exact ⟨q1, _, nm1 ln, rfl, b9, at_map hi', this.1, this.2⟩
      have Js : ∀ {X : Hp} (j : J X) (i : Int) (v : Int), 0 ≤ i → i < (n : Int) → 0 ≤ v ∧ v < (n : Int) → ∃ ys : List Int, X D = some (.lst (ys.map V.int)) ∧ ixN (ys.map V.int).length i = some i.toNat ∧ J (upd X D (.lst ((ys.map V.int).set i.toNat (V.int v)))) := fun {X} j i v i0 i1 hv => by
        obtain ⟨ys, b1, b2, b3, b4, b5, b6, b7, b8, b9⟩ := j
        refine ⟨ys, b3, ixN_int i0 (by rw [List.length_map, b1]; exact i1), ys.set i.toNat v, by rw [List.length_set]; exact b1, set_rng b2 hv, ?_, b4.upd nDb nDc, fun a u ha h => ?_, ?_, ?_, ?_, ?_⟩
        · show upd X D _ D = _
          rw [upd_same, set_map]
        · rw [upd_ne (ne_of_none h hD)]
          exact b5 _ _ ha h
        · rw [upd_ne nlD]
          exact b6
        · rw [upd_ne npD]
          exact b7
        · show upd X D _ q0 = _
          rw [upd_ne n0D]
          exact b8
        · show upd X D _ q1 = _
          rw [upd_ne n1D]
          exact b9
      refine ⟨_, rfl, l, _, rfl, Or.inl (SqL.of hl2), _, rfl, (by rw [List.length_map]; have := fm.le4; omega), (by rw [List.length_map]; have := fm.le4; omega), ?_⟩
      rw [List.length_map]
      refine for_range (lo := 0) (n := ln.length) (fun i σ G' => ∃ v7 v8 v9 v10 : Option V, σ = [some (.ref b), some (.str wd), some (.ref l), some (.int (n : Int)), some (.ref D), some (.ref p), some (.int wy), v7, v8, v9, v10] ∧ J G') ⟨_, _, _, _, rfl, J2⟩ ?_ ?_
      · rintro i σ G' hi ⟨v7, v8, v9, v10, rfl, j⟩
        have i0 : (0 : Int) + (i : Int) = ((i : Nat) : Int) := by omega
        rw [i0]
        refine ⟨_, rfl, b, c, 2, rfl, by decide, by decide, Jb j, fun sd G3 s0 s1 B3 M3 => ?_⟩
        have j3 := Jd j B3 M3
        refine ⟨fun σ G' => ∃ (sd : Int) (v9 v10 : Option V), σ = [some (.ref b), some (.str wd), some (.ref l), some (.int (n : Int)), some (.ref D), some (.ref p), some (.int wy), some (.int (i : Int)), some (.int sd), v9, v10] ∧ J G' ∧ 0 ≤ sd ∧ sd < 2, ?_, ?_⟩
        · refine ⟨_, rfl, rfl, _, rfl, ?_⟩
          refine ite_b (fun c1 => ?_) (fun c1 => ?_)
          · have c1 := of_decide_eq_true c1
            injection c1 with c1
            exact ⟨_, rfl, wy, _, _, rfl, j3, by omega, by omega⟩
          · refine ⟨_, rfl, rfl, _, rfl, ?_⟩
            refine ite_b (fun c2 => ?_) (fun c2 => ?_)
            · have c2 := of_decide_eq_true c2
              injection c2 with c2
              exact ⟨_, rfl, wy, _, _, rfl, j3, by omega, by omega⟩
            · exact ⟨sd, _, _, rfl, j3, s0, s1⟩
        · rintro σ G4 ⟨sd, v9, v10, rfl, j4, s0, s1⟩
          obtain ⟨q, v, nm, g1, g2, g3, v0, v1⟩ := nmat j4 sd i s0 s1 hi
          obtain ⟨ys, y1, y2, y3⟩ := Js j4 ln[i] v (hlo i hi).1 (hlo i hi).2 ⟨v0, v1⟩
          obtain ⟨_, _, _, _, _, _, hl4, hp4, _⟩ := j4
          refine ⟨_, rfl, _, rfl, p, _, _, _, rfl, rfl, SqL.of hp4, g1, _, rfl, q, _, _, _, rfl, rfl, SqL.of g2, g3, ?_⟩
          refine ⟨_, rfl, _, rfl, _, rfl, l, _, _, _, rfl, rfl, SqL.of hl4, at_map hi, ?_⟩
          refine ⟨D, _, _, _, rfl, rfl, y1, y2, ?_⟩
          exact ⟨_, _, _, _, rfl, y3⟩
      · rintro σ G' ⟨v7, v8, v9, v10, rfl, j⟩
        refine ⟨fun σ G' => ∃ v7 v8 v9 v10 : Option V, σ = [some (.ref b), some (.str wd), some (.ref l), some (.int (n : Int)), some (.ref D), some (.ref p), some (.int wy), v7, v8, v9, v10] ∧ J G', ?_, ?_⟩
        · refine ⟨_, rfl, rfl, _, rfl, ?_⟩
          refine ite_b (fun c3 => ?_) (fun c3 => ?_)
          · refine ⟨_, rfl, b, c, 2, rfl, by decide, by decide, Jb j, fun fl G3 s0 s1 B3 M3 => ?_⟩
            have j3 := Jd j B3 M3
            have hl3 := j3
            obtain ⟨_, _, _, _, _, _, hl3, _⟩ := hl3
            refine ⟨_, rfl, l, _, rfl, Or.inl (SqL.of hl3), _, rfl, (by rw [List.length_map]; have := fm.le4; omega), (by rw [List.length_map]; have := fm.le4; omega), ?_⟩
            rw [List.length_map]
            refine for_range (lo := 0) (n := ln.length) (fun i σ G' => ∃ v7 v8 v10 : Option V, σ = [some (.ref b), some (.str wd), some (.ref l), some (.int (n : Int)), some (.ref D), some (.ref p), some (.int wy), v7, v8, some (.int fl), v10] ∧ J G') ⟨_, _, _, rfl, j3⟩ ?_ ?_
            · rintro i σ G' hi ⟨v7, v8, v10, rfl, j4⟩
              have i0 : (0 : Int) + (i : Int) = ((i : Nat) : Int) := by omega
              rw [i0]
              obtain ⟨q, v, nm, g1, g2, g3, v0, v1⟩ := nmat j4 fl i s0 s1 hi
              obtain ⟨ys, y1, y2, y3⟩ := Js j4 ln[i] v (hlo i hi).1 (hlo i hi).2 ⟨v0, v1⟩
              obtain ⟨_, _, _, _, _, _, hl4, hp4, _⟩ := j4
              refine ⟨_, rfl, _, rfl, p, _, _, _, rfl, rfl, SqL.of hp4, g1, _, rfl, q, _, _, _, rfl, rfl, SqL.of g2, g3, ?_⟩
              refine ⟨_, rfl, _, rfl, _, rfl, l, _, _, _, rfl, rfl, SqL.of hl4, at_map hi, ?_⟩
              refine ⟨D, _, _, _, rfl, rfl, y1, y2, ?_⟩
              exact ⟨_, _, _, rfl, y3⟩
            · rintro σ G' ⟨v7, v8, v10, rfl, j4⟩
              have n0 : (0 : Int) < (n : Int) := by have := hlo 0 fm.pos; omega
              refine ⟨_, rfl, _, rfl, b, c, n, rfl, n0, by omega, Jb j4, fun d G5 d0 d1 B5 M5 => ?_⟩
              have j5 := Jd j4 B5 M5
              have hl5 := j5
              obtain ⟨_, _, _, _, _, _, hl5, _⟩ := hl5
              refine ⟨_, rfl, _, rfl, _, rfl, _, rfl, l, _, rfl, Or.inl (SqL.of hl5), ?_⟩
              rw [List.length_map]
              refine ⟨b, c, _, rfl, by have := fm.pos; omega, by have := fm.le4; omega, B5, fun t G6 t0 t1 B6 M6 => ?_⟩
              have j6 := Jd j5 B6 M6
              have ht : t.toNat < ln.length := by omega
              have lt := hlo t.toNat ht
              obtain ⟨ys, y1, y2, y3⟩ := Js j6 ln[t.toNat] d lt.1 lt.2 ⟨d0, d1⟩
              obtain ⟨_, _, _, _, _, _, hl6, _⟩ := j6
              have g6 := at_int (xs := ln) t0 t1
              rw [getD_of_lt ht] at g6
              refine ⟨l, _, _, _, rfl, rfl, SqL.of hl6, g6, D, _, _, _, rfl, rfl, y1, y2, ?_⟩
              exact ⟨_, _, _, _, rfl, y3⟩
          · exact ⟨_, _, _, _, rfl, j⟩
        · rintro σ G' ⟨v7, v8, v9, v10, rfl, j⟩
          exact ⟨_, rfl, fin j⟩

end

section
variable {P : Program} {w : World} {K : PySem.W.Frag} {mg : Str → Option Value} {base : Heap} {A : Ad}
theorem ok_law_side_kept (T : Txt K mg A)  (g_law_names : Okd P w K mg base CX0 1 A.law_names P_law_names spNames) (g_side_of : Okd P w K mg base (L2N.CX P w) 4 A.side_of P_side_of (spSO K A)) (g_law_row : Okd P w K mg base CX0 2 A.law_row P_law_row spRowK) (g_law_whole : Okd P w K mg base CX0 1 A.law_whole P_law_whole spWhole) : Okd P w K mg base CX0 5 A.law_side_kept P_law_side_kept spSdK := by
  obtain ⟨fd, F⟩ := T.d_law_side_kept
  obtain ⟨fd_law_names, G_law_names, b_law_names⟩ := g_law_names
  obtain ⟨fd_side_of, G_side_of, b_side_of⟩ := g_side_of
  obtain ⟨fd_law_row, G_law_row, b_law_row⟩ := g_law_row
  obtain ⟨fd_law_whole, G_law_whole, b_law_whole⟩ := g_law_whole
  refine ⟨fd, F.ok sc_law_side_kept (fun vs H Q E h => ?_) (fun cdv A' outer s H vs Q E hr h => ?_), F.binds fun _ _ _ _ _ _ us hl => match us, hl with | [_, _, _], _ => rfl⟩
  · obtain ⟨a, l, xs, wd, ln, rfl, _⟩ := h
    rfl
  · obtain ⟨a, l, xs, wd, ln, rfl, ha, h64, hs, hl, hw, vd, k⟩ := h
    refine ⟨_, (pss_cons (ps_set (i := 3) sc_law_side_kept.nd rfl (Or.inl rfl) (pe_call G_law_names (hr.mono (by decide)) (by rfl) T.g_law_names T.k_law_names b_law_names .nil pass0 (pa_cons (pv 1) (pa_cons (pv 2) pa_nil))))
      (pss_cons (ps_setLc (i := 4) (own := [("x", 7)]) (tt := tYes) (by rfl) sc_law_side_kept.nd rfl rfl (sw_true rfl rfl rfl (by decide +kernel)) (pi_list (pv 2)) (blkOk_by (own := [("x", 7)]) (N := N_law_side_kept) (sc := defScope s_law_side_kept) (by decide +kernel)) (fun _ _ _ _ _ => (pg_name (i := 7) sc_law_side_kept.nd rfl (Or.inl rfl))) (fun _ _ _ _ _ => pts_nil) (fun _ _ _ _ _ => (pe_ix (ix_listK (K := K) rfl) (pv 0) (pv 7) (fun _ _ => rfl))))
      (pss_cons (ps_set (i := 5) sc_law_side_kept.nd rfl (Or.inl rfl) (pe_callTy call_list_of (by rfl) T.n_list (by decide +kernel) (pa_cons (pv 0) pa_nil)))
      (pss_cons (ps_set (i := 6) sc_law_side_kept.nd rfl (Or.inl rfl) (pe_callS G_side_of (hr.mono (by decide)) rfl T.g_side_of T.k_side_of b_side_of (fun σ => L2N.passAt L2N.takes0N σ) (pa_cons (pv 5) (pa_cons (pe_tup (pa_cons (pv 1) (pa_cons (pe_callTy call_tuple_of (by rfl) T.n_tuple (by decide +kernel) (pa_cons (pv 2) pa_nil)) pa_nil))) pa_nil))))
      (pss_cons (ps_if (pt_not (pt_val (pe_call G_law_row (hr.mono (by decide)) (by rfl) T.g_law_row T.k_law_row b_law_row .nil pass0 (pa_cons (pv 5) (pa_cons (pv 0) pa_nil))))) (pss_one (ps_ret pe_bl)) pss_nil)
      (pss_cons (ps_if (pt_cmpR (op_eqD hr.units) (pv 4) (pe_ix ix_list (pv 3) pe_int (fun _ _ => rfl)) (nomark _)) (pss_one (ps_ret (pe_call G_law_whole (hr.mono (by decide)) (by rfl) T.g_law_whole T.k_law_whole b_law_whole .nil pass0 (pa_cons (pv 6) (pa_cons pe_int pa_nil))))) pss_nil)
      (pss_cons (ps_if (pt_cmpR (op_eqD hr.units) (pv 4) (pe_ix ix_list (pv 3) pe_int (fun _ _ => rfl)) (nomark _)) (pss_one (ps_ret (pe_call G_law_whole (hr.mono (by decide)) (by rfl) T.g_law_whole T.k_law_whole b_law_whole .nil pass0 (pa_cons (pv 6) (pa_cons pe_int pa_nil))))) pss_nil)
      (pss_one (ps_ret (pe_cmpR op_isN (pv 6) pe_non (nomark _))))))))))), ?_⟩
    unfold ListI at ha hl
    have fm := vd.fm
    refine ⟨_, rfl, _, rfl, l, wd, ln, rfl, hl, fm, fun p q0 q1 H1 hp h0 h1 e1 a0 a1 a2 => ?_⟩
    have ha1 := e1 _ _ ha
    have hl1 := e1 _ _ hl
    refine ⟨_, rfl, l, rfl, ⟨_, SqL.of hl1⟩, fun D hD => lc_list (K := K) (a := l) (xs := ln.map V.int) (fun j H' => Ex H1 H' ∧ ListI H' D (shF xs (ln.take j))) ⟨Ex.new hD, upd_same⟩ (fun j H' _ q => SqL.of (q.1 _ _ hl1)) ?_ ?_⟩
    · rintro j y H' hj ⟨e, hd⟩
      obtain ⟨z, hz, rfl⟩ := int_at hj
      have hjl := (List.getElem?_eq_some_iff.mp hz).1
      have lz := vd.lo z (List.mem_of_getElem? hz)
      refine ⟨rfl, _, rfl, _, rfl, a, _, _, _, rfl, rfl, SqL.of (e _ _ ha1), at_int lz.1 lz.2, ?_⟩
      refine ⟨_, hd, small1000 (by unfold shF; rw [List.length_map, List.length_map, List.length_take]; have := fm.le4; omega), e.mut hD, ?_⟩
      show upd H' D _ D = _
      rw [upd_same]
      unfold shF
      rw [List.take_add_one, hz, List.map_append, List.map_append]
      rfl
    · rintro H2 ⟨e2, h2⟩
      rw [List.length_map, List.take_length] at h2
      refine ⟨_, rfl, a, _, rfl, Or.inl (SqL.of (e2 _ _ ha1)), fun q hq => ?_⟩
      have x3 := Ex.new (o := .lst (xs.map V.int)) hq
      refine ⟨_, rfl, _, rfl, _, rfl, l, _, rfl, Or.inl ⟨SqL.of (x3 _ _ (e2 _ _ hl1)), fun tt htt => ?_⟩⟩
      refine ⟨(by show 2 ≤ sizeLine; decide), fun ch hch => ?_⟩
      have y1 := Ex.new (o := .tup (ln.map V.int)) htt
      have y2 := Ex.new (o := .tup [.str wd, .ref tt]) hch
      have y12 := y1.trans y2
      refine ⟨q, ch, xs, wd, ln, rfl, y12 _ _ upd_same, h64, ⟨tt, upd_same, y2 _ _ upd_same⟩, hw, Nat.le_trans fm.le4 (by decide), (fun k hk => by rw [hs] at hk; cases hk), (fun _ hv => by rw [vd.is] at hv; cases hv), fun _ _ H5 e5 => ?_⟩
      have z5 := y12.trans e5
      have z25 := (e2.trans x3).trans z5
      refine ⟨_, rfl, _, rfl, q, a, xs, rfl, z5 _ _ upd_same, z25 _ _ ha1, h64, ?_⟩
      refine ⟨_, rfl, iteF ?_⟩
      have hD5 : H5 D = some (.lst ((shF xs ln).map V.int)) := z5 _ _ (x3 _ _ h2)
      have hp5 := z25 _ _ a0
      refine ⟨_, rfl, _, rfl, p, _, _, _, rfl, rfl, SqL.of hp5, rfl, dI (shF xs ln), dI (nm0 ln), dp_I hD5, dp_I (z25 _ _ a1), shaped_I _, shaped_I _, ?_⟩
      rw [eqv_dI]
      refine ⟨_, rfl, ?_⟩
      by_cases c0 : shF xs ln = nm0 ln
      · have sv : sideV xs ln = .int 0 := by unfold sideV; rw [if_pos c0]
        rw [decide_eq_true c0, sv]
        refine iteT ?_
        exact ⟨_, rfl, 0, 0, rfl, k H5 (e1.trans z25)⟩
      rw [decide_eq_false c0]
      refine iteF ?_
      refine ⟨_, rfl, _, rfl, p, _, _, _, rfl, rfl, SqL.of hp5, rfl, dI (shF xs ln), dI (nm1 ln), dp_I hD5, dp_I (z25 _ _ a2), shaped_I _, shaped_I _, ?_⟩
      rw [eqv_dI]
      refine ⟨_, rfl, ?_⟩
      by_cases c1 : shF xs ln = nm1 ln
      · have sv : sideV xs ln = .int 1 := by unfold sideV; rw [if_neg c0, if_pos c1]
        rw [decide_eq_true c1, sv]
        refine iteT ?_
        exact ⟨_, rfl, 1, 1, rfl, k H5 (e1.trans z25)⟩
      have sv : sideV xs ln = .non := by unfold sideV; rw [if_neg c0, if_neg c1]
      rw [decide_eq_false c1, sv]
      refine iteF ?_
      exact ⟨_, rfl, rfl, k H5 (e1.trans z25)⟩

end

section
variable {P : Program} {w : World} {K : PySem.W.Frag} {mg : Str → Option Value} {base : Heap} {A : Ad}
theorem ok_law_bent (T : Txt K mg A)  (g_law_draw : Okd P w K mg base CX0 2 A.law_draw P_law_draw spDraw) : Okd P w K mg base CX0 3 A.law_bent P_law_bent spBent := by
  obtain ⟨fd, F⟩ := T.d_law_bent
  obtain ⟨fd_law_draw, G_law_draw, b_law_draw⟩ := g_law_draw
  refine ⟨fd, F.ok sc_law_bent (fun vs H Q E h => ?_) (fun cdv A' outer s H vs Q E hr h => ?_), F.binds fun _ _ _ _ _ _ us hl => match us, hl with | [_, _, _, _], _ => rfl⟩
  · obtain ⟨b, c, l, wd, ln, n, rfl, _⟩ := h
    rfl
  · obtain ⟨b, c, l, wd, ln, n, rfl, B, hl, nlb, fm, n64, k⟩ := h
    refine ⟨_, (pss_cons (ps_set (i := 4) sc_law_bent.nd rfl (Or.inl rfl) (pe_call G_law_draw (hr.mono (by decide)) (by rfl) T.g_law_draw T.k_law_draw b_law_draw .nil pass0 (pa_cons (pv 0) (pa_cons pe_int pa_nil))))
      (pss_cons (ps_set (i := 5) sc_law_bent.nd rfl (Or.inl rfl) (pe_callTy call_list_of (by rfl) T.n_list (by decide +kernel) (pa_cons (pv 2) pa_nil)))
      (pss_cons (ps_set (i := 6) sc_law_bent.nd rfl (Or.inl rfl) (pe_call G_law_draw (hr.mono (by decide)) (by rfl) T.g_law_draw T.k_law_draw b_law_draw .nil pass0 (pa_cons (pv 0) (pa_cons (pe_callB call_len_seq (by rfl) T.n_len PySem.boot_len (pa_cons (pv 5) pa_nil)) pa_nil))))
      (pss_cut (ps_if (pt_cmpR op_eq (pv 4) pe_int (nomark _)) (pss_cons (ps_set (i := 7) sc_law_bent.nd rfl (Or.inl rfl) (pe_lst (pa_cons pe_str (pa_cons pe_str (pa_cons pe_str (pa_cons pe_str (pa_cons pe_str (pa_cons pe_str (pa_cons pe_str pa_nil)))))))))
      (pss_one (ps_set (i := 1) sc_law_bent.nd rfl (Or.inl rfl) (pe_ix ix_list (pv 7) (pe_call G_law_draw (hr.mono (by decide)) (by rfl) T.g_law_draw T.k_law_draw b_law_draw .nil pass0 (pa_cons (pv 0) (pa_cons pe_int pa_nil))) (fun _ _ => rfl))))) (pss_one (ps_if (pt_cmpR op_eq (pv 4) pe_int (nomark _)) (pss_one (ps_expr (pe_bm PySem.F.plainAttrs_list PySem.F.slot_list_pop PySem.F.type_list_pop mt_popAt (pv 5) (pa_cons (pv 6) pa_nil)))) (pss_one (ps_if (pt_cmpR op_eq (pv 4) pe_int (nomark _)) (pss_one (ps_expr (pe_bm PySem.F.plainAttrs_list PySem.F.slot_list_insert PySem.F.type_list_insert mt_insert (pv 5) (pa_cons (pv 6) (pa_cons (pe_call G_law_draw (hr.mono (by decide)) (by rfl) T.g_law_draw T.k_law_draw b_law_draw .nil pass0 (pa_cons (pv 0) (pa_cons (pe_op op_add (pv 3) pe_int) pa_nil))) pa_nil))))) (pss_one (ps_if (pt_cmpR op_eq (pv 4) pe_int (nomark _)) (pss_cons (ps_set (i := 8) sc_law_bent.nd rfl (Or.inl rfl) (pe_lst (pa_cons (pe_un un_neg pe_int) (pa_cons (pv 3) (pa_cons (pe_op op_sub (pe_op op_add (pv 3) (pe_call G_law_draw (hr.mono (by decide)) (by rfl) T.g_law_draw T.k_law_draw b_law_draw .nil pass0 (pa_cons (pv 0) (pa_cons pe_int pa_nil)))) pe_int) (pa_cons (pe_op op_sub pe_int (pv 3)) (pa_cons (pe_op op_pow pe_int pe_int) pa_nil)))))))
      (pss_cons (ps_expr (pe_bm PySem.F.plainAttrs_list PySem.F.slot_list_append PySem.F.type_list_append mt_append (pv 8) (pa_cons (pe_ix ix_list (pv 5) (pe_call G_law_draw (hr.mono (by decide)) (by rfl) T.g_law_draw T.k_law_draw b_law_draw .nil pass0 (pa_cons (pv 0) (pa_cons (pe_callB call_len_seq (by rfl) T.n_len PySem.boot_len (pa_cons (pv 5) pa_nil)) pa_nil))) (fun _ _ => rfl)) pa_nil)))
      (pss_one (ps_asg (pe_ix ix_list (pv 8) (pe_call G_law_draw (hr.mono (by decide)) (by rfl) T.g_law_draw T.k_law_draw b_law_draw .nil pass0 (pa_cons (pv 0) (pa_cons pe_int pa_nil))) (fun _ _ => rfl)) (pg_sub (pv 5) (pv 6) set_list))))) (pss_one (ps_if (pt_cmpR op_eq (pv 4) pe_int (nomark _)) (pss_cons (ps_set (i := 9) sc_law_bent.nd rfl (Or.inl rfl) (pe_call G_law_draw (hr.mono (by decide)) (by rfl) T.g_law_draw T.k_law_draw b_law_draw .nil pass0 (pa_cons (pv 0) (pa_cons (pe_callB call_len_seq (by rfl) T.n_len PySem.boot_len (pa_cons (pv 5) pa_nil)) pa_nil))))
      (pss_cons (ps_set (i := 10) sc_law_bent.nd rfl (Or.inl rfl) (pe_ix ix_list (pv 5) (pv 6) (fun _ _ => rfl)))
      (pss_cons (ps_asg (pe_ix ix_list (pv 5) (pv 9) (fun _ _ => rfl)) (pg_sub (pv 5) (pv 6) set_list))
      (pss_one (ps_asg (pv 10) (pg_sub (pv 5) (pv 9) set_list)))))) (pss_one (ps_set (i := 5) sc_law_bent.nd rfl (Or.inl rfl) (pe_revL (pv 5)))))))))))))
      (pss_one (ps_ret (pe_lst (pa_cons (pv 1) (pa_cons (pv 5) pa_nil))))))))), ?_⟩
    unfold ListI at hl
    have le4 := fm.le4
    have pos := fm.pos
    have w3 := fm.w3
    refine ⟨_, rfl, b, c, 6, rfl, by decide, by decide, B, fun wy G1 w0 w6 B1 M1 => ?_⟩
    have hl1 := M1 _ _ nlb hl
    refine ⟨_, rfl, l, _, rfl, Or.inl (SqL.of hl1), fun p hp => ?_⟩
    have npb := B1.ne hp
    have npc := B1.nec hp
    have hp0 : H p = none := M1.free npb hp
    have hx2 : upd G1 p (.lst (ln.map V.int)) p = some (.lst (ln.map V.int)) := upd_same
    have B2 := B1.upd (o := .lst (ln.map V.int)) npb npc
    have M2 : Mut b H (upd G1 p (.lst (ln.map V.int))) := M1.new hp
    generalize upd G1 p (.lst (ln.map V.int)) = G2 at *
    refine ⟨_, rfl, _, rfl, p, _, rfl, Or.inl (SqL.of hx2), ?_⟩
    rw [List.length_map]
    refine ⟨b, c, _, rfl, by omega, by omega, B2, fun at_ G3 t0 t1 B3 M3 => ?_⟩
    have hx3 := M3 _ _ npb hx2
    have M03 := M2.trans M3
    obtain ⟨t, rfl⟩ := Int.eq_ofNat_of_zero_le t0
    have ht : t < ln.length := by omega
    let J : V → St → Hp → Prop := fun w2 σ G => ∃ (q : Addr) (ys : List Int) (v7 v8 v9 v10 : Option V), σ = [some (.ref b), some w2, some (.ref l), some (.int (n : Int)), some (.int wy), some (.ref q), some (.int (t : Int)), v7, v8, v9, v10] ∧ H q = none ∧ ListI G q ys ∧ ys.length ≤ 5 ∧ Box G b c ∧ Mut b H G
    refine ⟨fun σ G => ∃ w2 : Str, w2 ∈ words7 ∧ J (.str w2) σ G, ?_, ?_⟩
    · refine ⟨_, rfl, rfl, _, rfl, ?_⟩
      refine ite_b (fun c0 => ?_) (fun c0 => ?_)
      · refine ⟨(by show 7 ≤ sizeLine; decide), fun r hr => ?_⟩
        have er := Ex.new (o := .lst [V.str "tie", V.str "move", V.str "cross", V.str "ties", V.str "", V.str "Move", V.str "loop"]) hr
        have nrb := B3.ne hr
        have nrp : r ≠ p := Ne.symm (ne_of_none hx3 hr)
        refine ⟨_, rfl, _, rfl, b, c, 7, rfl, by decide, by decide, B3.ex er, fun d G5 d0 d1 B5 M5 => ?_⟩
        obtain ⟨w2, hw2, at2⟩ := word_at d0 d1
        refine ⟨r, _, _, _, rfl, rfl, SqL.of (M5 _ _ nrb upd_same), at2, ?_⟩
        exact ⟨w2, hw2, p, ln, _, _, _, _, rfl, hp0, M5 _ _ npb (er _ _ hx3), by omega, B5, (M03.trans (Mut.of_ex er)).trans M5⟩
      refine ⟨_, rfl, rfl, _, rfl, ?_⟩
      refine ite_b (fun c1 => ?_) (fun c1 => ?_)
      · refine ⟨_, rfl, Or.inl ⟨rfl, _, SqL.of hx3⟩, _, rfl, _, _, _, t, _, rfl, rfl, hx3, by omega, by omega, (ixN_seq (Evl.ixN_nat (by rw [List.length_map]; exact ht))).1, ix_map ht, ?_⟩
        rw [map_erase]
        exact ⟨wd, w37 w3, p, ln.eraseIdx t, _, _, _, _, rfl, hp0, upd_same, by rw [List.length_eraseIdx_of_lt ht]; omega, B3.upd npb npc, M03.mut_upd hp0⟩
      refine ⟨_, rfl, rfl, _, rfl, ?_⟩
      refine ite_b (fun c2 => ?_) (fun c2 => ?_)
      · refine ⟨_, rfl, Or.inl ⟨rfl, _, SqL.of hx3⟩, _, rfl, _, rfl, ?_⟩
        walk_at "r"
        refine ⟨b, c, _, rfl, by omega, by omega, B3, fun d G4 d0 d1 B4 M4 => ?_⟩
        refine ⟨p, _, _, _, rfl, rfl, M4 _ _ npb hx3, small1000 (by rw [List.length_map]; omega), by omega, by omega, ?_⟩
        have em : (ln.map V.int).take (t : Int).toNat ++ [V.int d] ++ (ln.map V.int).drop (t : Int).toNat = (ln.take t ++ [d] ++ ln.drop t).map V.int := by
          rw [List.map_append, List.map_append, List.map_take, List.map_drop, Int.toNat_natCast]
          rfl
        rw [em]
        exact ⟨wd, w37 w3, p, ln.take t ++ [d] ++ ln.drop t, _, _, _, _, rfl, hp0, upd_same, by rw [List.length_append, List.length_append, List.length_take, List.length_drop]; simp; omega, B4.upd npb npc, (M03.trans M4).mut_upd hp0⟩
      refine ⟨_, rfl, rfl, _, rfl, ?_⟩
      refine ite_b (fun c3 => ?_) (fun c3 => ?_)
      · walk_at "r"
        refine ⟨b, c, 9, rfl, by decide, by decide, B3, fun d G4 d0 d1 B4 M4 => ?_⟩
        have hx4 := M4 _ _ npb hx3
        walk_at "r"
        refine ⟨(by show 5 ≤ sizeLine; decide), fun m hm => ?_⟩
        have nmb := B4.ne hm
        have nmc := B4.nec hm
        have nmp : m ≠ p := Ne.symm (ne_of_none hx4 hm)
        have hm0 : H m = none := (M03.trans M4).free nmb hm
        refine ⟨_, rfl, Or.inl ⟨rfl, _, SqL.of upd_same⟩, _, rfl, _, rfl, _, rfl, p, _, rfl, Or.inl (SqL.of (by rw [upd_ne (Ne.symm nmp)]; exact hx4)), ?_⟩
        rw [List.length_map]
        refine ⟨b, c, _, rfl, by omega, by omega, B4.upd nmb nmc, fun u G5 u0 u1 B5 M5 => ?_⟩
        have hx5 : G5 p = some (.lst (ln.map V.int)) := M5 _ _ npb (by rw [upd_ne (Ne.symm nmp)]; exact hx4)
        obtain ⟨u, rfl⟩ := Int.eq_ofNat_of_zero_le u0
        have hu : u < ln.length := by omega
        refine ⟨p, _, _, _, rfl, rfl, SqL.of hx5, at_map hu, ?_⟩
        refine ⟨m, _, _, rfl, rfl, M5 _ _ nmb upd_same, small1000 (by show 5 ≤ 1000; decide), ?_⟩
        have M25 : Mut b H G5 := ((M03.trans M4).new hm).trans M5
        have M26 : ∀ o, Mut b H (upd G5 m o) := fun o => M25.mut_upd hm0
        have B6 : ∀ o, Box (upd G5 m o) b c := fun o => B5.upd nmb nmc
        have hx6 : ∀ o, upd G5 m o p = some (.lst (ln.map V.int)) := fun o => by rw [upd_ne (Ne.symm nmp)]; exact hx5
        refine ⟨_, rfl, _, rfl, b, c, 6, rfl, by decide, by decide, B6 _, fun v G7 v0 v1 B7 M7 => ?_⟩
        refine ⟨m, [-1, (n : Int), (n : Int) + d - 4, 0 - (n : Int), 10 ^ (20 : Int).toNat, ln[u]].map V.int, _, _, rfl, rfl, SqL.of (M7 _ _ nmb upd_same), at_int v0 (by show v < 6; exact v1), ?_⟩
        refine ⟨_, rfl, _, rfl, p, _, _, t, rfl, rfl, M7 _ _ npb (hx6 _), Evl.ixN_nat (by rw [List.length_map]; exact ht), ?_⟩
        rw [set_map]
        exact ⟨wd, w37 w3, p, ln.set t _, _, _, _, _, rfl, hp0, upd_same, by rw [List.length_set]; omega, B7.upd npb npc, ((M26 _).trans M7).mut_upd hp0⟩
      refine ⟨_, rfl, rfl, _, rfl, ?_⟩
      refine ite_b (fun c4 => ?_) (fun c4 => ?_)
      · refine ⟨_, rfl, _, rfl, p, _, rfl, Or.inl (SqL.of hx3), ?_⟩
        rw [List.length_map]
        refine ⟨b, c, _, rfl, by omega, by omega, B3, fun u G4 u0 u1 B4 M4 => ?_⟩
        have hx4 := M4 _ _ npb hx3
        obtain ⟨u, rfl⟩ := Int.eq_ofNat_of_zero_le u0
        have hu : u < ln.length := by omega
        refine ⟨_, rfl, _, rfl, p, _, _, _, rfl, rfl, SqL.of hx4, at_map ht, ?_⟩
        refine ⟨_, rfl, _, rfl, p, _, _, _, rfl, rfl, SqL.of hx4, at_map hu, ?_⟩
        refine ⟨_, rfl, _, rfl, p, _, _, t, rfl, rfl, hx4, Evl.ixN_nat (by rw [List.length_map]; exact ht), ?_⟩
        rw [set_map]
        refine ⟨_, rfl, _, rfl, _, rfl, p, _, _, u, rfl, rfl, upd_same, Evl.ixN_nat (by rw [List.length_map, List.length_set]; exact hu), ?_⟩
        rw [set_map]
        exact ⟨wd, w37 w3, p, (ln.set t ln[u]).set u ln[t], _, _, _, _, rfl, hp0, upd_same, by rw [List.length_set, List.length_set]; omega, (B4.upd npb npc).upd npb npc, ((M03.trans M4).mut_upd hp0).mut_upd hp0⟩
      · refine ⟨_, rfl, p, _, rfl, SqL.of hx3, fun r hr => ?_⟩
        rw [← List.map_reverse]
        have nrb := B3.ne hr
        have nrc := B3.nec hr
        exact ⟨wd, w37 w3, r, ln.reverse, _, _, _, _, rfl, M03.free nrb hr, upd_same, by rw [List.length_reverse]; omega, B3.upd nrb nrc, M03.new hr⟩
    · rintro σ G ⟨w2, hw2, q, ys, v7, v8, v9, v10, rfl, hq, hy, h5, BG, MG⟩
      have nqb := B.ne hq
      refine ⟨_, rfl, _, rfl, (by show 2 ≤ sizeLine; decide), fun r hr => ?_⟩
      have nrb := BG.ne hr
      have nrc := BG.nec hr
      have er := Ex.new (o := .lst [.str w2, .ref q]) hr
      exact k r q w2 ys _ (MG.free nrb hr) hq upd_same (er _ _ hy) hw2 h5 (BG.upd nrb nrc) (MG.new hr)

end

section
variable {P : Program} {w : World} {K : PySem.W.Frag} {mg : Str → Option Value} {base : Heap} {A : Ad}
theorem ok_law_refused (T : Txt K mg A)  (g_side_of : Okd P w K mg base (L2N.CX P w) 4 A.side_of P_side_of (spSO K A)) (g_law_draw : Okd P w K mg base CX0 2 A.law_draw P_law_draw spDraw) (h_law_whole : Okh P w K mg base CX0 1 A.law_whole P_law_whole spWhole) : Okd P w K mg base CX0 6 A.law_refused P_law_refused spRf := by
  obtain ⟨fd, F⟩ := T.d_law_refused
  obtain ⟨fd_side_of, G_side_of, b_side_of⟩ := g_side_of
  obtain ⟨fd_law_draw, G_law_draw, b_law_draw⟩ := g_law_draw
  obtain ⟨fdh_law_whole, H_law_whole, hb_law_whole⟩ := h_law_whole
  refine ⟨fd, F.ok sc_law_refused (fun vs H Q E h => ?_) (fun cdv A' outer s H vs Q E hr h => ?_), F.binds fun _ _ _ _ _ _ us hl => match us, hl with | [_, _, _, _], _ => rfl⟩
  · obtain ⟨b, c, a, l, xs, wd, ln, rfl, _⟩ := h
    rfl
  · obtain ⟨b, c, a, l, xs, wd, ln, rfl, B, ha, nab, h64, hs, hl, nlb, hw, h5, hv, k⟩ := h
    refine ⟨_, (pss_cons (ps_set (i := 4) sc_law_refused.nd rfl (Or.inr rfl) (pe_callB call_len_seq (by rfl) T.n_len PySem.boot_len (pa_cons (pv 1) pa_nil)))
      (pss_cons (ps_set (i := 5) sc_law_refused.nd rfl (Or.inl rfl) pe_int)
      (pss_cons (L2N.ps_try_as (i := 6) rfl rfl sc_law_refused.nd rfl rfl ⟨rfl, by decide, .inl T.e_InvalidChange.g⟩ L2N.takes0N (fun W pn xe tk _ => (pss_one (ps_expr (pe_callS G_side_of (hr.mono (by decide)) rfl T.g_side_of T.k_side_of b_side_of (fun σ => L2N.passAt tk σ) (pa_cons (pe_callTy (call_list_ofK (K := K) rfl) (by rfl) T.n_list (by decide +kernel) (pa_cons (pv 1) pa_nil)) (pa_cons (pe_tup (pa_cons (pv 2) (pa_cons (pe_callTy (call_tuple_ofK (K := K) rfl) (by rfl) T.n_tuple (by decide +kernel) (pa_cons (pv 3) pa_nil)) pa_nil))) pa_nil)))))) (fun a oe cls d pn hz hf => (pss_one (ps_set (i := 5) sc_law_refused.nd rfl (Or.inl rfl) (pe_op op_add (pv 5) (pe_callTy call_int1 (by rfl) T.n_int (by decide +kernel) (pa_cons (pe_and (pe_callB (call_isS2 (K := K) rfl hz.zc hf) (by rfl) T.n_isinstance (by decide +kernel) (pa_cons (pv 6) (pa_cons (pe_glob (v := .ref A.MendError) rfl T.e_MendError.g rfl) pa_nil))) (pe_one (pe_not (pe_callB (call_isS2 (K := K) rfl hz.zc hf) (by rfl) T.n_isinstance (by decide +kernel) (pa_cons (pv 6) (pa_cons (pe_glob (v := .ref A.InvalidImage) rfl T.e_InvalidImage.g rfl) pa_nil)))))) pa_nil)))))))
      (pss_cons (ps_if (pt_cmpR op_eq (pv 4) pe_int (nomark _)) (pss_one (ps_ret (pe_cmpR op_eq (pv 5) pe_int (nomark _)))) pss_nil)
      (pss_cons (ps_set (i := 7) sc_law_refused.nd rfl (Or.inr rfl) (pe_callTy call_list_of (by rfl) T.n_list (by decide +kernel) (pa_cons (pv 1) pa_nil)))
      (pss_cons (ps_for PassesOwn.never rfl (pi_range1 (by rfl) T.n_range (pa_cons (pe_op op_add pe_int (pe_call G_law_draw (hr.mono (by decide)) (by rfl) T.g_law_draw T.k_law_draw b_law_draw .nil pass0 (pa_cons (pv 0) (pa_cons pe_int pa_nil)))) pa_nil)) (pg_name (i := 8) sc_law_refused.nd rfl (Or.inl rfl)) (pss_cons (ps_set (i := 9) sc_law_refused.nd rfl (Or.inl rfl) (pe_lst (pa_cons (pe_un un_neg pe_int) (pa_cons (pv 4) (pa_cons (pe_op op_sub pe_int (pv 4)) (pa_cons (pe_op op_add (pv 4) (pe_call G_law_draw (hr.mono (by decide)) (by rfl) T.g_law_draw T.k_law_draw b_law_draw .nil pass0 (pa_cons (pv 0) (pa_cons pe_int pa_nil)))) (pa_cons (pe_op op_pow pe_int pe_int) pa_nil)))))))
      (pss_one (ps_asg (pe_ix ix_list (pv 9) (pe_call G_law_draw (hr.mono (by decide)) (by rfl) T.g_law_draw T.k_law_draw b_law_draw .nil pass0 (pa_cons (pv 0) (pa_cons pe_int pa_nil))) (fun _ _ => rfl)) (pg_sub (pv 7) (pe_call G_law_draw (hr.mono (by decide)) (by rfl) T.g_law_draw T.k_law_draw b_law_draw .nil pass0 (pa_cons (pv 0) (pa_cons (pv 4) pa_nil))) set_list)))))
      (pss_cons (ps_set (i := 10) sc_law_refused.nd rfl (Or.inl rfl) (pe_ix ix_list (pe_lc (own := [("x", 11)]) (tt := _) (by rfl) sc_law_refused.nd (pi_range1 (by rfl) T.n_range (pa_cons (pv 4) pa_nil)) (blkOk_by (own := [("x", 11)]) (N := N_law_refused) (sc := defScope s_law_refused) (by decide +kernel)) (fun _ _ _ _ _ => (pg_name (i := 11) sc_law_refused.nd rfl (Or.inl rfl))) (fun _ _ _ _ _ => (pts_one (PW.pt (pw_or (pt_cmpR op_lt (pe_ix (ix_listK (K := K) rfl) (pv 7) (pv 11) (fun _ _ => rfl)) pe_int (nomark _)) (pw_or1 (pt_cmpR op_ge (pe_ix (ix_listK (K := K) rfl) (pv 7) (pv 11) (fun _ _ => rfl)) (pv 4) (nomark _))))))) (fun _ _ _ _ _ => (pv 11))) pe_int (fun _ _ => rfl)))
      (pss_cons (L2N.ps_try_as (i := 6) rfl rfl sc_law_refused.nd rfl rfl ⟨rfl, by decide, .inl T.e_InvalidImage.g⟩ L2N.takes0N (fun W pn xe tk _ => (pss_one (ps_expr (pe_callS G_side_of (hr.mono (by decide)) rfl T.g_side_of T.k_side_of b_side_of (fun σ => L2N.passAt tk σ) (pa_cons (pe_callTy (call_list_ofK (K := K) rfl) (by rfl) T.n_list (by decide +kernel) (pa_cons (pv 7) pa_nil)) (pa_cons (pe_tup (pa_cons (pv 2) (pa_cons (pe_callTy (call_tuple_ofK (K := K) rfl) (by rfl) T.n_tuple (by decide +kernel) (pa_cons (pv 3) pa_nil)) pa_nil))) pa_nil)))))) (fun a oe cls d pn hz hf => (pss_one (ps_set (i := 5) sc_law_refused.nd rfl (Or.inl rfl) (pe_op op_add (pv 5) (pe_callTy call_int1 (by rfl) T.n_int (by decide +kernel) (pa_cons (pe_and (L2H.pe_callH H_law_whole (L2H.roomH_mark (hr.mono (by decide)) _) (hot_suite hz hf) (by rfl) T.g_law_whole T.k_law_whole hb_law_whole (passH0 (fun _ => E0)) (pa_cons (pe_xf T.e_InvalidImage.xfc T.f_InvalidImage.nf hz.zc hf (pv 6)) (pa_cons (pv 10) pa_nil))) (pe_one (pe_callB (call_isS2 (K := K) rfl hz.zc hf) (by rfl) T.n_isinstance (by decide +kernel) (pa_cons (pv 6) (pa_cons (pe_glob (v := .ref A.MendError) rfl T.e_MendError.g rfl) pa_nil))))) pa_nil)))))))
      (pss_one (ps_ret (pe_cmpR op_eq (pv 5) pe_int (nomark _)))))))))))), ?_⟩
    unfold ListI at ha hl
    refine ⟨_, rfl, a, _, rfl, Or.inl (SqL.of ha), ?_⟩
    rw [List.length_map]
    walk_at "r"
    refine ⟨a, _, rfl, Or.inl (SqL.of ha), fun q hq => ?_⟩
    have x0 := Ex.new (o := .lst (xs.map V.int)) hq
    refine ⟨_, rfl, _, rfl, l, _, rfl, Or.inl ⟨SqL.of (x0 _ _ hl), fun tt htt => ?_⟩⟩
    refine ⟨(by show 2 ≤ sizeLine; decide), fun ch hch => ?_⟩
    have y1 := Ex.new (o := .tup (ln.map V.int)) htt
    have y2 := Ex.new (o := .tup [.str wd, .ref tt]) hch
    have y12 := y1.trans y2
    refine ⟨q, ch, xs, wd, ln, rfl, y12 _ _ upd_same, h64, ⟨tt, upd_same, y2 _ _ upd_same⟩, hw, h5, (fun k hk => by rw [hs] at hk; cases hk), (fun _ _ H1 e1 => ?_), fun _ hv2 => by rw [hv] at hv2; cases hv2⟩
    have eH := (x0.trans y12).trans e1
    refine ⟨true, T.e_InvalidChange.exm, fun _ a0 ha0 => ?_, fun z => (nomatch z)⟩
    have xC := T.e_InvalidChange.exc T.cn T.ct
    refine ⟨_, rfl, _, rfl, A.InvalidChange, _, _, true, rfl, rfl, Or.inl rfl, xC, ClsV.own _, T.e_InvalidChange.kit_base T.e_MendError (ne_ix T.nd 3 0 rfl rfl (by decide)), _, rfl, iteT ?_⟩
    refine ⟨_, rfl, A.InvalidChange, _, _, false, rfl, rfl, Or.inl rfl, xC, ClsV.own _, T.e_InvalidChange.kit_ne T.e_InvalidImage (ne_ix T.nd 3 1 rfl rfl (by decide)) (ne_ix T.nd 0 1 rfl rfl (by decide)), ?_⟩
    refine ⟨_, rfl, Or.inr ⟨_, rfl, ?_⟩⟩
    walk_at "r"
    refine ite_b (fun c0 => ?_) (fun c0 => ?_)
    · refine ⟨_, rfl, rfl, ?_⟩
      exact k H1 (B.ex eH) (Mut.of_ex eH)
    have n0 : (0 : Int) < (xs.length : Int) := by
      have c0 := of_decide_eq_false c0
      have : xs.length ≠ 0 := fun z => c0 (by rw [z]; rfl)
      omega
    have ha1 := eH _ _ ha
    have hl1 := eH _ _ hl
    have B1 := B.ex eH
    refine ⟨_, rfl, a, _, rfl, Or.inl (SqL.of ha1), fun p hp => ?_⟩
    have npb := B1.ne hp
    have npc := B1.nec hp
    have hp0 : H p = none := back_none eH hp
    have hP : upd H1 p (.lst (xs.map V.int)) p = some (.lst (xs.map V.int)) := upd_same
    have B2 := B1.upd (o := .lst (xs.map V.int)) npb npc
    have M2 : Mut b H (upd H1 p (.lst (xs.map V.int))) := (Mut.of_ex eH).new hp
    generalize upd H1 p (.lst (xs.map V.int)) = H2 at *
    refine ⟨_, rfl, b, c, 2, rfl, by decide, by decide, B2, fun d H3 d0 d1 B3 M3 => ?_⟩
    refine ⟨_, _, rfl, rfl, _, rfl, by omega, by omega, ?_⟩
    refine for_range (lo := 0) (n := (1 + d).toNat) (fun i σ G => ∃ (ys : List Int) (v8 v9 : Option V), σ = [some (.ref b), some (.ref a), some (.str wd), some (.ref l), some (.int (xs.length : Int)), some (.int 1), none, some (.ref p), v8, v9, none, none] ∧ ys.length = xs.length ∧ ListI G p ys ∧ (0 < i → strayI ys ≠ none) ∧ Box G b c ∧ Mut b H G) ⟨xs, _, _, rfl, rfl, M3 _ _ npb hP, (fun z => absurd z (by decide)), B3, M2.trans M3⟩ ?_ ?_
    · rintro i σ G hi ⟨ys, v8, v9, rfl, hyl, hy, hst, BG, MG⟩
      walk_at "r"
      refine ⟨b, c, 50, rfl, by decide, by decide, BG, fun e G1 e0 e1 BG1 MG1 => ?_⟩
      walk_at "r"
      refine ⟨(by show 5 ≤ sizeLine; decide), fun m hm => ?_⟩
      have nmb := BG1.ne hm
      have nmc := BG1.nec hm
      have hy1 := MG1 _ _ npb hy
      have nmp : m ≠ p := Ne.symm (ne_of_none hy1 hm)
      refine ⟨_, rfl, _, rfl, b, c, 5, rfl, by decide, by decide, BG1.upd nmb nmc, fun t G2 t0 t1 BG2 MG2 => ?_⟩
      have hy2 : G2 p = some (.lst (ys.map V.int)) := MG2 _ _ npb (by rw [upd_ne (Ne.symm nmp)]; exact hy1)
      refine ⟨m, [-1, (xs.length : Int), 0 - (xs.length : Int), (xs.length : Int) + e, 10 ^ (20 : Int).toNat].map V.int, _, _, rfl, rfl, SqL.of (MG2 _ _ nmb upd_same), at_int t0 (by show t < 5; exact t1), ?_⟩
      have vb := menu_bad n0 e0 t0 t1 (by omega)
      generalize [-1, (xs.length : Int), 0 - (xs.length : Int), (xs.length : Int) + e, 10 ^ (20 : Int).toNat].getD t.toNat 0 = v at *
      refine ⟨_, rfl, _, rfl, _, rfl, b, c, _, rfl, n0, by omega, BG2, fun u G3 u0 u1 BG3 MG3 => ?_⟩
      have hy3 := MG3 _ _ npb hy2
      obtain ⟨u, rfl⟩ := Int.eq_ofNat_of_zero_le u0
      refine ⟨p, _, _, u, rfl, rfl, hy3, Evl.ixN_nat (by rw [List.length_map]; omega), ?_⟩
      rw [set_map]
      have M03 := ((((MG.trans MG1).new (o := .lst ([-1, (xs.length : Int), 0 - (xs.length : Int), (xs.length : Int) + e, 10 ^ (20 : Int).toNat].map V.int)) hm).trans MG2).trans MG3)
      exact ⟨ys.set u v, _, _, rfl, by rw [List.length_set]; exact hyl, upd_same, fun _ => stray_set (by omega) (by rw [hyl]; exact vb), BG3.upd npb npc, M03.mut_upd hp0⟩
    · rintro σ G ⟨ys, v8, v9, rfl, hyl, hy, hst, BG, MG⟩
      have hst := hst (by omega)
      cases hk : strayI ys with
      | none => exact absurd hk hst
      | some due =>
      obtain ⟨rest, hfl⟩ := filter_first hk
      rw [hyl] at hfl
      refine ⟨_, rfl, _, rfl, by omega, by omega, fun D hD => lc_range (lo := 0) (n := xs.length) (fun j G' => Ex G G' ∧ ListN G' D ((List.range j).filter (badN ys))) ⟨Ex.new hD, upd_same⟩ ?_ ?_⟩
      · rintro j G' hj ⟨e, hd⟩
        have j0 : (0 : Int) + (j : Int) = ((j : Nat) : Int) := by omega
        rw [j0]
        have hyj : j < ys.length := by omega
        have hy1 := e _ _ hy
        have bj : badN ys j = (decide (ys[j] < 0) || decide ((xs.length : Int) ≤ ys[j])) := by
          unfold badN
          rw [getD_of_lt hyj, hyl]
        have stp : ∀ {z : Bool}, badN ys j = z → (List.range (j + 1)).filter (badN ys) = (List.range j).filter (badN ys) ++ (if z then [j] else []) := fun {z} hz => by
          rw [List.range_succ, List.filter_append, List.filter_cons, hz]
          cases z <;> rfl
        have dl : ((List.range j).filter (badN ys)).length ≤ 64 := Nat.le_trans (List.length_filter_le _ _) (by rw [List.length_range]; omega)
        have done : badN ys j = true → ∃ acc, G' D = some (.lst acc) ∧ acc.length < sizeLine ∧ Ex G (upd G' D (.lst (acc ++ [V.int (j : Int)]))) ∧ ListN (upd G' D (.lst (acc ++ [V.int (j : Int)]))) D ((List.range (j + 1)).filter (badN ys)) := fun hb => by
          refine ⟨_, hd, small1000 (by rw [nI_len]; omega), e.mut hD, ?_⟩
          show upd G' D _ D = _
          rw [upd_same, stp hb, if_pos rfl, nI_app]
        refine ⟨rfl, _, rfl, _, rfl, p, _, _, _, rfl, rfl, SqL.of hy1, at_map hyj, ?_⟩
        walk_at "r"
        refine ite_b (fun c1 => ?_) (fun c1 => ?_)
        · refine iteT ⟨_, rfl, ?_⟩
          exact done (by rw [bj, c1]; rfl)
        · refine ⟨_, rfl, _, rfl, p, _, _, _, rfl, rfl, SqL.of hy1, at_map hyj, ?_⟩
          walk_at "r"
          refine ite_b (fun c2 => ?_) (fun c2 => ?_)
          · exact ⟨_, rfl, done (by rw [bj, c2, Bool.or_true])⟩
          · refine ⟨e, ?_⟩
            rw [stp (z := false) (by rw [bj, c1, c2]; rfl), if_neg (by decide), List.append_nil]
            exact hd
      · rintro G' ⟨e, hd⟩
        unfold ListN at hd
        rw [hfl] at hd
        refine ⟨D, _, _, _, rfl, rfl, SqL.of hd, (show atI (nI (due :: rest)) 0 = some (V.int (due : Int)) from atN (xs := due :: rest) (j := 0) (Nat.succ_pos _)), ?_⟩
        have hy1 := e _ _ hy
        refine ⟨_, rfl, p, _, rfl, Or.inl (SqL.of hy1), fun q9 hq9 => ?_⟩
        have z0 := Ex.new (o := .lst (ys.map V.int)) hq9
        have hl9 : G' l = some (.lst (ln.map V.int)) := e _ _ (MG _ _ nlb hl)
        refine ⟨_, rfl, _, rfl, l, _, rfl, Or.inl ⟨SqL.of (z0 _ _ hl9), fun t9 ht9 => ?_⟩⟩
        refine ⟨(by show 2 ≤ sizeLine; decide), fun ch9 hch9 => ?_⟩
        have z1 := Ex.new (o := .tup (ln.map V.int)) ht9
        have z2 := Ex.new (o := .tup [.str wd, .ref t9]) hch9
        have z12 := z1.trans z2
        refine ⟨q9, ch9, ys, wd, ln, rfl, z12 _ _ upd_same, by omega, ⟨t9, upd_same, z2 _ _ upd_same⟩, hw, h5, (fun k9 hk9 d9 H9 e9 hd9 => ?_), (fun hno => by rw [hk] at hno; cases hno), fun hno => by rw [hk] at hno; cases hno⟩
        rw [hk] at hk9
        cases hk9
        have eZ := ((e.trans z0).trans z12).trans e9
        refine ⟨true, T.e_InvalidImage.exm, fun _ a9 ha9 => ?_, fun z => (nomatch z)⟩
        refine ⟨_, rfl, ?_⟩
        refine ⟨_, rfl, rfl, rfl, d9, _, _, rfl, hd9, rfl, _, rfl, (due : Int), (due : Int), rfl, ?_⟩
        rw [decide_eq_true rfl]
        refine ⟨_, rfl, iteT ?_⟩
        have xI := T.e_InvalidImage.exc T.cn T.ct
        refine ⟨_, rfl, A.InvalidImage, _, _, true, rfl, rfl, Or.inr ⟨d9, _, rfl, hd9⟩, xI, ClsV.own _, T.e_InvalidImage.kit_base T.e_MendError (ne_ix T.nd 1 0 rfl rfl (by decide)), ?_⟩
        refine Or.inr ⟨_, rfl, ?_⟩
        walk_at "r"
        exact k H9 (BG.ex eZ) (MG.trans (Mut.of_ex eZ))

end

section
variable {P : Program} {w : World} {K : PySem.W.Frag} {mg : Str → Option Value} {base : Heap} {A : Ad}
theorem ok_law_bent_kept (T : Txt K mg A)  (g_law_bent : Okd P w K mg base CX0 3 A.law_bent P_law_bent spBent) (g_law_check_kept : Okd P w K mg base CX0 5 A.law_check_kept P_law_check_kept spCK) (g_law_draw : Okd P w K mg base CX0 2 A.law_draw P_law_draw spDraw) (g_law_valid : Okd P w K mg base CX0 1 A.law_valid P_law_valid spValid) (g_law_side_kept : Okd P w K mg base CX0 5 A.law_side_kept P_law_side_kept spSdK) (g_law_refused : Okd P w K mg base CX0 6 A.law_refused P_law_refused spRf) : Okd P w K mg base CX0 7 A.law_bent_kept P_law_bent_kept spBK := by
  obtain ⟨fd, F⟩ := T.d_law_bent_kept
  obtain ⟨fd_law_bent, G_law_bent, b_law_bent⟩ := g_law_bent
  obtain ⟨fd_law_check_kept, G_law_check_kept, b_law_check_kept⟩ := g_law_check_kept
  obtain ⟨fd_law_draw, G_law_draw, b_law_draw⟩ := g_law_draw
  obtain ⟨fd_law_valid, G_law_valid, b_law_valid⟩ := g_law_valid
  obtain ⟨fd_law_side_kept, G_law_side_kept, b_law_side_kept⟩ := g_law_side_kept
  obtain ⟨fd_law_refused, G_law_refused, b_law_refused⟩ := g_law_refused
  refine ⟨fd, F.ok sc_law_bent_kept (fun vs H Q E h => ?_) (fun cdv A' outer s H vs Q E hr h => ?_), F.binds fun _ _ _ _ _ _ us hl => match us, hl with | [_, _, _, _], _ => rfl⟩
  · obtain ⟨b, c, l, wd, ln, n, rfl, _⟩ := h
    rfl
  · obtain ⟨b, c, l, wd, ln, n, rfl, B, hl, nlb, fm, n64, k⟩ := h
    refine ⟨_, (pss_cons (ps_set (i := 4) sc_law_bent_kept.nd rfl (Or.inl rfl) (pe_call G_law_bent (hr.mono (by decide)) (by rfl) T.g_law_bent T.k_law_bent b_law_bent .nil pass0 (pa_cons (pv 0) (pa_cons (pv 2) (pa_cons (pv 3) (pa_cons (pv 1) pa_nil))))))
      (pss_cons (ps_if (pt_not (pt_val (pe_call G_law_check_kept (hr.mono (by decide)) (by rfl) T.g_law_check_kept T.k_law_check_kept b_law_check_kept .nil pass0 (pa_cons (pe_ix ix_list (pv 4) pe_int (fun _ _ => rfl)) (pa_cons (pe_ix ix_list (pv 4) pe_int (fun _ _ => rfl)) (pa_cons (pv 1) pa_nil)))))) (pss_one (ps_ret pe_bl)) pss_nil)
      (pss_cons (ps_setLc (i := 5) (own := [("x", 6)]) (tt := tYes) (by rfl) sc_law_bent_kept.nd rfl rfl (sw_true rfl rfl rfl (by decide +kernel)) (pi_range1 (by rfl) T.n_range (pa_cons (pv 1) pa_nil)) (blkOk_by (own := [("x", 6)]) (N := N_law_bent_kept) (sc := defScope s_law_bent_kept) (by decide +kernel)) (fun _ _ _ _ _ => (pg_name (i := 6) sc_law_bent_kept.nd rfl (Or.inl rfl))) (fun _ _ _ _ _ => pts_nil) (fun _ _ _ _ _ => (pe_call G_law_draw (hr.mono (by decide)) (by rfl) T.g_law_draw T.k_law_draw b_law_draw .nil pass0 (pa_cons (pv 0) (pa_cons (pv 1) pa_nil)))))
      (pss_cons (ps_if (pt_val (pe_call G_law_valid (hr.mono (by decide)) (by rfl) T.g_law_valid T.k_law_valid b_law_valid .nil pass0 (pa_cons (pe_ix ix_list (pv 4) pe_int (fun _ _ => rfl)) (pa_cons (pe_ix ix_list (pv 4) pe_int (fun _ _ => rfl)) (pa_cons (pv 1) pa_nil))))) (pss_one (ps_ret (pe_call G_law_side_kept (hr.mono (by decide)) (by rfl) T.g_law_side_kept T.k_law_side_kept b_law_side_kept .nil pass0 (pa_cons (pv 5) (pa_cons (pe_ix ix_list (pv 4) pe_int (fun _ _ => rfl)) (pa_cons (pe_ix ix_list (pv 4) pe_int (fun _ _ => rfl)) pa_nil)))))) pss_nil)
      (pss_one (ps_ret (pe_call G_law_refused (hr.mono (by decide)) (by rfl) T.g_law_refused T.k_law_refused b_law_refused .nil pass0 (pa_cons (pv 0) (pa_cons (pv 5) (pa_cons (pe_ix ix_list (pv 4) pe_int (fun _ _ => rfl)) (pa_cons (pe_ix ix_list (pv 4) pe_int (fun _ _ => rfl)) pa_nil))))))))))), ?_⟩
    refine ⟨_, rfl, _, rfl, _, rfl, _, rfl, b, c, l, wd, ln, n, rfl, B, hl, nlb, fm, n64, fun p q w2 ys G hp hq gp gq hw2 h5 BG MG => ?_⟩
    have npb := B.ne hp
    have nqb := B.ne hq
    unfold ListI at gq
    refine ⟨_, rfl, p, _, _, _, rfl, rfl, SqL.of gp, rfl, ?_⟩
    refine ⟨_, rfl, p, _, _, _, rfl, rfl, SqL.of gp, rfl, _, rfl, q, w2, ys, n, rfl, gq, hw2, h5, fun G1 e1 => ?_⟩
    refine ⟨_, rfl, iteF ?_⟩
    have gp1 := e1 _ _ gp
    have gq1 := e1 _ _ gq
    have B1 := BG.ex e1
    have M1 := MG.trans (Mut.of_ex e1)
    refine ⟨_, rfl, _, rfl, by omega, by omega, fun D hD => lc_range (lo := 0) (n := n) (fun j X => ∃ xs : List Int, xs.length = j ∧ (∀ x ∈ xs, 0 ≤ x ∧ x < (n : Int)) ∧ ListI X D xs ∧ Box X b c ∧ Mut b G1 X) ⟨[], rfl, (fun x hx => by cases hx), upd_same, B1.upd (B1.ne hD) (B1.nec hD), (Mut.refl _ _).new hD⟩ ?_ ?_⟩
    · rintro j X hj ⟨xs, hxl, hr, hx, BX, MX⟩
      have nDb := B1.ne hD
      have nDc := B1.nec hD
      refine ⟨rfl, _, rfl, _, rfl, b, c, _, rfl, by omega, by omega, BX, fun d Y d0 d1 BY MY => ?_⟩
      refine ⟨_, MY _ _ nDb hx, small1000 (by rw [List.length_map]; omega), xs ++ [d], by rw [List.length_append, hxl]; rfl, fun x hm => ?_, ?_, BY.upd nDb nDc, fun a u ha h => ?_⟩
      · rcases List.mem_append.mp hm with hm | hm
        · exact hr x hm
        · rw [List.mem_singleton.mp hm]
          exact ⟨d0, d1⟩
      · show upd Y D _ D = _
        rw [upd_same, List.map_append]
        rfl
      · rw [upd_ne (ne_of_none h hD)]
        exact MY _ _ ha (MX _ _ ha h)
    · rintro X ⟨xs, hxl, hr, hx, BX, MX⟩
      have nDb := B1.ne hD
      have hs := stray_none (xs := xs) (by rw [hxl]; exact hr)
      have gp2 := MX _ _ npb gp1
      have gq2 := MX _ _ nqb gq1
      have M2 := M1.trans MX
      refine ⟨_, rfl, p, _, _, _, rfl, rfl, SqL.of gp2, rfl, ?_⟩
      refine ⟨_, rfl, p, _, _, _, rfl, rfl, SqL.of gp2, rfl, _, rfl, q, w2, ys, n, rfl, gq2, hw2, h5, fun Y eY => ?_⟩
      have gp3 := eY _ _ gp2
      have gq3 := eY _ _ gq2
      have M3 := M2.trans (Mut.of_ex eY)
      have B3 := BX.ex eY
      cases hv : valF w2 ys (n : Int) with
      | true =>
        have vd := vd_of hv
        rw [← hxl] at vd
        refine ⟨_, rfl, iteT ?_⟩
        refine ⟨_, rfl, _, rfl, p, _, _, _, rfl, rfl, SqL.of gp3, rfl, ?_⟩
        refine ⟨_, rfl, p, _, _, _, rfl, rfl, SqL.of gp3, rfl, D, q, xs, w2, ys, rfl, eY _ _ hx, by omega, hs, gq3, hw2, vd, fun Z eZ => ?_⟩
        exact k Z (B3.ex eZ) (M3.trans (Mut.of_ex eZ))
      | false =>
        rw [← hxl] at hv
        refine ⟨_, rfl, iteF ?_⟩
        refine ⟨_, rfl, _, rfl, _, rfl, p, _, _, _, rfl, rfl, SqL.of gp3, rfl, ?_⟩
        refine ⟨_, rfl, p, _, _, _, rfl, rfl, SqL.of gp3, rfl, b, c, D, q, xs, w2, ys, rfl, B3, eY _ _ hx, nDb, by omega, hs, gq3, nqb, hw2, h5, hv, fun Z BZ MZ => ?_⟩
        exact k Z BZ (M3.trans MZ)

end

section
variable {P : Program} {w : World} {K : PySem.W.Frag} {mg : Str → Option Value} {base : Heap} {A : Ad}
/-- the changes found so far -/
def Fnd (G : Hp) (b c f : Addr) (m : Nat) : Prop := ∃ es : List (Addr × Addr × Str × List Int), G f = some (.lst (es.map fun e => V.ref e.1)) ∧ 0 < es.length ∧ es.length ≤ m ∧ (∀ e ∈ es, G e.1 = some (.lst [.str e.2.2.1, .ref e.2.1]) ∧ ListI G e.2.1 e.2.2.2 ∧ Fm e.2.2.1 e.2.2.2 ∧ e.1 ≠ b ∧ e.2.1 ≠ b) ∧ Box G b c ∧ f ≠ b ∧ f ≠ c
theorem Fnd.box {G : Hp} {b c f : Addr} {m : Nat} (h : Fnd G b c f m) : Box G b c := by
  obtain ⟨es, h1, h2, h3, h4, h5, _⟩ := h
  exact h5
theorem Fnd.mut {G G' : Hp} {b c f : Addr} {m : Nat} (h : Fnd G b c f m) (M : Mut b G G') (B : Box G' b c) : Fnd G' b c f m := by
  obtain ⟨es, h1, h2, h3, h4, h5, h6, h7⟩ := h
  refine ⟨es, M _ _ h6 h1, h2, h3, fun e he => ?_, B, h6, h7⟩
  obtain ⟨a1, a2, a3, a4, a5⟩ := h4 e he
  exact ⟨M _ _ a4 a1, M _ _ a5 a2, a3, a4, a5⟩
theorem Fnd.app {G : Hp} {b c f e l : Addr} {m : Nat} {w : Str} {ln : List Int} (h : Fnd G b c f m) (he : G e = some (.lst [.str w, .ref l])) (hl : ListI G l ln) (fm : Fm w ln) (n1 : e ≠ b) (n2 : l ≠ b) :
    ∃ xs : List V, G f = some (.lst xs) ∧ xs.length ≤ m ∧ Fnd (upd G f (.lst (xs ++ [.ref e]))) b c f (m + 1) := by
  obtain ⟨es, h1, h2, h3, h4, h5, h6, h7⟩ := h
  have key : ∀ (e2 l2 : Addr) (w2 : Str) (ln2 : List Int), G e2 = some (.lst [.str w2, .ref l2]) → ListI G l2 ln2 → Fm w2 ln2 → e2 ≠ f ∧ l2 ≠ f := fun e2 l2 w2 ln2 g1 g2 g3 => by
    refine ⟨fun z => ?_, fun z => ?_⟩
    · rw [z, h1] at g1
      match es, h2 with
      | x :: es, _ => cases g1
    · unfold ListI at g2
      rw [z, h1] at g2
      match es, h2 with
      | x :: es, _ => cases g3 <;> cases g2
  refine ⟨_, h1, by rw [List.length_map]; exact h3, es ++ [(e, l, w, ln)], by rw [upd_same, List.map_append]; rfl, by rw [List.length_append]; omega, by rw [List.length_append]; simp; omega, fun x hx => ?_, h5.upd h6 h7, h6, h7⟩
  rcases List.mem_append.mp hx with hx | hx
  · obtain ⟨a1, a2, a3, a4, a5⟩ := h4 x hx
    obtain ⟨n3, n4⟩ := key _ _ _ _ a1 a2 a3
    refine ⟨by rw [upd_ne n3]; exact a1, ?_, a3, a4, a5⟩
    show upd G f _ x.2.1 = _
    rw [upd_ne n4]
    exact a2
  · rw [List.mem_singleton] at hx
    subst hx
    obtain ⟨n3, n4⟩ := key _ _ _ _ he hl fm
    refine ⟨by rw [upd_ne n3]; exact he, ?_, fm, n1, n2⟩
    show upd G f _ l = _
    rw [upd_ne n4]
    exact hl
theorem Fnd.more {G : Hp} {b c f : Addr} {m : Nat} (h : Fnd G b c f m) : Fnd G b c f (m + 1) := by
  obtain ⟨es, h1, h2, h3, h4, h5, h6, h7⟩ := h
  exact ⟨es, h1, h2, by omega, h4, h5, h6, h7⟩
/-- all but b and f stay -/
def Mut2 (b f : Addr) (H H' : Hp) : Prop := ∀ a o, a ≠ b → a ≠ f → H a = some o → H' a = some o
theorem Mut2.mut {b f : Addr} {H H1 H2 : Hp} (x : Mut2 b f H H1) (y : Mut b H1 H2) : Mut2 b f H H2 := fun a o n1 n2 e => y a o n1 (x a o n1 n2 e)
theorem Mut2.upd {b f : Addr} {H H1 : Hp} {o : HO} (x : Mut2 b f H H1) : Mut2 b f H (L2.upd H1 f o) := fun a u n1 n2 e => by
  rw [upd_ne n2]
  exact x a u n1 n2 e
def spLaw (K : PySem.W.Frag) : Sp := fun vs H Q _ => ∃ (a : Addr) (ns : List Int), vs = [.ref a] ∧ SqL K H a (ns.map V.int) ∧ ns.length ≤ 63 ∧ ∀ H', Q (.bl true) H'
theorem ok_law {fd : FuncData} (T : Txt K mg A) (F : Fun K "law" "law" s_law A.law fd)  (g_law_box : Okd P w K mg base CX0 1 A.law_box P_law_box (spBox K)) (g_law_draw : Okd P w K mg base CX0 2 A.law_draw P_law_draw spDraw) (g_law_formed : Okd P w K mg base CX0 1 A.law_formed P_law_formed spFormed) (g_law_taken : Okd P w K mg base CX0 3 A.law_taken P_law_taken spTaken) (g_law_sides_kept : Okd P w K mg base CX0 3 A.law_sides_kept P_law_sides_kept spSK) (g_law_check_kept : Okd P w K mg base CX0 5 A.law_check_kept P_law_check_kept spCK) (g_law_side_kept : Okd P w K mg base CX0 5 A.law_side_kept P_law_side_kept spSdK) (g_law_image : Okd P w K mg base CX0 3 A.law_image P_law_image spImg) (g_law_bent_kept : Okd P w K mg base CX0 7 A.law_bent_kept P_law_bent_kept spBK) : FnOk P w K mg base CX0 8 A.law fd P_law (spLaw K) := by
  obtain ⟨fd_law_box, G_law_box, b_law_box⟩ := g_law_box
  obtain ⟨fd_law_draw, G_law_draw, b_law_draw⟩ := g_law_draw
  obtain ⟨fd_law_formed, G_law_formed, b_law_formed⟩ := g_law_formed
  obtain ⟨fd_law_taken, G_law_taken, b_law_taken⟩ := g_law_taken
  obtain ⟨fd_law_sides_kept, G_law_sides_kept, b_law_sides_kept⟩ := g_law_sides_kept
  obtain ⟨fd_law_check_kept, G_law_check_kept, b_law_check_kept⟩ := g_law_check_kept
  obtain ⟨fd_law_side_kept, G_law_side_kept, b_law_side_kept⟩ := g_law_side_kept
  obtain ⟨fd_law_image, G_law_image, b_law_image⟩ := g_law_image
  obtain ⟨fd_law_bent_kept, G_law_bent_kept, b_law_bent_kept⟩ := g_law_bent_kept
  refine F.ok sc_law (fun vs H Q E h => ?_) (fun cdv A' outer s H vs Q E hr h => ?_)
  · obtain ⟨a, ns, rfl, _⟩ := h
    rfl
  · obtain ⟨a, ns, rfl, hs, hl, k⟩ := h
    refine ⟨_, (pss_cons (ps_set (i := 1) sc_law.nd rfl (Or.inl rfl) (pe_call G_law_box (hr.mono (by decide)) (by rfl) T.g_law_box T.k_law_box b_law_box .nil pass0 (pa_cons (pv 0) pa_nil)))
      (pss_cons (ps_set (i := 2) sc_law.nd rfl (Or.inl rfl) (pe_call G_law_draw (hr.mono (by decide)) (by rfl) T.g_law_draw T.k_law_draw b_law_draw .nil pass0 (pa_cons (pv 1) (pa_cons pe_int pa_nil))))
      (pss_cut (ps_if (pt_cmpR op_eq (pe_call G_law_draw (hr.mono (by decide)) (by rfl) T.g_law_draw T.k_law_draw b_law_draw .nil pass0 (pa_cons (pv 1) (pa_cons pe_int pa_nil))) pe_int (nomark _)) (pss_one (ps_set (i := 2) sc_law.nd rfl (Or.inl rfl) (pe_call G_law_draw (hr.mono (by decide)) (by rfl) T.g_law_draw T.k_law_draw b_law_draw .nil pass0 (pa_cons (pv 1) (pa_cons pe_int pa_nil))))) pss_nil)
      (pss_cons (ps_set (i := 3) sc_law.nd rfl (Or.inl rfl) (pe_call G_law_draw (hr.mono (by decide)) (by rfl) T.g_law_draw T.k_law_draw b_law_draw .nil pass0 (pa_cons (pv 1) (pa_cons pe_int pa_nil))))
      (pss_cons (ps_set (i := 4) sc_law.nd rfl (Or.inl rfl) (pe_lst (pa_cons (pe_lst (pa_cons pe_str (pa_cons (pe_lst (pa_cons (pe_call G_law_draw (hr.mono (by decide)) (by rfl) T.g_law_draw T.k_law_draw b_law_draw .nil pass0 (pa_cons (pv 1) (pa_cons pe_int pa_nil))) (pa_cons (pe_call G_law_draw (hr.mono (by decide)) (by rfl) T.g_law_draw T.k_law_draw b_law_draw .nil pass0 (pa_cons (pv 1) (pa_cons pe_int pa_nil))) (pa_cons (pe_call G_law_draw (hr.mono (by decide)) (by rfl) T.g_law_draw T.k_law_draw b_law_draw .nil pass0 (pa_cons (pv 1) (pa_cons pe_int pa_nil))) pa_nil)))) pa_nil))) pa_nil)))
      (pss_cons (ps_for PassesOwn.never rfl (pi_list (pe_lst (pa_cons (pe_tup (pa_cons pe_str (pa_cons pe_int pa_nil))) (pa_cons (pe_tup (pa_cons pe_str (pa_cons pe_int pa_nil))) (pa_cons (pe_tup (pa_cons pe_str (pa_cons pe_int pa_nil))) pa_nil))))) (pg_tup (by rfl) (pgs_cons (pg_name (i := 5) sc_law.nd rfl (Or.inl rfl)) (pgs_cons (pg_name (i := 6) sc_law.nd rfl (Or.inl rfl)) pgs_nil))) (pss_one (ps_if (pt_cmpR op_le (pv 6) (pv 2) (nomark _)) (pss_cons (ps_set (i := 7) sc_law.nd rfl (Or.inl rfl) (pe_call G_law_formed (hr.mono (by decide)) (by rfl) T.g_law_formed T.k_law_formed b_law_formed .nil pass0 (pa_cons (pv 5) (pa_cons (pe_call G_law_taken (hr.mono (by decide)) (by rfl) T.g_law_taken T.k_law_taken b_law_taken .nil pass0 (pa_cons (pv 1) (pa_cons (pv 2) (pa_cons (pv 6) pa_nil)))) pa_nil))))
      (pss_cons (ps_expr (pe_bm PySem.F.plainAttrs_list PySem.F.slot_list_append PySem.F.type_list_append mt_append (pv 4) (pa_cons (pe_lst (pa_cons (pv 5) (pa_cons (pv 7) pa_nil))) pa_nil)))
      (pss_cons (ps_if (pt_not (pt_val (pe_call G_law_sides_kept (hr.mono (by decide)) (by rfl) T.g_law_sides_kept T.k_law_sides_kept b_law_sides_kept .nil pass0 (pa_cons (pv 5) (pa_cons (pv 7) pa_nil))))) (pss_one (ps_ret pe_bl)) pss_nil)
      (pss_cons (ps_if (PW.pt (pw_or (pt_not (pt_val (pe_call G_law_check_kept (hr.mono (by decide)) (by rfl) T.g_law_check_kept T.k_law_check_kept b_law_check_kept .nil pass0 (pa_cons (pv 5) (pa_cons (pv 7) (pa_cons (pv 2) pa_nil)))))) (pw_or1 (pt_not (pt_val (pe_call G_law_check_kept (hr.mono (by decide)) (by rfl) T.g_law_check_kept T.k_law_check_kept b_law_check_kept .nil pass0 (pa_cons (pv 5) (pa_cons (pv 7) (pa_cons (pv 3) pa_nil))))))))) (pss_one (ps_ret pe_bl)) pss_nil)
      (pss_one (ps_for PassesOwn.never rfl (pi_range1 (by rfl) T.n_range (pa_cons pe_int pa_nil)) (pg_name (i := 8) sc_law.nd rfl (Or.inl rfl)) (pss_one (ps_if (pt_not (pt_val (pe_call G_law_side_kept (hr.mono (by decide)) (by rfl) T.g_law_side_kept T.k_law_side_kept b_law_side_kept .nil pass0 (pa_cons (pe_call G_law_image (hr.mono (by decide)) (by rfl) T.g_law_image T.k_law_image b_law_image .nil pass0 (pa_cons (pv 1) (pa_cons (pv 5) (pa_cons (pv 7) (pa_cons (pv 2) pa_nil))))) (pa_cons (pv 5) (pa_cons (pv 7) pa_nil)))))) (pss_one (ps_ret pe_bl)) pss_nil)))))))) pss_nil)))
      (pss_cons (ps_for PassesOwn.never rfl (pi_range1 (by rfl) T.n_range (pa_cons pe_int pa_nil)) (pg_name (i := 8) sc_law.nd rfl (Or.inl rfl)) (pss_cons (ps_set (i := 9) sc_law.nd rfl (Or.inl rfl) (pe_ix ix_list (pv 4) (pe_call G_law_draw (hr.mono (by decide)) (by rfl) T.g_law_draw T.k_law_draw b_law_draw .nil pass0 (pa_cons (pv 1) (pa_cons (pe_callB call_len_seq (by rfl) T.n_len PySem.boot_len (pa_cons (pv 4) pa_nil)) pa_nil))) (fun _ _ => rfl)))
      (pss_one (ps_if (pt_not (pt_val (pe_call G_law_bent_kept (hr.mono (by decide)) (by rfl) T.g_law_bent_kept T.k_law_bent_kept b_law_bent_kept .nil pass0 (pa_cons (pv 1) (pa_cons (pv 2) (pa_cons (pe_ix ix_list (pv 9) pe_int (fun _ _ => rfl)) (pa_cons (pe_ix ix_list (pv 9) pe_int (fun _ _ => rfl)) pa_nil))))))) (pss_one (ps_ret pe_bl)) pss_nil))))
      (pss_one (ps_ret pe_bl))))))))), ?_⟩
    refine ⟨_, rfl, a, ns, rfl, hs, fun b c H1 hb hc e1 B1 => ?_⟩
    refine ⟨_, rfl, b, c, 13, rfl, by decide, by decide, B1, fun sz H2 s0 s1 B2 M2 => ?_⟩
    refine ⟨fun σ G => ∃ (sz : Int) (v3 v4 v5 v6 v7 v8 v9 : Option V), σ = [some (.ref a), some (.ref b), some (.int sz), v3, v4, v5, v6, v7, v8, v9] ∧ 0 ≤ sz ∧ sz < 65 ∧ Box G b c, ?_, ?_⟩
    · refine ⟨_, rfl, b, c, 4, rfl, by decide, by decide, B2, fun d H3 d0 d1 B3 M3 => ?_⟩
      refine ⟨rfl, _, rfl, ?_⟩
      refine ite_b (fun c1 => ?_) (fun c1 => ?_)
      · refine ⟨_, rfl, b, c, 65, rfl, by decide, by decide, B3, fun sz H4 z0 z1 B4 M4 => ?_⟩
        exact ⟨sz, _, _, _, _, _, _, _, rfl, z0, z1, B4⟩
      · exact ⟨sz, _, _, _, _, _, _, _, rfl, s0, by omega, B3⟩
    · rintro σ G ⟨sz, v3, v4, v5, v6, v7, v8, v9, rfl, s0, s1, BG⟩
      obtain ⟨n, rfl⟩ := Int.eq_ofNat_of_zero_le s0
      have n64 : n ≤ 64 := by omega
      refine ⟨_, rfl, b, c, 65, rfl, by decide, by decide, BG, fun fu G1 f0 f1 B3 M3 => ?_⟩
      obtain ⟨m, rfl⟩ := Int.eq_ofNat_of_zero_le f0
      refine ⟨_, rfl, b, c, 5, rfl, by decide, by decide, B3, fun d1 G2 _ _ B4 M4 => ?_⟩
      refine ⟨_, rfl, b, c, 5, rfl, by decide, by decide, B4, fun d2 G3 _ _ B5 M5 => ?_⟩
      refine ⟨_, rfl, b, c, 5, rfl, by decide, by decide, B5, fun d3 G4 _ _ B6 M6 => ?_⟩
      refine ⟨(by show 3 ≤ sizeLine; decide), fun q0 h0 => ?_⟩
      refine ⟨(by show 2 ≤ sizeLine; decide), fun q1 h1 => ?_⟩
      refine ⟨(by show 1 ≤ sizeLine; decide), fun f h2 => ?_⟩
      have x0 := Ex.new (o := .lst [.int d1, .int d2, .int d3]) h0
      have x1 := Ex.new (o := .lst [.str "move", .ref q0]) h1
      have x2 := Ex.new (o := .lst [.ref q1]) h2
      have x02 := (x0.trans x1).trans x2
      have n0b := B6.ne h0
      have n1b := B6.ne (back_none x0 h1)
      have nfb := B6.ne (back_none (x0.trans x1) h2)
      have nfc := B6.nec (back_none (x0.trans x1) h2)
      have F0 : Fnd (upd (upd (upd G4 q0 (.lst [.int d1, .int d2, .int d3])) q1 (.lst [.str "move", .ref q0])) f (.lst [.ref q1])) b c f 1 :=
        ⟨[(q1, q0, "move", [d1, d2, d3])], upd_same, Nat.one_pos, Nat.le_refl _, (fun e he => by
          rw [List.mem_singleton] at he
          subst he
          exact ⟨x2 _ _ upd_same, x2 _ _ (x1 _ _ upd_same), .move _ _ _, n1b, n0b⟩), B6.ex x02, nfb, nfc⟩
      generalize upd (upd (upd G4 q0 (.lst [.int d1, .int d2, .int d3])) q1 (.lst [.str "move", .ref q0])) f (.lst [.ref q1]) = G5 at *
      refine ⟨(by show 2 ≤ sizeLine; decide), fun t0 ht0 => ?_⟩
      refine ⟨(by show 2 ≤ sizeLine; decide), fun t1 ht1 => ?_⟩
      refine ⟨(by show 2 ≤ sizeLine; decide), fun t2 ht2 => ?_⟩
      refine ⟨(by show 3 ≤ sizeLine; decide), fun L hL => ?_⟩
      have w0 := Ex.new (o := .tup [.str "tie", .int 2]) ht0
      have w1 := Ex.new (o := .tup [.str "move", .int 3]) ht1
      have w2 := Ex.new (o := .tup [.str "cross", .int 4]) ht2
      have w3 := Ex.new (o := .lst [.ref t0, .ref t1, .ref t2]) hL
      have F1 := F0.mut (Mut.of_ex (((w0.trans w1).trans w2).trans w3)) (F0.box.ex (((w0.trans w1).trans w2).trans w3))
      have g0 := w3 _ _ (w2 _ _ (w1 _ _ (upd_same (H := G5) (a := t0) (o := .tup [.str "tie", .int 2]))))
      have g1 := w3 _ _ (w2 _ _ (upd_same (H := upd G5 t0 (.tup [.str "tie", .int 2])) (a := t1) (o := .tup [.str "move", .int 3])))
      have g2 := w3 _ _ (upd_same (H := upd (upd G5 t0 (.tup [.str "tie", .int 2])) t1 (.tup [.str "move", .int 3])) (a := t2) (o := .tup [.str "cross", .int 4]))
      have gL : upd (upd (upd (upd G5 t0 (.tup [.str "tie", .int 2])) t1 (.tup [.str "move", .int 3])) t2 (.tup [.str "cross", .int 4])) L (.lst [.ref t0, .ref t1, .ref t2]) L = some (.lst [.ref t0, .ref t1, .ref t2]) := upd_same
      have ntb0 := F0.box.ne ht0
      have ntb1 := F0.box.ne (back_none w0 ht1)
      have ntb2 := F0.box.ne (back_none (w0.trans w1) ht2)
      have nLb := F0.box.ne (back_none ((w0.trans w1).trans w2) hL)
      have ntf : ∀ {t : Addr}, G5 t = none → t ≠ f := fun {t} ht => by
        obtain ⟨es, z1, _⟩ := F0
        exact Ne.symm (ne_of_none z1 ht)
      have ntf0 := ntf ht0
      have ntf1 := ntf (back_none w0 ht1)
      have ntf2 := ntf (back_none (w0.trans w1) ht2)
      have nLf := ntf (back_none ((w0.trans w1).trans w2) hL)
      generalize upd (upd (upd (upd G5 t0 (.tup [.str "tie", .int 2])) t1 (.tup [.str "move", .int 3])) t2 (.tup [.str "cross", .int 4])) L (.lst [.ref t0, .ref t1, .ref t2]) = G6 at *
      refine ⟨L, rfl, ⟨_, SqL.of gL⟩, for_list (K := K) (a := L) (xs := [.ref t0, .ref t1, .ref t2]) (fun i σ G => ∃ v5 v6 v7 v8 v9 : Option V, σ = [some (.ref a), some (.ref b), some (.int (n : Int)), some (.int (m : Int)), some (.ref f), v5, v6, v7, v8, v9] ∧ Fnd G b c f (i + 1) ∧ Mut2 b f G6 G) ⟨_, _, _, _, _, rfl, F1, fun _ _ _ _ z => z⟩ (fun i σ G _ ⟨_, _, _, _, _, _, _, M⟩ => SqL.of (M _ _ nLb nLf gL)) ?_ ?_⟩
      · rintro i y σ G hi ⟨v5, v6, v7, v8, v9, rfl, FG, MG⟩
        have hi3 : i < 3 := (List.getElem?_eq_some_iff.mp hi).1
        have hcase : ∃ (t : Addr) (w9 : Str) (k9 : Nat), y = .ref t ∧ G t = some (.tup [.str w9, .int (k9 : Int)]) ∧ okLen w9 k9 = true ∧ k9 ≤ 4 ∧ w9 ∈ words3 := by
          match i, hi with
          | 0, hi => cases hi; exact ⟨t0, "tie", 2, rfl, MG _ _ ntb0 ntf0 g0, by decide, by decide, by simp [words3]⟩
          | 1, hi => cases hi; exact ⟨t1, "move", 3, rfl, MG _ _ ntb1 ntf1 g1, by decide, by decide, by simp [words3]⟩
          | 2, hi => cases hi; exact ⟨t2, "cross", 4, rfl, MG _ _ ntb2 ntf2 g2, by decide, by decide, by simp [words3]⟩
          | j + 3, hi => cases hi
        obtain ⟨t, w9, k9, rfl, gt, ok9, k4, w93⟩ := hcase
        refine ⟨t, _, rfl, SqT.of gt, rfl, _, _, rfl, _, _, rfl, rfl, ?_⟩
        walk_at "r"
        refine ite_b (fun c1 => ?_) (fun c1 => ?_)
        · have c1 := of_decide_eq_true c1
          have kn : k9 ≤ n := by omega
          have B0 := FG.box
          refine ⟨_, rfl, _, rfl, _, rfl, _, rfl, b, c, n, k9, rfl, kn, n64, k4, B0, fun p xs H1 hp hxl nd rng hx B1 M1 => ?_⟩
          have fm9 : Fm w9 xs := fm_of (by rw [hxl]; exact ok9)
          refine ⟨p, w9, xs, rfl, hx, fm9, nd, fun p2 ys H2 hp2 e2 fm pm od hy => ?_⟩
          have vd : Vd w9 ys (n : Int) := ⟨fm, pm.nodup_iff.mpr nd, fun x hx => rng x (pm.mem_iff.mp hx), od⟩
          have npb : p2 ≠ b := B1.ne hp2
          have F2 := (FG.mut M1 B1).mut (Mut.of_ex e2) (B1.ex e2)
          have N2 := (MG.mut M1).mut (Mut.of_ex e2)
          refine ⟨_, rfl, ?_⟩
          obtain ⟨es, z1, z2, z3, z4, z5, z6, z7⟩ := id F2
          refine ⟨Or.inl ⟨rfl, _, SqL.of z1⟩, _, rfl, _, rfl, (by show 2 ≤ sizeLine; decide), fun e he => ?_⟩
          have x3 := Ex.new (o := .lst [.str w9, .ref p2]) he
          have F3 := F2.mut (Mut.of_ex x3) (F2.box.ex x3)
          have neb := F2.box.ne he
          have npf : p2 ≠ f := by
            obtain ⟨es1, y1, _⟩ := FG.mut M1 B1
            exact Ne.symm (ne_of_none y1 hp2)
          obtain ⟨xs9, q1, q2, F4⟩ := F3.app (e := e) (l := p2) (w := w9) (ln := ys) upd_same (x3 _ _ hy) fm neb npb
          refine ⟨f, xs9, _, rfl, rfl, q1, small1000 (by omega), ?_⟩
          have N4 := (N2.mut (Mut.of_ex x3)).upd (o := .lst (xs9 ++ [.ref e]))
          have hy4 : upd (upd H2 e (.lst [.str w9, .ref p2])) f (.lst (xs9 ++ [.ref e])) p2 = some (.lst (ys.map V.int)) := by
            rw [upd_ne npf]
            exact x3 _ _ hy
          generalize upd (upd H2 e (.lst [.str w9, .ref p2])) f (.lst (xs9 ++ [.ref e])) = H4 at *
          have vd64 : Vd w9 ys 64 := ⟨fm, vd.nd, fun x hx => by have := vd.lo x hx; omega, od⟩
          have le4 := fm.le4
          refine ⟨_, rfl, _, rfl, p2, w9, ys, rfl, hy4, vd64, fun H5 e5 => ⟨_, rfl, iteF ?_⟩⟩
          refine ⟨_, rfl, _, rfl, _, rfl, p2, w9, ys, n, rfl, e5 _ _ hy4, w37 w93, by omega, fun H6 e6 => ⟨_, rfl, iteF ?_⟩⟩
          refine ⟨_, rfl, _, rfl, _, rfl, p2, w9, ys, m, rfl, e6 _ _ (e5 _ _ hy4), w37 w93, by omega, fun H7 e7 => ⟨_, rfl, iteF ?_⟩⟩
          have e47 := (e5.trans e6).trans e7
          refine ⟨_, rfl, by decide, by decide, for_range (lo := 0) (n := 5) (fun j σ G => ∃ v8 v9 : Option V, σ = [some (.ref a), some (.ref b), some (.int (n : Int)), some (.int (m : Int)), some (.ref f), some (.str w9), some (.int (k9 : Int)), some (.ref p2), v8, v9] ∧ Fnd G b c f (i + 1 + 1) ∧ Mut2 b f G6 G ∧ G p2 = some (.lst (ys.map V.int))) ⟨_, _, rfl, F4.mut (Mut.of_ex e47) (F4.box.ex e47), N4.mut (Mut.of_ex e47), e47 _ _ hy4⟩ ?_ ?_⟩
          · rintro j σ G8 hj ⟨v8, v9, rfl, F8, N8, hy8⟩
            refine ⟨_, rfl, _, rfl, _, rfl, _, rfl, b, c, p2, w9, ys, n, rfl, F8.box, hy8, npb, vd, n64, fun im zs H9 him hzl hzs hz B9 M9 => ?_⟩
            have hy9 := M9 _ _ npb hy8
            rw [← hzl] at vd
            refine ⟨_, rfl, _, rfl, im, p2, zs, w9, ys, rfl, hz, by omega, hzs, hy9, w37 w93, vd, fun HA eA => ?_⟩
            refine ⟨_, rfl, iteF ?_⟩
            exact ⟨_, _, rfl, (F8.mut M9 B9).mut (Mut.of_ex eA) (B9.ex eA), (N8.mut M9).mut (Mut.of_ex eA), eA _ _ hy9⟩
          · rintro σ G8 ⟨v8, v9, rfl, F8, N8, hy8⟩
            exact ⟨_, _, _, _, _, rfl, F8, N8⟩
        · exact ⟨_, _, _, _, _, rfl, FG.more, MG⟩
      · rintro σ G ⟨v5, v6, v7, v8, v9, rfl, FG, MG⟩
        refine ⟨_, rfl, by decide, by decide, for_range (lo := 0) (n := 6) (fun i σ G => ∃ v5 v6 v7 v8 v9 : Option V, σ = [some (.ref a), some (.ref b), some (.int (n : Int)), some (.int (m : Int)), some (.ref f), v5, v6, v7, v8, v9] ∧ Fnd G b c f 4) ⟨_, _, _, _, _, rfl, FG⟩ ?_ ?_⟩
        · rintro i σ G hi ⟨v5, v6, v7, v8, v9, rfl, FG⟩
          obtain ⟨es, z1, z2, z3, z4, z5, z6, z7⟩ := id FG
          refine ⟨_, rfl, _, rfl, _, rfl, f, _, rfl, Or.inl (SqL.of z1), ?_⟩
          rw [List.length_map]
          refine ⟨b, c, _, rfl, by omega, by omega, z5, fun t H1 t0 t1 B1 M1 => ?_⟩
          obtain ⟨t, rfl⟩ := Int.eq_ofNat_of_zero_le t0
          have ht : t < es.length := by omega
          obtain ⟨y1, y2, y3, y4, y5⟩ := z4 es[t] (List.getElem_mem ht)
          have F1 := FG.mut M1 B1
          have gt : atI (es.map fun e => V.ref e.1) (t : Int) = some (V.ref es[t].1) := atI_nat (by rw [List.getElem?_map, List.getElem?_eq_getElem ht]; rfl)
          refine ⟨f, _, _, _, rfl, rfl, SqL.of (M1 _ _ z6 z1), gt, ?_⟩
          have x1 := M1 _ _ y4 y1
          have x2 := M1 _ _ y5 y2
          refine ⟨_, rfl, _, rfl, _, rfl, es[t].1, _, _, _, rfl, rfl, SqL.of x1, rfl, ?_⟩
          refine ⟨_, rfl, es[t].1, _, _, _, rfl, rfl, SqL.of x1, rfl, b, c, es[t].2.1, es[t].2.2.1, es[t].2.2.2, n, rfl, B1, x2, y5, y3, n64, fun H2 B2 M2 => ?_⟩
          refine ⟨_, rfl, iteF ?_⟩
          exact ⟨_, _, _, _, _, rfl, F1.mut M2 B2⟩
        · rintro σ G ⟨v5, v6, v7, v8, v9, rfl, FG⟩
          exact k G

end
end Pv
namespace Pv
open PySem L2 Evl
theorem all_mk {l : PySem.W.OpenLaw} {w : World} {K : PySem.W.Frag} {h : Heap} {mg : Str → Option Value} {fa f_check_image f_check_change f_sides f_side_of f_in_order f_shown f_law_mix f_law_box f_law_draw f_law_whole f_law_row f_law_names f_law_valid f_law_taken f_law_formed f_law_side_due f_law_list_told f_law_sides_kept f_law_check_kept f_law_image f_law_side_kept f_law_bent f_law_refused f_law_bent_kept f_law c_SIDES sd_k0 sd_k1 sd_k2 sd_j00 sd_j01 sd_j10 sd_j11 sd_j20 sd_j21 c_MendError N_MendError_ c_InvalidImage N_InvalidImage_ i_InvalidImage c_InvalidKind N_InvalidKind_ c_InvalidChange N_InvalidChange_ : Addr}
    {od_check_image an_check_image od_check_change an_check_change od_sides an_sides od_side_of an_side_of od_in_order an_in_order od_shown an_shown od_law_mix an_law_mix od_law_box an_law_box od_law_draw an_law_draw od_law_whole an_law_whole od_law_row an_law_row od_law_names an_law_names od_law_valid an_law_valid od_law_taken an_law_taken od_law_formed an_law_formed od_law_side_due an_law_side_due od_law_list_told an_law_list_told od_law_sides_kept an_law_sides_kept od_law_check_kept an_law_check_kept od_law_image an_law_image od_law_side_kept an_law_side_kept od_law_bent an_law_bent od_law_refused an_law_refused od_law_bent_kept an_law_bent_kept od_law an_law odS0 odS00 odS01 odS1 odS10 odS11 odS2 odS20 odS21 dd_MendError dd_InvalidImage od_i_InvalidImage an_i_InvalidImage dd_InvalidKind dd_InvalidChange : Option Addr}
    {sl_check_image sl_check_change sl_sides sl_side_of sl_in_order sl_shown sl_law_mix sl_law_box sl_law_draw sl_law_whole sl_law_row sl_law_names sl_law_valid sl_law_taken sl_law_formed sl_law_side_due sl_law_list_told sl_law_sides_kept sl_law_check_kept sl_law_image sl_law_side_kept sl_law_bent sl_law_refused sl_law_bent_kept sl_law slS0 slS00 slS01 slS1 slS10 slS11 slS2 slS20 slS21 sl_i_InvalidImage : Array (Option Value)}
    {oc_check_image doc_check_image pm_check_image cd_check_image ct_check_image kV_check_image oc_check_change doc_check_change pm_check_change cd_check_change ct_check_change kV_check_change oc_sides doc_sides pm_sides cd_sides ct_sides kV_sides oc_side_of doc_side_of pm_side_of cd_side_of ct_side_of kV_side_of oc_in_order doc_in_order pm_in_order cd_in_order ct_in_order kV_in_order oc_shown doc_shown pm_shown cd_shown ct_shown kV_shown oc_law_mix doc_law_mix pm_law_mix cd_law_mix ct_law_mix kV_law_mix oc_law_box doc_law_box pm_law_box cd_law_box ct_law_box kV_law_box oc_law_draw doc_law_draw pm_law_draw cd_law_draw ct_law_draw kV_law_draw oc_law_whole doc_law_whole pm_law_whole cd_law_whole ct_law_whole kV_law_whole oc_law_row doc_law_row pm_law_row cd_law_row ct_law_row kV_law_row oc_law_names doc_law_names pm_law_names cd_law_names ct_law_names kV_law_names oc_law_valid doc_law_valid pm_law_valid cd_law_valid ct_law_valid kV_law_valid oc_law_taken doc_law_taken pm_law_taken cd_law_taken ct_law_taken kV_law_taken oc_law_formed doc_law_formed pm_law_formed cd_law_formed ct_law_formed kV_law_formed oc_law_side_due doc_law_side_due pm_law_side_due cd_law_side_due ct_law_side_due kV_law_side_due oc_law_list_told doc_law_list_told pm_law_list_told cd_law_list_told ct_law_list_told kV_law_list_told oc_law_sides_kept doc_law_sides_kept pm_law_sides_kept cd_law_sides_kept ct_law_sides_kept kV_law_sides_kept oc_law_check_kept doc_law_check_kept pm_law_check_kept cd_law_check_kept ct_law_check_kept kV_law_check_kept oc_law_image doc_law_image pm_law_image cd_law_image ct_law_image kV_law_image oc_law_side_kept doc_law_side_kept pm_law_side_kept cd_law_side_kept ct_law_side_kept kV_law_side_kept oc_law_bent doc_law_bent pm_law_bent cd_law_bent ct_law_bent kV_law_bent oc_law_refused doc_law_refused pm_law_refused cd_law_refused ct_law_refused kV_law_refused oc_law_bent_kept doc_law_bent_kept pm_law_bent_kept cd_law_bent_kept ct_law_bent_kept kV_law_bent_kept oc_law doc_law pm_law cd_law ct_law kV_law oc_i_InvalidImage kV_i_InvalidImage doc_i_InvalidImage pm_i_InvalidImage cd_i_InvalidImage ct_i_InvalidImage : Value}
    {tS0 tS1 tS2 aS00_0 aS00_1 aS01_0 aS01_1 aS10_0 aS10_1 aS10_2 aS11_0 aS11_1 aS11_2 aS20_0 aS20_1 aS20_2 aS20_3 aS21_0 aS21_1 aS21_2 aS21_3 : Tok}
    {epS nS0 nS00 nS01 nS1 nS10 nS11 nS2 nS20 nS21 : Nat}
    {nm_MendError q_MendError nm_InvalidImage q_InvalidImage nm_InvalidKind q_InvalidKind nm_InvalidChange q_InvalidChange : Str}
    {bs_MendError sub_MendError bm_MendError bs_InvalidImage sub_InvalidImage bs_InvalidKind sub_InvalidKind bs_InvalidChange sub_InvalidChange : List Value}
    {sn_MendError sn_InvalidImage sn_InvalidKind sn_InvalidChange : List Str}
    {ab_MendError ab_InvalidImage ab_InvalidKind ab_InvalidChange : Bool}
    {col_MendError col_InvalidImage col_InvalidKind col_InvalidChange : Option Bool}
    {k0_MendError k1_MendError k2_MendError k3_MendError k5_MendError k0_InvalidImage k1_InvalidImage k2_InvalidImage k3_InvalidImage k5_InvalidImage k0_InvalidKind k1_InvalidKind k2_InvalidKind k3_InvalidKind k5_InvalidKind k0_InvalidChange k1_InvalidChange k2_InvalidChange k3_InvalidChange k5_InvalidChange : Option Value}
    (X : K.In h) (G : h.Ns mainGlobals mg) (hfa : mg "law" = some (.ref fa))
    (a_check_image : PySem.W.nsIn K mainGlobals "check_image" = some (some (.ref f_check_image)))
    (l_check_image : K.lookup f_check_image = some ⟨oc_check_image, od_check_image, .func (PySem.W.fnOf "check_image" "check_image" (defArgs s_check_image) (defBody s_check_image) (defScope s_check_image) .none kV_check_image doc_check_image pm_check_image an_check_image cd_check_image ct_check_image), sl_check_image⟩)
    (cd_is_check_image : PySem.W.codeIn K cd_check_image "check_image" = true)
    (k_check_image : PySem.W.keepIn K (.ref f_check_image) = true)
    (a_check_change : PySem.W.nsIn K mainGlobals "check_change" = some (some (.ref f_check_change)))
    (l_check_change : K.lookup f_check_change = some ⟨oc_check_change, od_check_change, .func (PySem.W.fnOf "check_change" "check_change" (defArgs s_check_change) (defBody s_check_change) (defScope s_check_change) .none kV_check_change doc_check_change pm_check_change an_check_change cd_check_change ct_check_change), sl_check_change⟩)
    (cd_is_check_change : PySem.W.codeIn K cd_check_change "check_change" = true)
    (k_check_change : PySem.W.keepIn K (.ref f_check_change) = true)
    (a_sides : PySem.W.nsIn K mainGlobals "sides" = some (some (.ref f_sides)))
    (l_sides : K.lookup f_sides = some ⟨oc_sides, od_sides, .func (PySem.W.fnOf "sides" "sides" (defArgs s_sides) (defBody s_sides) (defScope s_sides) .none kV_sides doc_sides pm_sides an_sides cd_sides ct_sides), sl_sides⟩)
    (cd_is_sides : PySem.W.codeIn K cd_sides "sides" = true)
    (k_sides : PySem.W.keepIn K (.ref f_sides) = true)
    (a_side_of : PySem.W.nsIn K mainGlobals "side_of" = some (some (.ref f_side_of)))
    (l_side_of : K.lookup f_side_of = some ⟨oc_side_of, od_side_of, .func (PySem.W.fnOf "side_of" "side_of" (defArgs s_side_of) (defBody s_side_of) (defScope s_side_of) .none kV_side_of doc_side_of pm_side_of an_side_of cd_side_of ct_side_of), sl_side_of⟩)
    (cd_is_side_of : PySem.W.codeIn K cd_side_of "side_of" = true)
    (k_side_of : PySem.W.keepIn K (.ref f_side_of) = true)
    (a_in_order : PySem.W.nsIn K mainGlobals "_in_order" = some (some (.ref f_in_order)))
    (l_in_order : K.lookup f_in_order = some ⟨oc_in_order, od_in_order, .func (PySem.W.fnOf "_in_order" "_in_order" (defArgs s_in_order) (defBody s_in_order) (defScope s_in_order) .none kV_in_order doc_in_order pm_in_order an_in_order cd_in_order ct_in_order), sl_in_order⟩)
    (cd_is_in_order : PySem.W.codeIn K cd_in_order "_in_order" = true)
    (k_in_order : PySem.W.keepIn K (.ref f_in_order) = true)
    (a_shown : PySem.W.nsIn K mainGlobals "_shown" = some (some (.ref f_shown)))
    (l_shown : K.lookup f_shown = some ⟨oc_shown, od_shown, .func (PySem.W.fnOf "_shown" "_shown" (defArgs s_shown) (defBody s_shown) (defScope s_shown) .none kV_shown doc_shown pm_shown an_shown cd_shown ct_shown), sl_shown⟩)
    (cd_is_shown : PySem.W.codeIn K cd_shown "_shown" = true)
    (k_shown : PySem.W.keepIn K (.ref f_shown) = true)
    (a_law_mix : PySem.W.nsIn K mainGlobals "_law_mix" = some (some (.ref f_law_mix)))
    (l_law_mix : K.lookup f_law_mix = some ⟨oc_law_mix, od_law_mix, .func (PySem.W.fnOf "_law_mix" "_law_mix" (defArgs s_law_mix) (defBody s_law_mix) (defScope s_law_mix) .none kV_law_mix doc_law_mix pm_law_mix an_law_mix cd_law_mix ct_law_mix), sl_law_mix⟩)
    (cd_is_law_mix : PySem.W.codeIn K cd_law_mix "_law_mix" = true)
    (k_law_mix : PySem.W.keepIn K (.ref f_law_mix) = true)
    (a_law_box : PySem.W.nsIn K mainGlobals "_law_box" = some (some (.ref f_law_box)))
    (l_law_box : K.lookup f_law_box = some ⟨oc_law_box, od_law_box, .func (PySem.W.fnOf "_law_box" "_law_box" (defArgs s_law_box) (defBody s_law_box) (defScope s_law_box) .none kV_law_box doc_law_box pm_law_box an_law_box cd_law_box ct_law_box), sl_law_box⟩)
    (cd_is_law_box : PySem.W.codeIn K cd_law_box "_law_box" = true)
    (k_law_box : PySem.W.keepIn K (.ref f_law_box) = true)
    (a_law_draw : PySem.W.nsIn K mainGlobals "_law_draw" = some (some (.ref f_law_draw)))
    (l_law_draw : K.lookup f_law_draw = some ⟨oc_law_draw, od_law_draw, .func (PySem.W.fnOf "_law_draw" "_law_draw" (defArgs s_law_draw) (defBody s_law_draw) (defScope s_law_draw) .none kV_law_draw doc_law_draw pm_law_draw an_law_draw cd_law_draw ct_law_draw), sl_law_draw⟩)
    (cd_is_law_draw : PySem.W.codeIn K cd_law_draw "_law_draw" = true)
    (k_law_draw : PySem.W.keepIn K (.ref f_law_draw) = true)
    (a_law_whole : PySem.W.nsIn K mainGlobals "_law_whole" = some (some (.ref f_law_whole)))
    (l_law_whole : K.lookup f_law_whole = some ⟨oc_law_whole, od_law_whole, .func (PySem.W.fnOf "_law_whole" "_law_whole" (defArgs s_law_whole) (defBody s_law_whole) (defScope s_law_whole) .none kV_law_whole doc_law_whole pm_law_whole an_law_whole cd_law_whole ct_law_whole), sl_law_whole⟩)
    (cd_is_law_whole : PySem.W.codeIn K cd_law_whole "_law_whole" = true)
    (k_law_whole : PySem.W.keepIn K (.ref f_law_whole) = true)
    (a_law_row : PySem.W.nsIn K mainGlobals "_law_row" = some (some (.ref f_law_row)))
    (l_law_row : K.lookup f_law_row = some ⟨oc_law_row, od_law_row, .func (PySem.W.fnOf "_law_row" "_law_row" (defArgs s_law_row) (defBody s_law_row) (defScope s_law_row) .none kV_law_row doc_law_row pm_law_row an_law_row cd_law_row ct_law_row), sl_law_row⟩)
    (cd_is_law_row : PySem.W.codeIn K cd_law_row "_law_row" = true)
    (k_law_row : PySem.W.keepIn K (.ref f_law_row) = true)
    (a_law_names : PySem.W.nsIn K mainGlobals "_law_names" = some (some (.ref f_law_names)))
    (l_law_names : K.lookup f_law_names = some ⟨oc_law_names, od_law_names, .func (PySem.W.fnOf "_law_names" "_law_names" (defArgs s_law_names) (defBody s_law_names) (defScope s_law_names) .none kV_law_names doc_law_names pm_law_names an_law_names cd_law_names ct_law_names), sl_law_names⟩)
    (cd_is_law_names : PySem.W.codeIn K cd_law_names "_law_names" = true)
    (k_law_names : PySem.W.keepIn K (.ref f_law_names) = true)
    (a_law_valid : PySem.W.nsIn K mainGlobals "_law_valid" = some (some (.ref f_law_valid)))
    (l_law_valid : K.lookup f_law_valid = some ⟨oc_law_valid, od_law_valid, .func (PySem.W.fnOf "_law_valid" "_law_valid" (defArgs s_law_valid) (defBody s_law_valid) (defScope s_law_valid) .none kV_law_valid doc_law_valid pm_law_valid an_law_valid cd_law_valid ct_law_valid), sl_law_valid⟩)
    (cd_is_law_valid : PySem.W.codeIn K cd_law_valid "_law_valid" = true)
    (k_law_valid : PySem.W.keepIn K (.ref f_law_valid) = true)
    (a_law_taken : PySem.W.nsIn K mainGlobals "_law_taken" = some (some (.ref f_law_taken)))
    (l_law_taken : K.lookup f_law_taken = some ⟨oc_law_taken, od_law_taken, .func (PySem.W.fnOf "_law_taken" "_law_taken" (defArgs s_law_taken) (defBody s_law_taken) (defScope s_law_taken) .none kV_law_taken doc_law_taken pm_law_taken an_law_taken cd_law_taken ct_law_taken), sl_law_taken⟩)
    (cd_is_law_taken : PySem.W.codeIn K cd_law_taken "_law_taken" = true)
    (k_law_taken : PySem.W.keepIn K (.ref f_law_taken) = true)
    (a_law_formed : PySem.W.nsIn K mainGlobals "_law_formed" = some (some (.ref f_law_formed)))
    (l_law_formed : K.lookup f_law_formed = some ⟨oc_law_formed, od_law_formed, .func (PySem.W.fnOf "_law_formed" "_law_formed" (defArgs s_law_formed) (defBody s_law_formed) (defScope s_law_formed) .none kV_law_formed doc_law_formed pm_law_formed an_law_formed cd_law_formed ct_law_formed), sl_law_formed⟩)
    (cd_is_law_formed : PySem.W.codeIn K cd_law_formed "_law_formed" = true)
    (k_law_formed : PySem.W.keepIn K (.ref f_law_formed) = true)
    (a_law_side_due : PySem.W.nsIn K mainGlobals "_law_side_due" = some (some (.ref f_law_side_due)))
    (l_law_side_due : K.lookup f_law_side_due = some ⟨oc_law_side_due, od_law_side_due, .func (PySem.W.fnOf "_law_side_due" "_law_side_due" (defArgs s_law_side_due) (defBody s_law_side_due) (defScope s_law_side_due) .none kV_law_side_due doc_law_side_due pm_law_side_due an_law_side_due cd_law_side_due ct_law_side_due), sl_law_side_due⟩)
    (cd_is_law_side_due : PySem.W.codeIn K cd_law_side_due "_law_side_due" = true)
    (k_law_side_due : PySem.W.keepIn K (.ref f_law_side_due) = true)
    (a_law_list_told : PySem.W.nsIn K mainGlobals "_law_list_told" = some (some (.ref f_law_list_told)))
    (l_law_list_told : K.lookup f_law_list_told = some ⟨oc_law_list_told, od_law_list_told, .func (PySem.W.fnOf "_law_list_told" "_law_list_told" (defArgs s_law_list_told) (defBody s_law_list_told) (defScope s_law_list_told) .none kV_law_list_told doc_law_list_told pm_law_list_told an_law_list_told cd_law_list_told ct_law_list_told), sl_law_list_told⟩)
    (cd_is_law_list_told : PySem.W.codeIn K cd_law_list_told "_law_list_told" = true)
    (k_law_list_told : PySem.W.keepIn K (.ref f_law_list_told) = true)
    (a_law_sides_kept : PySem.W.nsIn K mainGlobals "_law_sides_kept" = some (some (.ref f_law_sides_kept)))
    (l_law_sides_kept : K.lookup f_law_sides_kept = some ⟨oc_law_sides_kept, od_law_sides_kept, .func (PySem.W.fnOf "_law_sides_kept" "_law_sides_kept" (defArgs s_law_sides_kept) (defBody s_law_sides_kept) (defScope s_law_sides_kept) .none kV_law_sides_kept doc_law_sides_kept pm_law_sides_kept an_law_sides_kept cd_law_sides_kept ct_law_sides_kept), sl_law_sides_kept⟩)
    (cd_is_law_sides_kept : PySem.W.codeIn K cd_law_sides_kept "_law_sides_kept" = true)
    (k_law_sides_kept : PySem.W.keepIn K (.ref f_law_sides_kept) = true)
    (a_law_check_kept : PySem.W.nsIn K mainGlobals "_law_check_kept" = some (some (.ref f_law_check_kept)))
    (l_law_check_kept : K.lookup f_law_check_kept = some ⟨oc_law_check_kept, od_law_check_kept, .func (PySem.W.fnOf "_law_check_kept" "_law_check_kept" (defArgs s_law_check_kept) (defBody s_law_check_kept) (defScope s_law_check_kept) .none kV_law_check_kept doc_law_check_kept pm_law_check_kept an_law_check_kept cd_law_check_kept ct_law_check_kept), sl_law_check_kept⟩)
    (cd_is_law_check_kept : PySem.W.codeIn K cd_law_check_kept "_law_check_kept" = true)
    (k_law_check_kept : PySem.W.keepIn K (.ref f_law_check_kept) = true)
    (a_law_image : PySem.W.nsIn K mainGlobals "_law_image" = some (some (.ref f_law_image)))
    (l_law_image : K.lookup f_law_image = some ⟨oc_law_image, od_law_image, .func (PySem.W.fnOf "_law_image" "_law_image" (defArgs s_law_image) (defBody s_law_image) (defScope s_law_image) .none kV_law_image doc_law_image pm_law_image an_law_image cd_law_image ct_law_image), sl_law_image⟩)
    (cd_is_law_image : PySem.W.codeIn K cd_law_image "_law_image" = true)
    (k_law_image : PySem.W.keepIn K (.ref f_law_image) = true)
    (a_law_side_kept : PySem.W.nsIn K mainGlobals "_law_side_kept" = some (some (.ref f_law_side_kept)))
    (l_law_side_kept : K.lookup f_law_side_kept = some ⟨oc_law_side_kept, od_law_side_kept, .func (PySem.W.fnOf "_law_side_kept" "_law_side_kept" (defArgs s_law_side_kept) (defBody s_law_side_kept) (defScope s_law_side_kept) .none kV_law_side_kept doc_law_side_kept pm_law_side_kept an_law_side_kept cd_law_side_kept ct_law_side_kept), sl_law_side_kept⟩)
    (cd_is_law_side_kept : PySem.W.codeIn K cd_law_side_kept "_law_side_kept" = true)
    (k_law_side_kept : PySem.W.keepIn K (.ref f_law_side_kept) = true)
    (a_law_bent : PySem.W.nsIn K mainGlobals "_law_bent" = some (some (.ref f_law_bent)))
    (l_law_bent : K.lookup f_law_bent = some ⟨oc_law_bent, od_law_bent, .func (PySem.W.fnOf "_law_bent" "_law_bent" (defArgs s_law_bent) (defBody s_law_bent) (defScope s_law_bent) .none kV_law_bent doc_law_bent pm_law_bent an_law_bent cd_law_bent ct_law_bent), sl_law_bent⟩)
    (cd_is_law_bent : PySem.W.codeIn K cd_law_bent "_law_bent" = true)
    (k_law_bent : PySem.W.keepIn K (.ref f_law_bent) = true)
    (a_law_refused : PySem.W.nsIn K mainGlobals "_law_refused" = some (some (.ref f_law_refused)))
    (l_law_refused : K.lookup f_law_refused = some ⟨oc_law_refused, od_law_refused, .func (PySem.W.fnOf "_law_refused" "_law_refused" (defArgs s_law_refused) (defBody s_law_refused) (defScope s_law_refused) .none kV_law_refused doc_law_refused pm_law_refused an_law_refused cd_law_refused ct_law_refused), sl_law_refused⟩)
    (cd_is_law_refused : PySem.W.codeIn K cd_law_refused "_law_refused" = true)
    (k_law_refused : PySem.W.keepIn K (.ref f_law_refused) = true)
    (a_law_bent_kept : PySem.W.nsIn K mainGlobals "_law_bent_kept" = some (some (.ref f_law_bent_kept)))
    (l_law_bent_kept : K.lookup f_law_bent_kept = some ⟨oc_law_bent_kept, od_law_bent_kept, .func (PySem.W.fnOf "_law_bent_kept" "_law_bent_kept" (defArgs s_law_bent_kept) (defBody s_law_bent_kept) (defScope s_law_bent_kept) .none kV_law_bent_kept doc_law_bent_kept pm_law_bent_kept an_law_bent_kept cd_law_bent_kept ct_law_bent_kept), sl_law_bent_kept⟩)
    (cd_is_law_bent_kept : PySem.W.codeIn K cd_law_bent_kept "_law_bent_kept" = true)
    (k_law_bent_kept : PySem.W.keepIn K (.ref f_law_bent_kept) = true)
    (a_law : PySem.W.nsIn K mainGlobals "law" = some (some (.ref f_law)))
    (l_law : K.lookup f_law = some ⟨oc_law, od_law, .func (PySem.W.fnOf "law" "law" (defArgs s_law) (defBody s_law) (defScope s_law) .none kV_law doc_law pm_law an_law cd_law ct_law), sl_law⟩)
    (cd_is_law : PySem.W.codeIn K cd_law "law" = true)
    (k_law : PySem.W.keepIn K (.ref f_law) = true)
    (a_SIDES : PySem.W.nsIn K mainGlobals "_SIDES" = some (some (.ref c_SIDES)))
    (sm_SIDES : (c_SIDES == sysModules) = false)
    (l_SIDES : K.lookup c_SIDES = some ⟨.type "dict", none, .dict #[⟨PyData.keyHash w.params "tie", .str "tie" tS0, .ref sd_k0⟩, ⟨PyData.keyHash w.params "move", .str "move" tS1, .ref sd_k1⟩, ⟨PyData.keyHash w.params "cross", .str "cross" tS2, .ref sd_k2⟩] epS, #[]⟩)
    (l_S0 : K.lookup sd_k0 = some ⟨.type "tuple", odS0, .seq #[.ref sd_j00, .ref sd_j01] nS0, slS0⟩)
    (l_S00 : K.lookup sd_j00 = some ⟨.type "tuple", odS00, .seq #[.int 0 aS00_0, .int 1 aS00_1] nS00, slS00⟩)
    (l_S01 : K.lookup sd_j01 = some ⟨.type "tuple", odS01, .seq #[.int 1 aS01_0, .int 0 aS01_1] nS01, slS01⟩)
    (l_S1 : K.lookup sd_k1 = some ⟨.type "tuple", odS1, .seq #[.ref sd_j10, .ref sd_j11] nS1, slS1⟩)
    (l_S10 : K.lookup sd_j10 = some ⟨.type "tuple", odS10, .seq #[.int 1 aS10_0, .int 0 aS10_1, .int 2 aS10_2] nS10, slS10⟩)
    (l_S11 : K.lookup sd_j11 = some ⟨.type "tuple", odS11, .seq #[.int 2 aS11_0, .int 1 aS11_1, .int 0 aS11_2] nS11, slS11⟩)
    (l_S2 : K.lookup sd_k2 = some ⟨.type "tuple", odS2, .seq #[.ref sd_j20, .ref sd_j21] nS2, slS2⟩)
    (l_S20 : K.lookup sd_j20 = some ⟨.type "tuple", odS20, .seq #[.int 1 aS20_0, .int 0 aS20_1, .int 3 aS20_2, .int 2 aS20_3] nS20, slS20⟩)
    (l_S21 : K.lookup sd_j21 = some ⟨.type "tuple", odS21, .seq #[.int 3 aS21_0, .int 2 aS21_1, .int 1 aS21_2, .int 0 aS21_3] nS21, slS21⟩)
    (a_MendError : PySem.W.nsIn K mainGlobals "MendError" = some (some (.ref c_MendError)))
    (x_MendError : K.lookup c_MendError = some (excClassObj nm_MendError q_MendError c_MendError N_MendError_ bs_MendError bm_MendError true sn_MendError sub_MendError ab_MendError col_MendError dd_MendError k0_MendError k1_MendError k2_MendError k3_MendError k5_MendError "ValueError.__new__"))
    (a_InvalidImage : PySem.W.nsIn K mainGlobals "InvalidImage" = some (some (.ref c_InvalidImage)))
    (x_InvalidImage : K.lookup c_InvalidImage = some (excClassObj nm_InvalidImage q_InvalidImage c_InvalidImage N_InvalidImage_ bs_InvalidImage [.ref c_MendError, .type "ValueError", .type "Exception", .type "BaseException", .type "object"] true sn_InvalidImage sub_InvalidImage ab_InvalidImage col_InvalidImage dd_InvalidImage k0_InvalidImage k1_InvalidImage k2_InvalidImage k3_InvalidImage k5_InvalidImage "ValueError.__new__"))
    (kc_InvalidImage : PySem.W.keepIn K (.ref c_InvalidImage) = true)
    (sa_InvalidImage : PySem.W.findIn K (.ref c_InvalidImage) "__setattr__" = some (some (.builtin "object.__setattr__")))
    (ga_InvalidImage : PySem.W.findIn K (.ref c_InvalidImage) "__getattribute__" = some (some (.builtin "BaseException.__getattribute__")))
    (gg_InvalidImage : PySem.W.findIn K (.ref c_InvalidImage) "__getattr__" = some none)
    (ca_InvalidImage : PySem.W.findIn K (.ref c_InvalidImage) "__class__" = some (some (.builtin "object.__class__")))
    (i_is_InvalidImage : PySem.W.findIn K (.ref c_InvalidImage) "__init__" = some (some (.ref i_InvalidImage)))
    (t_InvalidImage : PySem.W.typeIn K (.ref i_InvalidImage) = some (.type "function"))
    (nf_InvalidImage : PySem.W.findIn K (.ref c_InvalidImage) "record" = some none)
    (l_i_InvalidImage : K.lookup i_InvalidImage = some ⟨oc_i_InvalidImage, od_i_InvalidImage, .func (PySem.W.fnOf "__init__" "InvalidImage.__init__" (defArgs s_InvalidImage) (defBody s_InvalidImage) (defScope s_InvalidImage) .none kV_i_InvalidImage doc_i_InvalidImage pm_i_InvalidImage an_i_InvalidImage cd_i_InvalidImage ct_i_InvalidImage), sl_i_InvalidImage⟩)
    (cd_is_i_InvalidImage : PySem.W.codeIn K cd_i_InvalidImage "InvalidImage.__init__" = true)
    (k_i_InvalidImage : PySem.W.keepIn K (.ref i_InvalidImage) = true)
    (a_InvalidKind : PySem.W.nsIn K mainGlobals "InvalidKind" = some (some (.ref c_InvalidKind)))
    (x_InvalidKind : K.lookup c_InvalidKind = some (excClassObj nm_InvalidKind q_InvalidKind c_InvalidKind N_InvalidKind_ bs_InvalidKind [.ref c_MendError, .type "ValueError", .type "Exception", .type "BaseException", .type "object"] true sn_InvalidKind sub_InvalidKind ab_InvalidKind col_InvalidKind dd_InvalidKind k0_InvalidKind k1_InvalidKind k2_InvalidKind k3_InvalidKind k5_InvalidKind "ValueError.__new__"))
    (kc_InvalidKind : PySem.W.keepIn K (.ref c_InvalidKind) = true)
    (sa_InvalidKind : PySem.W.findIn K (.ref c_InvalidKind) "__setattr__" = some (some (.builtin "object.__setattr__")))
    (ga_InvalidKind : PySem.W.findIn K (.ref c_InvalidKind) "__getattribute__" = some (some (.builtin "BaseException.__getattribute__")))
    (gg_InvalidKind : PySem.W.findIn K (.ref c_InvalidKind) "__getattr__" = some none)
    (ca_InvalidKind : PySem.W.findIn K (.ref c_InvalidKind) "__class__" = some (some (.builtin "object.__class__")))
    (q_is_InvalidKind : PySem.W.excIn K c_InvalidKind [.type "ValueError", .type "Exception", .type "BaseException", .type "object"] "ValueError.__new__" = true)
    (a_InvalidChange : PySem.W.nsIn K mainGlobals "InvalidChange" = some (some (.ref c_InvalidChange)))
    (x_InvalidChange : K.lookup c_InvalidChange = some (excClassObj nm_InvalidChange q_InvalidChange c_InvalidChange N_InvalidChange_ bs_InvalidChange [.ref c_MendError, .type "ValueError", .type "Exception", .type "BaseException", .type "object"] true sn_InvalidChange sub_InvalidChange ab_InvalidChange col_InvalidChange dd_InvalidChange k0_InvalidChange k1_InvalidChange k2_InvalidChange k3_InvalidChange k5_InvalidChange "ValueError.__new__"))
    (kc_InvalidChange : PySem.W.keepIn K (.ref c_InvalidChange) = true)
    (sa_InvalidChange : PySem.W.findIn K (.ref c_InvalidChange) "__setattr__" = some (some (.builtin "object.__setattr__")))
    (ga_InvalidChange : PySem.W.findIn K (.ref c_InvalidChange) "__getattribute__" = some (some (.builtin "BaseException.__getattribute__")))
    (gg_InvalidChange : PySem.W.findIn K (.ref c_InvalidChange) "__getattr__" = some none)
    (ca_InvalidChange : PySem.W.findIn K (.ref c_InvalidChange) "__class__" = some (some (.builtin "object.__class__")))
    (q_is_InvalidChange : PySem.W.excIn K c_InvalidChange [.type "ValueError", .type "Exception", .type "BaseException", .type "object"] "ValueError.__new__" = true)
    (cn : PySem.W.specialIn K (.builtin "object.__class__") "__get__" = some (some (.builtin "getset_descriptor.__get__")))
    (ct : PySem.W.takesIn K (.builtin "object.__class__") = some true)
    (nd : [c_MendError, c_InvalidImage, c_InvalidKind, c_InvalidChange].Nodup)
    (z_int : PySem.W.nsIn K mainGlobals "int" = some none)
    (z_bool : PySem.W.nsIn K mainGlobals "bool" = some none)
    (z_list : PySem.W.nsIn K mainGlobals "list" = some none)
    (z_str : PySem.W.nsIn K mainGlobals "str" = some none)
    (z_tuple : PySem.W.nsIn K mainGlobals "tuple" = some none)
    (z_len : PySem.W.nsIn K mainGlobals "len" = some none)
    (z_range : PySem.W.nsIn K mainGlobals "range" = some none)
    (z_enumerate : PySem.W.nsIn K mainGlobals "enumerate" = some none)
    (z_isinstance : PySem.W.nsIn K mainGlobals "isinstance" = some none)
    (z_all : PySem.W.nsIn K mainGlobals "all" = some none)
    (z_min : PySem.W.nsIn K mainGlobals "min" = some none)
    (z_max : PySem.W.nsIn K mainGlobals "max" = some none)
    (z_sorted : PySem.W.nsIn K mainGlobals "sorted" = some none)
    (z_set : PySem.W.nsIn K mainGlobals "set" = some none)
    (z_abs : PySem.W.nsIn K mainGlobals "abs" = some none)
    (z_zip : PySem.W.nsIn K mainGlobals "zip" = some none)
    (z_ValueError : PySem.W.nsIn K mainGlobals "ValueError" = some none)
    : ∃ fd : FuncData, (∀ (s : Shared) (v : Value), BindsTo s fd ⟨[v], []⟩ [("script", v)]) ∧ ∀ base : Heap, K.In base → base.Ns mainGlobals mg → FnOk l.prog w K mg base CX0 8 fa fd ["script"] (spLaw K) := by
  have e := hfa.symm.trans (PySem.W.mg_of X G a_law)
  cases e
  obtain ⟨A, hA⟩ : ∃ A : Ad, A = ⟨f_check_image, f_check_change, f_sides, f_side_of, f_in_order, f_shown, f_law_mix, f_law_box, f_law_draw, f_law_whole, f_law_row, f_law_names, f_law_valid, f_law_taken, f_law_formed, f_law_side_due, f_law_list_told, f_law_sides_kept, f_law_check_kept, f_law_image, f_law_side_kept, f_law_bent, f_law_refused, f_law_bent_kept, fa, c_SIDES, c_MendError, c_InvalidImage, c_InvalidKind, c_InvalidChange, i_InvalidImage⟩ := ⟨_, rfl⟩
  have T : Txt K mg A := {
    g_check_image := by rw [hA]; exact PySem.W.mg_of X G a_check_image,
    k_check_image := by rw [hA]; exact k_check_image,
    d_check_image := by rw [hA]; exact ⟨_, fun_mk (st := s_check_image) l_check_image cd_is_check_image k_check_image⟩,
    g_check_change := by rw [hA]; exact PySem.W.mg_of X G a_check_change,
    k_check_change := by rw [hA]; exact k_check_change,
    d_check_change := by rw [hA]; exact ⟨_, fun_mk (st := s_check_change) l_check_change cd_is_check_change k_check_change⟩,
    g_sides := by rw [hA]; exact PySem.W.mg_of X G a_sides,
    k_sides := by rw [hA]; exact k_sides,
    d_sides := by rw [hA]; exact ⟨_, fun_mk (st := s_sides) l_sides cd_is_sides k_sides⟩,
    g_side_of := by rw [hA]; exact PySem.W.mg_of X G a_side_of,
    k_side_of := by rw [hA]; exact k_side_of,
    d_side_of := by rw [hA]; exact ⟨_, fun_mk (st := s_side_of) l_side_of cd_is_side_of k_side_of⟩,
    g_in_order := by rw [hA]; exact PySem.W.mg_of X G a_in_order,
    k_in_order := by rw [hA]; exact k_in_order,
    d_in_order := by rw [hA]; exact ⟨_, fun_mk (st := s_in_order) l_in_order cd_is_in_order k_in_order⟩,
    g_shown := by rw [hA]; exact PySem.W.mg_of X G a_shown,
    k_shown := by rw [hA]; exact k_shown,
    d_shown := by rw [hA]; exact ⟨_, fun_mk (st := s_shown) l_shown cd_is_shown k_shown⟩,
    g_law_mix := by rw [hA]; exact PySem.W.mg_of X G a_law_mix,
    k_law_mix := by rw [hA]; exact k_law_mix,
    d_law_mix := by rw [hA]; exact ⟨_, fun_mk (st := s_law_mix) l_law_mix cd_is_law_mix k_law_mix⟩,
    g_law_box := by rw [hA]; exact PySem.W.mg_of X G a_law_box,
    k_law_box := by rw [hA]; exact k_law_box,
    d_law_box := by rw [hA]; exact ⟨_, fun_mk (st := s_law_box) l_law_box cd_is_law_box k_law_box⟩,
    g_law_draw := by rw [hA]; exact PySem.W.mg_of X G a_law_draw,
    k_law_draw := by rw [hA]; exact k_law_draw,
    d_law_draw := by rw [hA]; exact ⟨_, fun_mk (st := s_law_draw) l_law_draw cd_is_law_draw k_law_draw⟩,
    g_law_whole := by rw [hA]; exact PySem.W.mg_of X G a_law_whole,
    k_law_whole := by rw [hA]; exact k_law_whole,
    d_law_whole := by rw [hA]; exact ⟨_, fun_mk (st := s_law_whole) l_law_whole cd_is_law_whole k_law_whole⟩,
    g_law_row := by rw [hA]; exact PySem.W.mg_of X G a_law_row,
    k_law_row := by rw [hA]; exact k_law_row,
    d_law_row := by rw [hA]; exact ⟨_, fun_mk (st := s_law_row) l_law_row cd_is_law_row k_law_row⟩,
    g_law_names := by rw [hA]; exact PySem.W.mg_of X G a_law_names,
    k_law_names := by rw [hA]; exact k_law_names,
    d_law_names := by rw [hA]; exact ⟨_, fun_mk (st := s_law_names) l_law_names cd_is_law_names k_law_names⟩,
    g_law_valid := by rw [hA]; exact PySem.W.mg_of X G a_law_valid,
    k_law_valid := by rw [hA]; exact k_law_valid,
    d_law_valid := by rw [hA]; exact ⟨_, fun_mk (st := s_law_valid) l_law_valid cd_is_law_valid k_law_valid⟩,
    g_law_taken := by rw [hA]; exact PySem.W.mg_of X G a_law_taken,
    k_law_taken := by rw [hA]; exact k_law_taken,
    d_law_taken := by rw [hA]; exact ⟨_, fun_mk (st := s_law_taken) l_law_taken cd_is_law_taken k_law_taken⟩,
    g_law_formed := by rw [hA]; exact PySem.W.mg_of X G a_law_formed,
    k_law_formed := by rw [hA]; exact k_law_formed,
    d_law_formed := by rw [hA]; exact ⟨_, fun_mk (st := s_law_formed) l_law_formed cd_is_law_formed k_law_formed⟩,
    g_law_side_due := by rw [hA]; exact PySem.W.mg_of X G a_law_side_due,
    k_law_side_due := by rw [hA]; exact k_law_side_due,
    d_law_side_due := by rw [hA]; exact ⟨_, fun_mk (st := s_law_side_due) l_law_side_due cd_is_law_side_due k_law_side_due⟩,
    g_law_list_told := by rw [hA]; exact PySem.W.mg_of X G a_law_list_told,
    k_law_list_told := by rw [hA]; exact k_law_list_told,
    d_law_list_told := by rw [hA]; exact ⟨_, fun_mk (st := s_law_list_told) l_law_list_told cd_is_law_list_told k_law_list_told⟩,
    g_law_sides_kept := by rw [hA]; exact PySem.W.mg_of X G a_law_sides_kept,
    k_law_sides_kept := by rw [hA]; exact k_law_sides_kept,
    d_law_sides_kept := by rw [hA]; exact ⟨_, fun_mk (st := s_law_sides_kept) l_law_sides_kept cd_is_law_sides_kept k_law_sides_kept⟩,
    g_law_check_kept := by rw [hA]; exact PySem.W.mg_of X G a_law_check_kept,
    k_law_check_kept := by rw [hA]; exact k_law_check_kept,
    d_law_check_kept := by rw [hA]; exact ⟨_, fun_mk (st := s_law_check_kept) l_law_check_kept cd_is_law_check_kept k_law_check_kept⟩,
    g_law_image := by rw [hA]; exact PySem.W.mg_of X G a_law_image,
    k_law_image := by rw [hA]; exact k_law_image,
    d_law_image := by rw [hA]; exact ⟨_, fun_mk (st := s_law_image) l_law_image cd_is_law_image k_law_image⟩,
    g_law_side_kept := by rw [hA]; exact PySem.W.mg_of X G a_law_side_kept,
    k_law_side_kept := by rw [hA]; exact k_law_side_kept,
    d_law_side_kept := by rw [hA]; exact ⟨_, fun_mk (st := s_law_side_kept) l_law_side_kept cd_is_law_side_kept k_law_side_kept⟩,
    g_law_bent := by rw [hA]; exact PySem.W.mg_of X G a_law_bent,
    k_law_bent := by rw [hA]; exact k_law_bent,
    d_law_bent := by rw [hA]; exact ⟨_, fun_mk (st := s_law_bent) l_law_bent cd_is_law_bent k_law_bent⟩,
    g_law_refused := by rw [hA]; exact PySem.W.mg_of X G a_law_refused,
    k_law_refused := by rw [hA]; exact k_law_refused,
    d_law_refused := by rw [hA]; exact ⟨_, fun_mk (st := s_law_refused) l_law_refused cd_is_law_refused k_law_refused⟩,
    g_law_bent_kept := by rw [hA]; exact PySem.W.mg_of X G a_law_bent_kept,
    k_law_bent_kept := by rw [hA]; exact k_law_bent_kept,
    d_law_bent_kept := by rw [hA]; exact ⟨_, fun_mk (st := s_law_bent_kept) l_law_bent_kept cd_is_law_bent_kept k_law_bent_kept⟩,
    g_law := by rw [hA]; exact PySem.W.mg_of X G a_law,
    k_law := by rw [hA]; exact k_law,
    d_law := by rw [hA]; exact ⟨_, fun_mk (st := s_law) l_law cd_is_law k_law⟩,
    g_SIDES := by rw [hA]; exact PySem.W.mg_of X G a_SIDES,
    e_MendError := by rw [hA]; exact ⟨PySem.W.mg_of X G a_MendError, ⟨_, _, _, _, _, _, _, _, _, _, _, _, _, _, _, x_MendError⟩⟩,
    e_InvalidImage := by rw [hA]; exact ⟨PySem.W.mg_of X G a_InvalidImage, kc_InvalidImage, ⟨_, _, _, _, _, _, _, _, _, _, _, _, _, _, x_InvalidImage⟩, sa_InvalidImage, ga_InvalidImage, gg_InvalidImage, ca_InvalidImage⟩,
    f_InvalidImage := by rw [hA]; exact ⟨i_is_InvalidImage, t_InvalidImage, nf_InvalidImage, ⟨_, fun_mk (st := s_InvalidImage) l_i_InvalidImage cd_is_i_InvalidImage k_i_InvalidImage⟩⟩,
    e_InvalidKind := by rw [hA]; exact ⟨PySem.W.mg_of X G a_InvalidKind, kc_InvalidKind, ⟨_, _, _, _, _, _, _, _, _, _, _, _, _, _, x_InvalidKind⟩, sa_InvalidKind, ga_InvalidKind, gg_InvalidKind, ca_InvalidKind⟩,
    q_InvalidKind := by rw [hA]; exact q_is_InvalidKind,
    e_InvalidChange := by rw [hA]; exact ⟨PySem.W.mg_of X G a_InvalidChange, kc_InvalidChange, ⟨_, _, _, _, _, _, _, _, _, _, _, _, _, _, x_InvalidChange⟩, sa_InvalidChange, ga_InvalidChange, gg_InvalidChange, ca_InvalidChange⟩,
    q_InvalidChange := by rw [hA]; exact q_is_InvalidChange,
    cn := cn,
    ct := ct,
    nd := by rw [hA]; exact nd,
    n_int := PySem.W.mg_none_of X G z_int,
    n_bool := PySem.W.mg_none_of X G z_bool,
    n_list := PySem.W.mg_none_of X G z_list,
    n_str := PySem.W.mg_none_of X G z_str,
    n_tuple := PySem.W.mg_none_of X G z_tuple,
    n_len := PySem.W.mg_none_of X G z_len,
    n_range := PySem.W.mg_none_of X G z_range,
    n_enumerate := PySem.W.mg_none_of X G z_enumerate,
    n_isinstance := PySem.W.mg_none_of X G z_isinstance,
    n_all := PySem.W.mg_none_of X G z_all,
    n_min := PySem.W.mg_none_of X G z_min,
    n_max := PySem.W.mg_none_of X G z_max,
    n_sorted := PySem.W.mg_none_of X G z_sorted,
    n_set := PySem.W.mg_none_of X G z_set,
    n_abs := PySem.W.mg_none_of X G z_abs,
    n_zip := PySem.W.mg_none_of X G z_zip,
    n_ValueError := PySem.W.mg_none_of X G z_ValueError }
  have hS : SdK w K A.SIDES := by rw [hA]; exact sides_mk sm_SIDES l_SIDES l_S0 l_S00 l_S01 l_S1 l_S10 l_S11 l_S2 l_S20 l_S21
  have FL := fun_mk (st := s_law) l_law cd_is_law k_law
  have eL : A.law = fa := by rw [hA]
  refine ⟨PySem.W.fnOf "law" "law" (defArgs s_law) (defBody s_law) (defScope s_law) .none kV_law doc_law pm_law an_law cd_law ct_law, fun s v => .of_eq rfl, fun base _ _ => ?_⟩
  rw [← eL] at FL ⊢
  have g_InvalidImage := ok_InvalidImage (P := l.prog) (w := w) (base := base) T 
  have g_check_image := ok_check_image (P := l.prog) (w := w) (base := base) T g_InvalidImage
  have g_law_mix := ok_law_mix (P := l.prog) (w := w) (base := base) T 
  have g_law_box := ok_law_box (P := l.prog) (w := w) (base := base) T 
  have g_law_draw := ok_law_draw (P := l.prog) (w := w) (base := base) T g_law_mix
  have g_law_whole := ok_law_whole (P := l.prog) (w := w) (base := base) T 
  have h_law_whole := okh_law_whole (P := l.prog) (w := w) (base := base) T 
  have g_law_row := ok_law_row (P := l.prog) (w := w) (base := base) T g_law_whole
  have g_law_list_told := ok_law_list_told (P := l.prog) (w := w) (base := base) T g_law_whole
  have g_law_names := ok_law_names (P := l.prog) (w := w) (base := base) T 
  have g_law_valid := ok_law_valid (P := l.prog) (w := w) (base := base) T 
  have h_law_valid := okh_law_valid (P := l.prog) (w := w) (base := base) T 
  have g_law_taken := ok_law_taken (P := l.prog) (w := w) (base := base) T g_law_draw
  have g_law_formed := ok_law_formed (P := l.prog) (w := w) (base := base) T 
  have g_law_side_due := ok_law_side_due (P := l.prog) (w := w) (base := base) T 
  have g_in_order := ok_in_order (P := l.prog) (w := w) (base := base) T 
  have g_shown := ok_shown (P := l.prog) (w := w) (base := base) T 
  have g_check_change := ok_check_change (P := l.prog) (w := w) (base := base) T hS g_in_order
  have g_sides := ok_sides (P := l.prog) (w := w) (base := base) T hS g_shown
  have g_side_of := ok_side_of (P := l.prog) (w := w) (base := base) T g_check_image g_check_change g_sides
  have g_law_sides_kept := ok_law_sides_kept (P := l.prog) (w := w) (base := base) T g_law_names g_sides g_law_list_told g_law_side_due
  have g_law_check_kept := ok_law_check_kept (P := l.prog) (w := w) (base := base) T g_check_change g_law_valid h_law_valid
  have g_law_image := ok_law_image (P := l.prog) (w := w) (base := base) T g_law_draw g_law_names
  have g_law_side_kept := ok_law_side_kept (P := l.prog) (w := w) (base := base) T g_law_names g_side_of g_law_row g_law_whole
  have g_law_bent := ok_law_bent (P := l.prog) (w := w) (base := base) T g_law_draw
  have g_law_refused := ok_law_refused (P := l.prog) (w := w) (base := base) T g_side_of g_law_draw h_law_whole
  have g_law_bent_kept := ok_law_bent_kept (P := l.prog) (w := w) (base := base) T g_law_bent g_law_check_kept g_law_draw g_law_valid g_law_side_kept g_law_refused
  exact ok_law T FL g_law_box g_law_draw g_law_formed g_law_taken g_law_sides_kept g_law_check_kept g_law_side_kept g_law_image g_law_bent_kept
theorem walk {l : PySem.W.OpenLaw} {q : Program} {loose : List Str} {XP : (Str → Option Value) → Heap → Prop} {YP : World → Heap → Prop} {d : DefRec} {K : Params → PySem.W.Frag} (hn : l.most = some 63) (hdf : d.params.defaults = [])
    (hY : ∀ (w : World) (h : Heap), YP w h → (K w.params).In h)
    (F : ∀ (w : World) (mg : Str → Option Value) (fa : Addr) (h : Heap), (K w.params).In h → h.Ns mainGlobals mg → mg d.name = some (.ref fa) →
      ∃ fd : FuncData, (∀ (s : Shared) (u : Value), BindsTo s fd ⟨[u], []⟩ [("script", u)]) ∧ ∀ base : Heap, (K w.params).In base → base.Ns mainGlobals mg → FnOk l.prog w (K w.params) mg base CX0 8 fa fd ["script"] (spLaw (K w.params))) :
    PySem.W.WalkO q loose XP YP l.row.toRowW d [] (fun f vs => PySem.call f vs) :=
  L2.walk_of (n := 63) (k := 8) (x := "script") (CX := fun _ => CX0) (sp := fun w => spLaw (K w.params)) hn (by decide) hdf ⟨rfl, by decide, by decide⟩ hY F (fun _ _ a ns hl _ hS => ⟨a, ns, rfl, hS, hl, fun _ => rfl⟩) fun _ _ _ _ _ z => z
end Pv

open PySem PySem.W PyProof.Rows
set_option maxRecDepth 100000 in
set_option maxHeartbeats 0 in
theorem PySem.Challenge.cw_peermend_k09_sides_of_changes_holds : PySem.Challenge.rw_peermend_k09_sides_of_changes.Holds := by
  w_on; o_law; k_head; (case hw => w_witness2)
  k_fill
  refine Pv.walk (l := PySem.Challenge.rw_peermend_k09_sides_of_changes) rfl rfl (fun w h Y => PySem.W.kIn_of Y) ?F
  case F =>
    intro w mg fa h KX G hmg
    refine' Pv.all_mk KX G hmg ?qa_check_image ?ql_check_image ?qcd_is_check_image ?qk_check_image ?qa_check_change ?ql_check_change ?qcd_is_check_change ?qk_check_change ?qa_sides ?ql_sides ?qcd_is_sides ?qk_sides ?qa_side_of ?ql_side_of ?qcd_is_side_of ?qk_side_of ?qa_in_order ?ql_in_order ?qcd_is_in_order ?qk_in_order ?qa_shown ?ql_shown ?qcd_is_shown ?qk_shown ?qa_law_mix ?ql_law_mix ?qcd_is_law_mix ?qk_law_mix ?qa_law_box ?ql_law_box ?qcd_is_law_box ?qk_law_box ?qa_law_draw ?ql_law_draw ?qcd_is_law_draw ?qk_law_draw ?qa_law_whole ?ql_law_whole ?qcd_is_law_whole ?qk_law_whole ?qa_law_row ?ql_law_row ?qcd_is_law_row ?qk_law_row ?qa_law_names ?ql_law_names ?qcd_is_law_names ?qk_law_names ?qa_law_valid ?ql_law_valid ?qcd_is_law_valid ?qk_law_valid ?qa_law_taken ?ql_law_taken ?qcd_is_law_taken ?qk_law_taken ?qa_law_formed ?ql_law_formed ?qcd_is_law_formed ?qk_law_formed ?qa_law_side_due ?ql_law_side_due ?qcd_is_law_side_due ?qk_law_side_due ?qa_law_list_told ?ql_law_list_told ?qcd_is_law_list_told ?qk_law_list_told ?qa_law_sides_kept ?ql_law_sides_kept ?qcd_is_law_sides_kept ?qk_law_sides_kept ?qa_law_check_kept ?ql_law_check_kept ?qcd_is_law_check_kept ?qk_law_check_kept ?qa_law_image ?ql_law_image ?qcd_is_law_image ?qk_law_image ?qa_law_side_kept ?ql_law_side_kept ?qcd_is_law_side_kept ?qk_law_side_kept ?qa_law_bent ?ql_law_bent ?qcd_is_law_bent ?qk_law_bent ?qa_law_refused ?ql_law_refused ?qcd_is_law_refused ?qk_law_refused ?qa_law_bent_kept ?ql_law_bent_kept ?qcd_is_law_bent_kept ?qk_law_bent_kept ?qa_law ?ql_law ?qcd_is_law ?qk_law ?qa_SIDES ?qsm_SIDES ?ql_SIDES ?ql_S0 ?ql_S00 ?ql_S01 ?ql_S1 ?ql_S10 ?ql_S11 ?ql_S2 ?ql_S20 ?ql_S21 ?qa_MendError ?qx_MendError ?qa_InvalidImage ?qx_InvalidImage ?qkc_InvalidImage ?qsa_InvalidImage ?qga_InvalidImage ?qgg_InvalidImage ?qca_InvalidImage ?qi_is_InvalidImage ?qt_InvalidImage ?qnf_InvalidImage ?ql_i_InvalidImage ?qcd_is_i_InvalidImage ?qk_i_InvalidImage ?qa_InvalidKind ?qx_InvalidKind ?qkc_InvalidKind ?qsa_InvalidKind ?qga_InvalidKind ?qgg_InvalidKind ?qca_InvalidKind ?qq_is_InvalidKind ?qa_InvalidChange ?qx_InvalidChange ?qkc_InvalidChange ?qsa_InvalidChange ?qga_InvalidChange ?qgg_InvalidChange ?qca_InvalidChange ?qq_is_InvalidChange ?qcn ?qct ?qnd ?qz_int ?qz_bool ?qz_list ?qz_str ?qz_tuple ?qz_len ?qz_range ?qz_enumerate ?qz_isinstance ?qz_all ?qz_min ?qz_max ?qz_sorted ?qz_set ?qz_abs ?qz_zip ?qz_ValueError
    (case qa_check_image => k_is)
    (case ql_check_image => k_is)
    (case qcd_is_check_image => k_is)
    (case qk_check_image => k_is)
    (case qa_check_change => k_is)
    (case ql_check_change => k_is)
    (case qcd_is_check_change => k_is)
    (case qk_check_change => k_is)
    (case qa_sides => k_is)
    (case ql_sides => k_is)
    (case qcd_is_sides => k_is)
    (case qk_sides => k_is)
    (case qa_side_of => k_is)
    (case ql_side_of => k_is)
    (case qcd_is_side_of => k_is)
    (case qk_side_of => k_is)
    (case qa_in_order => k_is)
    (case ql_in_order => k_is)
    (case qcd_is_in_order => k_is)
    (case qk_in_order => k_is)
    (case qa_shown => k_is)
    (case ql_shown => k_is)
    (case qcd_is_shown => k_is)
    (case qk_shown => k_is)
    (case qa_law_mix => k_is)
    (case ql_law_mix => k_is)
    (case qcd_is_law_mix => k_is)
    (case qk_law_mix => k_is)
    (case qa_law_box => k_is)
    (case ql_law_box => k_is)
    (case qcd_is_law_box => k_is)
    (case qk_law_box => k_is)
    (case qa_law_draw => k_is)
    (case ql_law_draw => k_is)
    (case qcd_is_law_draw => k_is)
    (case qk_law_draw => k_is)
    (case qa_law_whole => k_is)
    (case ql_law_whole => k_is)
    (case qcd_is_law_whole => k_is)
    (case qk_law_whole => k_is)
    (case qa_law_row => k_is)
    (case ql_law_row => k_is)
    (case qcd_is_law_row => k_is)
    (case qk_law_row => k_is)
    (case qa_law_names => k_is)
    (case ql_law_names => k_is)
    (case qcd_is_law_names => k_is)
    (case qk_law_names => k_is)
    (case qa_law_valid => k_is)
    (case ql_law_valid => k_is)
    (case qcd_is_law_valid => k_is)
    (case qk_law_valid => k_is)
    (case qa_law_taken => k_is)
    (case ql_law_taken => k_is)
    (case qcd_is_law_taken => k_is)
    (case qk_law_taken => k_is)
    (case qa_law_formed => k_is)
    (case ql_law_formed => k_is)
    (case qcd_is_law_formed => k_is)
    (case qk_law_formed => k_is)
    (case qa_law_side_due => k_is)
    (case ql_law_side_due => k_is)
    (case qcd_is_law_side_due => k_is)
    (case qk_law_side_due => k_is)
    (case qa_law_list_told => k_is)
    (case ql_law_list_told => k_is)
    (case qcd_is_law_list_told => k_is)
    (case qk_law_list_told => k_is)
    (case qa_law_sides_kept => k_is)
    (case ql_law_sides_kept => k_is)
    (case qcd_is_law_sides_kept => k_is)
    (case qk_law_sides_kept => k_is)
    (case qa_law_check_kept => k_is)
    (case ql_law_check_kept => k_is)
    (case qcd_is_law_check_kept => k_is)
    (case qk_law_check_kept => k_is)
    (case qa_law_image => k_is)
    (case ql_law_image => k_is)
    (case qcd_is_law_image => k_is)
    (case qk_law_image => k_is)
    (case qa_law_side_kept => k_is)
    (case ql_law_side_kept => k_is)
    (case qcd_is_law_side_kept => k_is)
    (case qk_law_side_kept => k_is)
    (case qa_law_bent => k_is)
    (case ql_law_bent => k_is)
    (case qcd_is_law_bent => k_is)
    (case qk_law_bent => k_is)
    (case qa_law_refused => k_is)
    (case ql_law_refused => k_is)
    (case qcd_is_law_refused => k_is)
    (case qk_law_refused => k_is)
    (case qa_law_bent_kept => k_is)
    (case ql_law_bent_kept => k_is)
    (case qcd_is_law_bent_kept => k_is)
    (case qk_law_bent_kept => k_is)
    (case qa_law => k_is)
    (case ql_law => k_is)
    (case qcd_is_law => k_is)
    (case qk_law => k_is)
    (case qa_SIDES => k_is)
    (case qsm_SIDES => first | decide | rfl | k_is)
    (case ql_SIDES => k_is)
    (case ql_S0 => k_is)
    (case ql_S00 => k_is)
    (case ql_S01 => k_is)
    (case ql_S1 => k_is)
    (case ql_S10 => k_is)
    (case ql_S11 => k_is)
    (case ql_S2 => k_is)
    (case ql_S20 => k_is)
    (case ql_S21 => k_is)
    (case qa_MendError => k_is)
    (case qx_MendError => k_is)
    (case qa_InvalidImage => k_is)
    (case qx_InvalidImage => k_is)
    (case qkc_InvalidImage => k_is)
    (case qsa_InvalidImage => k_is)
    (case qga_InvalidImage => k_is)
    (case qgg_InvalidImage => k_is)
    (case qca_InvalidImage => k_is)
    (case qi_is_InvalidImage => k_is)
    (case qt_InvalidImage => k_is)
    (case qnf_InvalidImage => k_is)
    (case ql_i_InvalidImage => k_is)
    (case qcd_is_i_InvalidImage => k_is)
    (case qk_i_InvalidImage => k_is)
    (case qa_InvalidKind => k_is)
    (case qx_InvalidKind => k_is)
    (case qkc_InvalidKind => k_is)
    (case qsa_InvalidKind => k_is)
    (case qga_InvalidKind => k_is)
    (case qgg_InvalidKind => k_is)
    (case qca_InvalidKind => k_is)
    (case qq_is_InvalidKind => k_exc)
    (case qa_InvalidChange => k_is)
    (case qx_InvalidChange => k_is)
    (case qkc_InvalidChange => k_is)
    (case qsa_InvalidChange => k_is)
    (case qga_InvalidChange => k_is)
    (case qgg_InvalidChange => k_is)
    (case qca_InvalidChange => k_is)
    (case qq_is_InvalidChange => k_exc)
    (case qcn => k_is)
    (case qct => k_is)
    (case qnd => decide)
    (case qz_int => k_is)
    (case qz_bool => k_is)
    (case qz_list => k_is)
    (case qz_str => k_is)
    (case qz_tuple => k_is)
    (case qz_len => k_is)
    (case qz_range => k_is)
    (case qz_enumerate => k_is)
    (case qz_isinstance => k_is)
    (case qz_all => k_is)
    (case qz_min => k_is)
    (case qz_max => k_is)
    (case qz_sorted => k_is)
    (case qz_set => k_is)
    (case qz_abs => k_is)
    (case qz_zip => k_is)
    (case qz_ValueError => k_is)
