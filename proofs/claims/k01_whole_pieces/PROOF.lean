import PyProof.Rows.All
import Wide.All
import OpenK.AllK
import Wide.FinOn
import KE.KIsAll
import KE.KExcIs
import HandS.ForMost
import HandS.ForExc
import HandS.TryMany
import HandS.ExcInit
import HandS.ExcValue
import HandS.ExcField
import HandS.IsInst
import HandS.ExcIs
import HandS.Small
import HandS.Wide
import HandS.Flow
import HandS.Evl
import HandS.Conv
import HandS.Walk
import KE.KDictKeyed
import KE.KDictList
import KE.KDictDisplayH
import HandS.SetKeys
import HandS.DictComp
import HandS.NoneIn
import HandS.SortInts
import HandS.SortOrd
import HandS.TupAny
import HandS.ListItems
import HandS.SortRule
import PySem.Challenge.RW_peermend_k01_whole_pieces_of_built_image
import PySem.Challenge.RW_peermend_k01_whole_pieces_of_built_image
set_option Elab.async false
set_option linter.all false
set_option maxRecDepth 100000
set_option maxHeartbeats 4000000
namespace L2
open PySem PySem.Spec PyProof.Rows

/-- an error object held as a value: without a dict, or with one that holds fields -/
def ErrT (H : Hp) (a C : Addr) : Prop := H a = some (ExO (.ref C) a) ∨ ∃ (dx : Addr) (fs : List (Str × V)), H a = some (exo a C (some dx)) ∧ H dx = some (exd dx fs)
/-- isinstance of such a value -/
def rIsX (K : PySem.W.Frag) : List V → Hp → VK → Prop := fun xs H Q => ∃ (a C : Addr) (c : V) (u : Value) (b : Bool), xs = [.ref a, c] ∧ ErrT H a C ∧ ExcC K C ∧ ClsV c u ∧ PySem.W.kitOne K (.ref C) u = some b ∧ Q (.bl b) H
theorem clsIn_some {K : PySem.W.Frag} {C : Addr} (h : PySem.W.hasDictIn K C = true) : (PySem.W.clsIn K C).isSome = true := by
  obtain ⟨cd, hc, _⟩ := PySem.W.any_some h
  rw [hc]
  rfl
theorem kitX_err {K : PySem.W.Frag} {C a : Addr} {oe : Obj} {od : Option Obj} (D : ExcC K C) : PySem.W.KitX K (.ref a) (.ref C) (fun h => PySem.W.InstAt h a oe C od) :=
  PySem.W.kitx_exc (clsIn_some D.hd) D.hg D.hk D.hs D.ha D.hn D.ht D.hm
theorem call_isX {X : Cx} : CallR X (.builtin "isinstance") (rIsX X.K) := by
  intro pins s σ H xs us Q I r h
  obtain ⟨a, C, c, u, b, rfl, T, D, k, e, q⟩ := h
  obtain ⟨u1, u2, rfl, r1, r2⟩ := vals2 r
  have e2 := k.eq r2
  subst e2
  cases (show u1 = Value.ref a from r1)
  rcases T with ea | ⟨dx, fs, ea, ed⟩
  · have x : ObjOk X.prog X.w H s.heap a (ExO (.ref C) a) := I.hok a _ ea
    obtain ⟨⟨oe, vs, ho, hz, hd, _⟩, _, _⟩ := x
    obtain ⟨oc, odi, oda, osl⟩ := oe
    obtain ⟨h1, h2⟩ := hz
    dsimp only at h1 h2 hd
    subst h1 h2 hd
    exact PySem.W.kia_one (kitX_err (od := none) D) I.kIn ⟨ho, rfl, rfl, trivial⟩ e (fun z => nomatch z) fun tk => ⟨.bl b, H, I.tok tk, rfl, q⟩
  · obtain ⟨t1, ho⟩ := exo_at I.hok ea
    obtain ⟨mA, hns, _⟩ := exd_at I.hok ed
    obtain ⟨od, ho2, _⟩ := lookIn_ns hns
    exact PySem.W.kia_one (kitX_err (od := some od) D) I.kIn ⟨ho, rfl, rfl, ho2⟩ e (fun z => nomatch z) fun tk => ⟨.bl b, H, I.tok tk, rfl, q⟩
/-- isinstance(e, c), e the exception that the suite holds, with its dict -/
def rIsS (K : PySem.W.Frag) (a : Addr) (cls : Value) (d : Option Addr) : List V → Hp → VK → Prop := fun xs H Q => ∃ (C dd : Addr) (fs : List (Str × V)) (c : V) (u : Value) (b : Bool), xs = [.ref a, c] ∧ cls = .ref C ∧ d = some dd ∧ H dd = some (.xd fs) ∧
  ExcC K C ∧ ClsV c u ∧ PySem.W.kitOne K (.ref C) u = some b ∧ Q (.bl b) H
theorem call_isS {X : Cx} {K : PySem.W.Frag} {a : Addr} {cls : Value} {d : Option Addr} {oe : Obj} {pn : List (Addr × Obj)} (hK : X.K = K) (hz : Zc cls d oe) (hf : ∃ vs, oe.data = .fields vs) : CallR (X.suite a ((a, oe) :: pn)) (.builtin "isinstance") (rIsS K a cls d) := by
  subst hK
  intro pins s σ H xs us Q I r h
  obtain ⟨C, dd, fs, c, u, b, rfl, rfl, rfl, ea, D, k, e, q⟩ := h
  obtain ⟨u1, u2, rfl, r1, r2⟩ := vals2 r
  have e2 := k.eq r2
  subst e2
  cases (show u1 = Value.ref a from r1)
  obtain ⟨hget, _⟩ := I.pin (a, oe) (List.mem_append.mpr (.inl List.mem_cons_self))
  obtain ⟨vs, hv⟩ := hf
  have hx : ObjOk X.prog X.w H s.heap dd (.xd fs) := I.hok dd _ ea
  obtain ⟨mA, hns, hr⟩ := hx
  obtain ⟨od, ho, hl⟩ := lookIn_ns hns
  have J : PySem.W.InstAt s.heap a oe C (some od) := ⟨hget, hz.1, by unfold PySem.W.notCls; rw [hv] <;> rfl, by rw [hz.2]; exact ho⟩
  exact PySem.W.kia_one (kitX_err D) I.kIn J e (fun z => nomatch z) fun tk => ⟨.bl b, H, I.kept (t' := tk) fun _ _ z => z, rfl, q⟩

section
variable {X : Cx} {C : Addr} {bmB : List Value} {B newId initId : String} {x : Str} {p pos : Pos}
/-- X(), raised: an own exception class without own __init__ -/
theorem pmk_own0 (F : ExcBaseFacts B newId initId bmB) (q : PySem.W.excIn X.K C bmB newId = true) (gC : X.mg x = some (.ref C)) (kC : PySem.W.keepIn X.K (.ref C) = true) (r : Raises X (.ref C)) (hg : Gl X x)
    (hdb : (x == ("__debug__" : Str)) = false := by decide) : PMk X (.Call (.Name x p) [] [] pos) (fun _ H Q => Q (.ref C) none H) := by
  intro pins s σ H Q I h
  refine wpAny_Call_Name_kw (ld_glob I hg gC ?_ hdb)
  refine PySem.W.callWith_K0 I.kIn kC ?_
  obtain ⟨bm, N, nm, qn, bs, hdct, sn, sub, ab, col, dd, k0, k1, k2, k3, k5, mN, hC, hN, hni, T⟩ := exc_obj I.kIn q
  refine wpAny_call_exc_subT F T hC hN hni (fun h' e hm => ?_) (Nat.zero_le _)
  exact mk_of I hm r h (I.hok.gone hm.new)
/-- X(), as a value -/
theorem pe_exc0 (F : ExcBaseFacts B newId initId bmB) (q : PySem.W.excIn X.K C bmB newId = true) (gC : X.mg x = some (.ref C)) (kC : PySem.W.keepIn X.K (.ref C) = true) (hg : Gl X x)
    (hdb : (x == ("__debug__" : Str)) = false := by decide) : PE X (.Call (.Name x p) [] [] pos) (fun _ H Q => ∀ a, H a = none → Q (.ref a) (upd H a (ExO (.ref C) a))) := by
  refine ⟨fun pins s σ H Q I h => ?_⟩
  refine wpAny_Call_Name_kw (ld_glob I hg gC ?_ hdb)
  refine PySem.W.callWith_K0 I.kIn kC ?_
  obtain ⟨bm, N, nm, qn, bs, hdct, sn, sub, ab, col, dd, k0, k1, k2, k3, k5, mN, hC, hN, hni, T⟩ := exc_obj I.kIn q
  refine wpAny_call_exc_subT F T hC hN hni (fun h' a hm => ?_) (Nat.zero_le _)
  have hn : H a = none := I.hok.gone hm.new
  obtain ⟨t, ht, _, _⟩ := hm.there
  exact ⟨.ref a, upd H a (ExO (.ref C) a), I.laidN hm.keeps hm.new hn (exO_ok ht ⟨rfl, rfl⟩ rfl rfl rfl (show 4 < 6 by decide)), rfl, h a hn⟩
end
/-- X(e, ..) as a value, its own __init__ keeping sp -/
def tMkV (C : Addr) (sp : Sp) (ta : TA) : TE := fun σ H Q => ta σ H fun vs H1 => vs.length ≤ 1000 ∧ ∀ a, H1 a = none → sp (.ref a :: vs) (upd H1 a (exo a C none)) (fun v H2 => v = .non ∧ Q (.ref a) H2) (fun _ _ _ => False)
section
variable {X : Cx} {e : Expr} {es : List Expr} {ta : TA} {p pos : Pos}
theorem pe_oexV {CX : CXT} {x : Str} {C fI : Addr} {k : Nat} {fd : FuncData} {ps : List Str} {sp : Sp} (T : OexC X.K C) (iC : PySem.W.findIn X.K (.ref C) "__init__" = some (some (.ref fI))) (tI : PySem.W.typeIn X.K (.ref fI) = some (.type "function"))
    (F1 : FnOk X.prog X.w X.K X.mg X.base CX k fI fd ps sp) (hr : Room (k + 1) X.A) (hb : Binds X.K fd ps []) (hx : Passes CX X (fun _ _ _ => False)) (hg : Gl X x) (hm : X.mg x = some (.ref C)) (ha : PA X (e :: es) ta)
    (hdb : (x == ("__debug__" : Str)) = false := by decide) (he : starEach (e :: es) X.env = (false, eval e X.env) :: starEach es X.env := by rfl) (hpl : (backTo pos (starEach es X.env)).any (·.1) = false := by rfl) :
    PE X (.Call (.Name x p) (e :: es) [] pos) (tMkV C sp ta) := by
  refine ⟨fun pins s σ H Q I h => ?_⟩
  obtain ⟨nm, q, N, bs, bm, sn, sub, ab, col, dd, k0, k1, k2, k3, k5, hC, hmro⟩ := T.cls
  refine wpAny_Call_Name_kw (ld_glob I hg hm ?_ hdb)
  refine PySem.W.callWith_K (h₀ := X.base) I.ok.mod.kin T.kC (thn (ha.run pos pins s σ H _ I h) fun us s1 ⟨vs, H1, I1, r1, hz, q1⟩ => ⟨I1.kIn, ?_⟩) he hpl
  show wpAny _ _ (call (.ref C) us) _ _ _
  obtain ⟨hh, g, dw, tc, ow⟩ := s1
  have hgt : hh.objs.size ≤ hh.objs.size + 1 := Nat.le_succ _
  have fr1 : H1 (hh.objs.size + 1) = none := I1.hok.fresh hgt
  have pr1 := q1 (hh.objs.size + 1) fr1
  have kp1 : ∀ b o, hh.get? b = some o → ((hh.push (PySem.W.kdv_tup us)).push (PySem.HandSPX.excO C hh.objs.size)).get? b = some o := fun b o e => Heap.get?_push_of_some _ (Heap.get?_push_of_some _ e)
  have ob1 : ((hh.push (PySem.W.kdv_tup us)).push (PySem.HandSPX.excO C hh.objs.size)).get? (hh.objs.size + 1) = some (PySem.HandSPX.excO C hh.objs.size) := by heap_get
  have Iv2 : Inv X pins σ (upd H1 (hh.objs.size + 1) (exo (hh.objs.size + 1) C none)) ⟨(hh.push (PySem.W.kdv_tup us)).push (PySem.HandSPX.excO C hh.objs.size), g, dw, tc, ow⟩ :=
    I1.laid (t' := tc) (a := hh.objs.size + 1) (o := exo (hh.objs.size + 1) C none) (h' := (hh.push (PySem.W.kdv_tup us)).push (PySem.HandSPX.excO C hh.objs.size)) kp1 hgt (exo_ok ob1)
  have rl2 : Vals (V.ref (hh.objs.size + 1) :: vs) (Value.ref (hh.objs.size + 1) :: us) := .cons rfl r1
  have ln1 : (Value.ref (hh.objs.size + 1) :: us).length = ps.length := by
    have e := rl2.length
    rw [F1.len _ _ _ _ pr1] at e
    exact e.symm
  have ln2 : us.length ≤ sizeLine := by
    rw [← Paired.length r1, sizeLine_eq]
    omega
  have b0 := hb ⟨(hh.push (PySem.W.kdv_tup us)).push (PySem.HandSPX.excO C hh.objs.size), g, dw, tc, ow⟩ (Value.ref (hh.objs.size + 1) :: us) Iv2.kIn (by rw [List.append_nil]; exact ln1)
  rw [List.append_nil] at b0
  refine wpAny_call (PySem.HandSPX.call_own F.excBase_ValueError (fun Y => PySem.HandSPX.refsVE_contains Y bm hmro) (I1.kIn _ _ hC) (PySem.W.looks_findIn I1.kIn iC) (fun self => PySem.W.bind_fn I1.kIn self tI) ln2
    (codeAny_mono (F1.run _ X.stack _ _ ⟨Value.ref (hh.objs.size + 1) :: us, []⟩ (Value.ref (hh.objs.size + 1) :: us) _ _ (fun _ _ _ => False) (hr.make C us []) (Iv2.env0.make C us []) b0 rl2 pr1) fun r s' hq' => ?_))
  cases r with
  | error er => exact hx pins σ _ _ er s' Iv2 hq'
  | ok fl =>
    cases fl with
    | ret u =>
      obtain ⟨v, H2, os2, bare2, un2, hok2, rv, ev, q2⟩ := hq'
      subst ev
      exact ⟨rv, .ref (hh.objs.size + 1), H2, Iv2.call' (ch := []) os2 un2 hok2 bare2 (fun b z => absurd z (by simp)), rfl, q2⟩
    | next => exact False.elim hq'
    | brk => exact False.elim hq'
    | cont => exact False.elim hq'
/-- err.f, err an error held as a value -/
def tXa (K : PySem.W.Frag) (f : Str) (te : TE) : TE := fun σ H Q => te σ H fun x H1 => ∃ (a C dx : Addr) (fs : List (Str × V)) (v : V), x = .ref a ∧ H1 a = some (exo a C (some dx)) ∧ H1 dx = some (exd dx fs) ∧ XfC K C ∧ PySem.W.findIn K (.ref C) f = some none ∧ fs.lookup f = some v ∧ Q v H1
theorem pe_xa {te : TE} {n : Str} (he : PE X e te) (hb : attributeBase e n X.env (eval e X.env) = eval e X.env := by rfl) : PE X (.Attribute e n pos) (tXa X.K n te) := by
  refine ⟨fun pins s σ H Q I h => ?_⟩
  refine attr_of hb (thn (he.run pins s σ H _ I h) fun u s1 hh => ?_)
  obtain ⟨x, H1, I1, rx, a, C, dx, fs, v, ex, ea, ed, T, hno, l, q⟩ := hh
  subst ex
  obtain rfl : u = Value.ref a := rx
  obtain ⟨t1, ho⟩ := exo_at I1.hok ea
  obtain ⟨mA, hns, hr⟩ := exd_at I1.hok ed
  obtain ⟨od, ho2, ln1⟩ := lookIn_ns hns
  obtain ⟨u, hu, ru⟩ := RelO.some_of (v := v) (o := mA n) (by rw [← l]; exact hr n)
  have J : PySem.W.InstAt s1.heap a _ C (some od) := ⟨ho, rfl, rfl, ho2⟩
  exact HandSPX.exc_get I1.kIn J T.ga T.gg T.exC (PySem.W.findObj_own T.hdC hno rfl (by rw [ln1, hu])) (handed_of ru) ⟨v, H1, I1.tok _, ru, q⟩
end
theorem ix_listK {X : Cx} {K : PySem.W.Frag} (h : X.K = K) : IxR X (rIxL K) := by
  subst h
  exact ix_list
theorem ix_tupK {X : Cx} {K : PySem.W.Frag} (h : X.K = K) : IxR X (rIxT K) := by
  subst h
  exact ix_tup
/-! several except clauses, some with names -/
/-- what is behind a suite with (slot i) or without a name -/
def goneD (oi : Option Nat) (D : Ends) : Ends := match oi with
  | none => D
  | some i => { nx := fun σ' H' => D.nx (σ'.set i none) H', rt := D.rt, bk := fun σ' H' => D.bk (σ'.set i none) H', ct := fun σ' H' => D.ct (σ'.set i none) H' }
def hadS (oi : Option Nat) (a : Addr) (σ : St) : St := match oi with
  | none => σ
  | some i => σ.set i (some (.ref a))
def wManyN (K : PySem.W.Frag) (Wout : WX) (D : Ends) : List (Value × Option Nat × (Addr → Value → Option Addr → TS)) → WX
  | [] => Wout
  | (c, oi, ts) :: r => fun cls d σ H => ∃ b, PySem.W.exmOne K cls c = some b ∧ (b = true → ∀ a, H a = none → ts a cls d (goneD oi D) (hadS oi a σ) H) ∧ (b = false → wManyN K Wout D r cls d σ H)
inductive HdsN (X : Cx) : List ExceptHandler → List (Value × Option Nat × (Addr → Value → Option Addr → TS)) → Prop
  | nil : HdsN X [] []
  | cons {x : Str} {c : Value} {ts : Addr → Value → Option Addr → TS} {b₀ : Stmt} {suite : List Stmt} {np pos' : Pos} {hds : List ExceptHandler} {l : List (Value × Option Nat × (Addr → Value → Option Addr → TS))} (hc : Names X x c)
      (hsu : ∀ (a : Addr) (oe : Obj) (cls : Value) (d : Option Addr) (pn : List (Addr × Obj)), Zc cls d oe → (∃ vs, oe.data = .fields vs) → PSs (X.suite a ((a, oe) :: pn)) (b₀ :: suite) (ts a cls d)) (r : HdsN X hds l) :
      HdsN X (.ExceptHandler (some (.Name x np)) none (b₀ :: suite) pos' :: hds) ((c, none, ts) :: l)
  | consN {x n : Str} {i : Nat} {c : Value} {ts : Addr → Value → Option Addr → TS} {b₀ : Stmt} {suite : List Stmt} {np pos' : Pos} {hds : List ExceptHandler} {l : List (Value × Option Nat × (Addr → Value → Option Addr → TS))} (hN : X.N.Nodup) (hi : X.N[i]? = some n) (hln : X.env.kindOf n = some .local) (hc : Names X x c)
      (hsu : ∀ (a : Addr) (oe : Obj) (cls : Value) (d : Option Addr) (pn : List (Addr × Obj)), Zc cls d oe → (∃ vs, oe.data = .fields vs) → PSs (X.suite a ((a, oe) :: pn)) (b₀ :: suite) (ts a cls d)) (r : HdsN X hds l) :
      HdsN X (.ExceptHandler (some (.Name x np)) (some n) (b₀ :: suite) pos' :: hds) ((c, some i, ts) :: l)
section
variable {X : Cx} {body : List Stmt} {h₀ : ExceptHandler} {hds : List ExceptHandler} {l : List (Value × Option Nat × (Addr → Value → Option Addr → TS))} {pos : Pos} {tb : WX → TS} {Wout : WX}
theorem ps_try_manyN (hs : X.stack = X.env :: X.outer) (hf : X.env.frame = some X.env.locals) (tk : Takes X Wout)
    (hb : ∀ (W : WX) (pn : List (Addr × Obj)) (xe : Value → Shared → Prop), Takes (X.tr pn xe) W → PassesOwn (model X.prog X.w) X.A X.env xe → PSs (X.tr pn xe) body (tb W))
    (hh : HdsN X (h₀ :: hds) l) : PS X (.Try body (h₀ :: hds) [] [] pos) (fun D σ H => tb (wManyN X.K Wout D l) D σ H) := by
  refine ⟨fun pins s σ H D I h => ?_⟩
  have ok := I.ok
  have frA : X.A.frames = some (X.env :: X.outer) := by rw [ok.frames, hs]
  refine wpAny_Try_except ?_
  refine wpAny_mono ((hb (wManyN X.K Wout D l) (X.pn ++ pins) (fun e s₁ => wpAny (model X.prog X.w) X.A (noteFrame e X.env) (fun _ s₂ => wpAny (model X.prog X.w) X.A (setFlight e none) (fun _ s₃ =>
    wpAny (model X.prog X.w) X.A (handleBy e X.env (h₀ :: hds)) (SP X pins D) X.xe s₃) X.xe s₂) X.xe s₁) (fun u s' xx => ?_) PassesOwn.looking).run [] s σ H D (I.toTry _) h) (fun f s1 back => ?_) (fun e s1 he => he)
  · -- the catch
    obtain ⟨a, B, sI, pins', σ', H', cls, d, rfl, J', nb, up, sky, na, os, ag, w⟩ := xx
    have J : Inv X pins σ' H' sI := J'.ofTry ok
    have skyE : Sky B (X.env :: X.outer) a (Zc cls d) X.env.locals s'.heap := by rw [← hs]; exact sky
    show wpAny (model X.prog X.w) X.A (noteFrame (.ref a) X.env) _ _ _
    refine Sky.land Zc.steady frA hf skyE fun h3 fz3 ut3 => ?_
    have Jn3 : Inv X pins σ' H' { s' with heap := h3 } := J.landed nb fz3.1 (up.trans ut3) os ag
    obtain ⟨ox3, xs3, ob3, zc3, dt3⟩ := fz3.there
    have aside : ∀ {h : Heap} {o : Obj} {vs : Array Value}, h.FunFrames B (X.env :: X.outer) → h.get? a = some o → o.data = .fields vs → a ∉ frs (X.env :: X.outer) := fun {h o vs} ff e dd hm => by
      obtain ⟨_, o', e', hnf⟩ := ff.mem hm
      rw [e] at e'; cases e'
      exact hnf _ dd
    have offF := aside fz3.2.2.1 ob3 dt3
    have offL : a ≠ X.env.locals := fun z => offF (List.mem_filterMap.mpr ⟨X.env, List.mem_cons_self, by rw [hf, z]⟩)
    have offS : a ∉ X.fs := fun hm => by
      obtain ⟨e, he, q⟩ := List.mem_filterMap.mp hm
      exact offF (List.mem_filterMap.mpr ⟨e, List.mem_cons_of_mem _ he, q⟩)
    have In3 := Jn3.suite ob3 dt3 na offL offS
    have go : ∀ {hds' : List ExceptHandler} {l' : List (Value × Option Nat × (Addr → Value → Option Addr → TS))}, HdsN X hds' l' → wManyN X.K Wout D l' cls d σ' H' →
        wpAny (model X.prog X.w) X.A (handleBy (.ref a) X.env hds') (SP X pins D) X.xe { s' with heap := h3 } := by
      intro hds' l' hk
      induction hk with
      | nil =>
        intro w
        refine wpAny_handleBy_nil ?_
        obtain ⟨k1, k2, k3, oe, vs, T, oT, ts', he, hz, hd, h1, hr⟩ := id fz3
        unfold PySem.passOn
        refine wpAny_bind (wpAny_field he hd h1 ?_)
        rw [if_neg (show ¬ ((Value.ref T == Value.none) = true) from by simp)]
        have fin : wpAny (model X.prog X.w) X.A (setFlight (.ref a) X.env.frame) (fun _ s4 => wpAny (model X.prog X.w) X.A (throw (.ref a) : Sem Flow) (SP X pins D) X.xe s4) X.xe { s' with heap := h3 } := by
          rw [hf]
          refine HandSPX.setFlight_upZ fz3 fun h4 hh4 ut4 => wpAny_throw (tk _ _ ?_)
          exact ⟨a, B, sI, pins, σ', H', cls, d, rfl, J, nb, (up.trans ut3).trans ut4, .inr (.inr (by rw [hs]; exact hh4)), na, os, ag, w⟩
        first
          | exact wpAny_bind (wpAny_pure (wpAny_bind fin))
          | exact wpAny_bind fin
      | @cons x c ts b₀ suite np pos' hds2 l2 hc hsu r ih =>
        intro w
        obtain ⟨b, hx1, yes, nay⟩ := w
        refine wpAny_handleBy_cons (codeAny_handlers_test ?_) (by intro q; cases q)
        have lkT : PySem.W.Looks (model X.prog X.w) h3 (typeOf (.ref a)) cls := fun A Q E s k q => wpAny_typeOf_ref (k _ _ ob3) (by rw [zc3.1]; exact q)
        have lkM := PySem.W.exm_one (M := model X.prog X.w) (Jn3.kIn) lkT hx1
        have test : ∀ {Q : Value → Shared → Prop} {E : Value → Shared → Prop}, Q c { s' with heap := h3 } → wpAny (model X.prog X.w) (X.A.mark (some (.ref a))) (eval (.Name x np) X.env) Q E { s' with heap := h3 } := fun {Q E} q => by
          obtain ⟨hg, hdbg, hm | ⟨hm, hv, hnn⟩⟩ := hc
          · exact ld_glob (X := X.suite a ((a, ox3) :: (X.pn ++ pins))) In3 hg hm q hdbg
          · exact ld_blt (X := X.suite a ((a, ox3) :: (X.pn ++ pins))) In3 hg hm hv q hnn hdbg
        refine test (lkM.here ?_)
        cases b with
        | true =>
          refine codeAny_handlers_suite ?_
          refine HandSPX.lands_againZ fz3 fun h4 fz4 ut4 => ?_
          have Jn4 : Inv X pins σ' H' { s' with heap := h4 } := J.landed nb fz4.1 ((up.trans ut3).trans ut4) os ag
          obtain ⟨ox4, xs4, ob4, zc4, dt4⟩ := fz4.there
          have In4 := Jn4.suite ob4 dt4 na offL offS
          refine wpAny_mono ((hsu a ox4 cls d (X.pn ++ pins) zc4 ⟨_, dt4⟩).run [] _ _ H' _ In4 (yes rfl a na)) (fun f t6 back => ?_) (fun _ _ z => False.elim z)
          cases f with
          | next =>
            obtain ⟨σb, Hb, Inb, qb⟩ := back
            exact ⟨_, _, Inb.unsuite ok, qb⟩
          | brk =>
            obtain ⟨σb, Hb, Inb, qb⟩ := back
            exact ⟨_, _, Inb.unsuite ok, qb⟩
          | cont =>
            obtain ⟨σb, Hb, Inb, qb⟩ := back
            exact ⟨_, _, Inb.unsuite ok, qb⟩
          | ret u =>
            obtain ⟨vb, σb, Hb, Inb, rb, qb⟩ := back
            exact ⟨_, _, _, Inb.unsuite ok, rb, qb⟩
        | false =>
          show wpAny _ X.A (handleBy (.ref a) X.env hds2) _ _ _
          exact ih (nay rfl)
      | @consN x n i c ts b₀ suite np pos' hds2 l2 hN hi hln hc hsu r ih =>
        intro w
        obtain ⟨b, hx1, yes, nay⟩ := w
        have hloc : Loc X.env.scope n := .inl hln
        refine wpAny_handleBy_cons (codeAny_handlers_test ?_) (by intro q; cases q)
        have lkT : PySem.W.Looks (model X.prog X.w) h3 (typeOf (.ref a)) cls := fun A Q E s k q => wpAny_typeOf_ref (k _ _ ob3) (by rw [zc3.1]; exact q)
        have lkM := PySem.W.exm_one (M := model X.prog X.w) (Jn3.kIn) lkT hx1
        have test : ∀ {Q : Value → Shared → Prop} {E : Value → Shared → Prop}, Q c { s' with heap := h3 } → wpAny (model X.prog X.w) (X.A.mark (some (.ref a))) (eval (.Name x np) X.env) Q E { s' with heap := h3 } := fun {Q E} q => by
          obtain ⟨hg, hdbg, hm | ⟨hm, hv, hnn⟩⟩ := hc
          · exact ld_glob (X := X.suite a ((a, ox3) :: (X.pn ++ pins))) In3 hg hm q hdbg
          · exact ld_blt (X := X.suite a ((a, ox3) :: (X.pn ++ pins))) In3 hg hm hv q hnn hdbg
        refine test (lkM.here ?_)
        cases b with
        | true =>
          refine codeAny_handlers_suite_as ?_
          refine HandSPX.lands_againZ fz3 fun h4 fz4 ut4 => ?_
          have Jn4 : Inv X pins σ' H' { s' with heap := h4 } := J.landed nb fz4.1 ((up.trans ut3).trans ut4) os ag
          obtain ⟨ox4, xs4, ob4, zc4, dt4⟩ := fz4.there
          have In4 := Jn4.suite ob4 dt4 na offL offS
          refine store_ok (X := X.suite a ((a, ox4) :: (X.pn ++ pins))) (v := .ref a) In4 hN hi hloc rfl (fun t5 In5 => ?_) (.inr hln)
          refine wpAny_mono ((hsu a ox4 cls d (X.pn ++ pins) zc4 ⟨_, dt4⟩).run [] t5 _ H' _ In5 (yes rfl a na)) (fun f t6 back => ?_) (fun _ _ z => False.elim z)
          have gone : ∀ {σb : St} {Hb : Hp} {Q : Shared → Prop}, Inv (X.suite a ((a, ox4) :: (X.pn ++ pins))) [] σb Hb t6 → (∀ s7, Inv X pins (σb.set i none) Hb s7 → Q s7) →
              wpAny (model X.prog X.w) X.A (do bindName X.env n .none; unbindBehindTheSuite X.env n pos') (fun _ s7 => Q s7) X.xe t6 := fun {σb Hb Q} Inb hq => gone_ok (Inb.unsuite ok) hN hi hln hq
          cases f with
          | next =>
            obtain ⟨σb, Hb, Inb, qb⟩ := back
            exact gone Inb fun s7 J7 => ⟨_, _, J7, qb⟩
          | brk =>
            obtain ⟨σb, Hb, Inb, qb⟩ := back
            exact gone Inb fun s7 J7 => ⟨_, _, J7, qb⟩
          | cont =>
            obtain ⟨σb, Hb, Inb, qb⟩ := back
            exact gone Inb fun s7 J7 => ⟨_, _, J7, qb⟩
          | ret u =>
            obtain ⟨vb, σb, Hb, Inb, rb, qb⟩ := back
            exact gone Inb fun s7 J7 => ⟨_, _, _, J7, rb, qb⟩
        | false =>
          show wpAny _ X.A (handleBy (.ref a) X.env hds2) _ _ _
          exact ih (nay rfl)
    exact go hh w
  · cases f with
    | next =>
      obtain ⟨σ', H', J', q⟩ := back
      exact wpAny_execs_nil ⟨σ', H', J'.ofTry ok, q⟩
    | brk =>
      obtain ⟨σ', H', J', q⟩ := back
      exact ⟨σ', H', J'.ofTry ok, q⟩
    | cont =>
      obtain ⟨σ', H', J', q⟩ := back
      exact ⟨σ', H', J'.ofTry ok, q⟩
    | ret u =>
      obtain ⟨v, σ', H', J', r, q⟩ := back
      exact ⟨v, σ', H', J'.ofTry ok, r, q⟩
end
end L2

namespace Pm
/-! ### forms and blocks -/
def form : Nat → List Nat
  | 0 => [0] | 1 => [1, 0] | 2 => [1, 1] | 3 => [1, 2, 1] | 4 => [1, 2, 2] | 5 => [1, 2, 1, 2] | 6 => [1, 2, 3, 2] | _ => [1, 2, 3, 0]
abbrev Bk := Nat × List Nat
structure Blk (ys : List Nat) (b : Bk) : Prop where
  w : b.1 < 8
  len : b.2.length = (form b.1).length
  sh : ∀ k, k < b.2.length → ys.getD (b.2.getD k 0) 0 = b.2.getD ((form b.1).getD k 0) 0
structure Built (ys : List Nat) (bs : List Bk) : Prop where
  blk : ∀ b ∈ bs, Blk ys b
  perm : (bs.flatMap (·.2)).Perm (List.range ys.length)
theorem form_len (w : Nat) : 0 < (form w).length := by
  unfold form
  split <;> decide
theorem form_lt (w k : Nat) (h : k < (form w).length) : (form w).getD k 0 < (form w).length := by
  unfold form at h ⊢
  split at h <;> (simp at h ⊢; rcases k with _ | _ | _ | _ | k <;> simp at h ⊢ <;> omega)
/-- the least of a list -/
def mn : List Nat → Nat
  | [] => 0
  | [a] => a
  | a :: b :: l => min a (mn (b :: l))
theorem mn_mem : ∀ {l : List Nat}, l ≠ [] → mn l ∈ l
  | [], h => absurd rfl h
  | [a], _ => by simp [mn]
  | a :: b :: l, _ => by
    have ih := mn_mem (l := b :: l) (by simp)
    unfold mn
    by_cases h : a ≤ mn (b :: l)
    · rw [Nat.min_eq_left h]; exact List.mem_cons_self ..
    · rw [Nat.min_eq_right (by omega)]; exact List.mem_cons_of_mem _ ih
theorem mn_le : ∀ {l : List Nat} {x : Nat}, x ∈ l → mn l ≤ x
  | [a], x, h => by
    rw [List.mem_singleton.mp h]
    exact Nat.le_refl _
  | a :: b :: l, x, h => by
    unfold mn
    rcases List.mem_cons.mp h with e | h
    · rw [e]; exact Nat.min_le_left _ _
    · exact Nat.le_trans (Nat.min_le_right _ _) (mn_le h)
theorem uniq : ∀ {bs : List Bk} {b c : Bk} {x : Nat}, (bs.flatMap (·.2)).Nodup → b ∈ bs → c ∈ bs → x ∈ b.2 → x ∈ c.2 → b = c
  | a :: bs, b, c, x, nd, hb, hc, xb, xc => by
    rw [List.flatMap_cons, List.nodup_append] at nd
    rcases List.mem_cons.mp hb with e1 | hb
    · rcases List.mem_cons.mp hc with e2 | hc
      · rw [e1, e2]
      · exact absurd rfl (nd.2.2 x (e1 ▸ xb) x (List.mem_flatMap.mpr ⟨c, hc, xc⟩))
    · rcases List.mem_cons.mp hc with e2 | hc
      · exact absurd rfl (nd.2.2 x (e2 ▸ xc) x (List.mem_flatMap.mpr ⟨b, hb, xb⟩))
      · exact uniq nd.2.1 hb hc xb xc
theorem nd_of : ∀ {bs : List Bk} {b : Bk}, (bs.flatMap (·.2)).Nodup → b ∈ bs → b.2.Nodup
  | a :: bs, b, nd, hb => by
    rw [List.flatMap_cons, List.nodup_append] at nd
    rcases List.mem_cons.mp hb with e1 | hb
    · rw [e1]; exact nd.1
    · exact nd_of nd.2.1 hb
def beta (bs : List Bk) (x : Nat) : Nat := match bs.find? (fun b => b.2.contains x) with
  | some b => mn b.2
  | none => x
section
variable {ys : List Nat} {bs : List Bk}
theorem Built.nd (B : Built ys bs) : (bs.flatMap (·.2)).Nodup := B.perm.nodup_iff.mpr List.nodup_range
theorem Built.lt (B : Built ys bs) {b : Bk} (hb : b ∈ bs) {x : Nat} (hx : x ∈ b.2) : x < ys.length :=
  List.mem_range.mp (B.perm.mem_iff.mp (List.mem_flatMap.mpr ⟨b, hb, hx⟩))
theorem Built.of (B : Built ys bs) {x : Nat} (hx : x < ys.length) : ∃ b ∈ bs, x ∈ b.2 := by
  obtain ⟨b, hb, h⟩ := List.mem_flatMap.mp (B.perm.mem_iff.mpr (List.mem_range.mpr hx))
  exact ⟨b, hb, h⟩
theorem Built.beta_of (B : Built ys bs) {b : Bk} (hb : b ∈ bs) {x : Nat} (hx : x ∈ b.2) : beta bs x = mn b.2 := by
  unfold beta
  cases h : bs.find? (fun b => b.2.contains x) with
  | none =>
    have := List.find?_eq_none.mp h b hb
    simp [hx] at this
  | some c =>
    have h1 := List.mem_of_find?_eq_some h
    have h2 := List.find?_some h
    have h3 : x ∈ c.2 := by simpa using h2
    rw [uniq B.nd hb h1 hx h3]
theorem Built.ne (B : Built ys bs) {b : Bk} (hb : b ∈ bs) : b.2 ≠ [] := fun z => by
  have h := (B.blk b hb).len
  have := form_len b.1
  rw [z] at h
  simp at h
  omega
theorem Built.mn_beta (B : Built ys bs) {b : Bk} (hb : b ∈ bs) : beta bs (mn b.2) = mn b.2 := B.beta_of hb (mn_mem (B.ne hb))
theorem Built.beta_le (B : Built ys bs) {x : Nat} (hx : x < ys.length) : beta bs x ≤ x := by
  obtain ⟨b, hb, h⟩ := B.of hx
  rw [B.beta_of hb h]
  exact mn_le h
theorem getD_mem {l : List Nat} {k : Nat} (h : k < l.length) : l.getD k 0 ∈ l := by
  rw [List.getD_eq_getElem?_getD, List.getElem?_eq_getElem h]
  exact List.getElem_mem h
theorem mem_getD {l : List Nat} {x : Nat} (h : x ∈ l) : ∃ k, k < l.length ∧ l.getD k 0 = x := by
  obtain ⟨k, hk, e⟩ := List.getElem_of_mem h
  exact ⟨k, hk, by rw [List.getD_eq_getElem?_getD, List.getElem?_eq_getElem hk]; exact e⟩
/-- what a record shows is of its block -/
theorem Built.shown (B : Built ys bs) {b : Bk} (hb : b ∈ bs) {x : Nat} (hx : x ∈ b.2) : ys.getD x 0 ∈ b.2 := by
  obtain ⟨k, hk, rfl⟩ := mem_getD hx
  have Q := B.blk b hb
  rw [Q.sh k hk]
  exact getD_mem (by rw [Q.len]; exact form_lt _ _ (by rw [← Q.len]; exact hk))
theorem Built.edge (B : Built ys bs) {x : Nat} (hx : x < ys.length) : ys.getD x 0 < ys.length ∧ beta bs (ys.getD x 0) = beta bs x := by
  obtain ⟨b, hb, h⟩ := B.of hx
  have h2 := B.shown hb h
  exact ⟨B.lt hb h2, by rw [B.beta_of hb h, B.beta_of hb h2]⟩
end
/-! ### the labels -/
def stepL (L : List Nat) (r nm : Nat) : List Nat := if min (L.getD r 0) (L.getD nm 0) = max (L.getD r 0) (L.getD nm 0) then L else L.map fun o => if o = max (L.getD r 0) (L.getD nm 0) then min (L.getD r 0) (L.getD nm 0) else o
def lab (ys : List Nat) : Nat → List Nat
  | 0 => List.range ys.length
  | i + 1 => stepL (lab ys i) i (ys.getD i 0)
structure Lab (ys : List Nat) (bs : List Bk) (i : Nat) (L : List Nat) : Prop where
  len : L.length = ys.length
  le : ∀ x, x < ys.length → L.getD x 0 ≤ x
  fx : ∀ x, x < ys.length → L.getD (L.getD x 0) 0 = L.getD x 0
  bl : ∀ x, x < ys.length → beta bs (L.getD x 0) = beta bs x
  ed : ∀ r, r < i → r < ys.length → L.getD r 0 = L.getD (ys.getD r 0) 0
theorem getD_map {L : List Nat} {f : Nat → Nat} {x : Nat} (h : x < L.length) : (L.map f).getD x 0 = f (L.getD x 0) := by
  rw [List.getD_eq_getElem?_getD, List.getElem?_map, List.getD_eq_getElem?_getD, List.getElem?_eq_getElem h]
  rfl
theorem getD_range {n x : Nat} (h : x < n) : (List.range n).getD x 0 = x := by
  rw [List.getD_eq_getElem?_getD, List.getElem?_range h]
  rfl
theorem lab_ok {ys : List Nat} {bs : List Bk} (B : Built ys bs) : ∀ i, i ≤ ys.length → Lab ys bs i (lab ys i)
  | 0, _ => ⟨List.length_range, fun x hx => by show (List.range _).getD x 0 ≤ x; rw [getD_range hx]; exact Nat.le_refl _,
      fun x hx => by show (List.range _).getD ((List.range _).getD x 0) 0 = (List.range _).getD x 0; rw [getD_range hx, getD_range hx],
      fun x hx => by show beta bs ((List.range _).getD x 0) = _; rw [getD_range hx], fun r h => absurd h (Nat.not_lt_zero _)⟩
  | i + 1, hi => by
    have ih := lab_ok B i (by omega)
    have hin : i < ys.length := by omega
    obtain ⟨hnm, hbe⟩ := B.edge hin
    show Lab ys bs (i + 1) (stepL (lab ys i) i (ys.getD i 0))
    generalize lab ys i = L at ih
    generalize hnmE : ys.getD i 0 = nm at hnm hbe
    unfold stepL
    have a1 := ih.fx i hin
    have b1 := ih.fx nm hnm
    have a2 := ih.le i hin
    have b2 := ih.le nm hnm
    have a3 := ih.bl i hin
    have b3 := ih.bl nm hnm
    generalize ha : L.getD i 0 = a at *
    generalize hb : L.getD nm 0 = b at *
    by_cases heq : min a b = max a b
    · rw [if_pos heq]
      refine ⟨ih.len, ih.le, ih.fx, ih.bl, fun r hr hrn => ?_⟩
      by_cases h : r = i
      · rw [h, ha, hnmE, hb]
        omega
      · exact ih.ed r (by omega) hrn
    · rw [if_neg heq]
      have hlow : L.getD (min a b) 0 = min a b := by
        by_cases h : a ≤ b
        · rw [Nat.min_eq_left h]; exact a1
        · rw [Nat.min_eq_right (by omega)]; exact b1
      have hbl : beta bs (min a b) = beta bs (max a b) := by
        by_cases h : a ≤ b
        · rw [Nat.min_eq_left h, Nat.max_eq_right h, a3, b3, hbe]
        · rw [Nat.min_eq_right (by omega), Nat.max_eq_left (by omega), a3, b3, hbe]
      have at_ : ∀ x, x < ys.length → (L.map fun o => if o = max a b then min a b else o).getD x 0 = if L.getD x 0 = max a b then min a b else L.getD x 0 := fun x hx => getD_map (by rw [ih.len]; exact hx)
      have hminlt : min a b < ys.length := by omega
      refine ⟨by rw [List.length_map]; exact ih.len, fun x hx => ?_, fun x hx => ?_, fun x hx => ?_, fun r hr hrn => ?_⟩
      · rw [at_ x hx]
        have := ih.le x hx
        split <;> omega
      · rw [at_ x hx]
        by_cases h : L.getD x 0 = max a b
        · rw [if_pos h, at_ _ hminlt, hlow, if_neg heq]
        · rw [if_neg h]
          have hl := ih.le x hx
          rw [at_ _ (by omega), ih.fx x hx, if_neg h]
      · rw [at_ x hx]
        by_cases h : L.getD x 0 = max a b
        · rw [if_pos h, hbl, ← h]; exact ih.bl x hx
        · rw [if_neg h]; exact ih.bl x hx
      · rw [at_ r hrn, at_ _ (B.edge hrn).1]
        by_cases h : r = i
        · rw [h, ha, hnmE, hb]
          by_cases hab : a ≤ b
          · rw [Nat.min_eq_left hab, Nat.max_eq_right hab]
            by_cases hq : a = b <;> simp [hq]
          · rw [Nat.min_eq_right (by omega), Nat.max_eq_left (by omega)]
            by_cases hq : b = a <;> simp [hq]
        · rw [ih.ed r (by omega) hrn]
theorem conn {w : Nat} {ms : List Nat} {f : Nat → Nat} (hl : ms.length = (form w).length) (h : ∀ k, k < ms.length → f (ms.getD k 0) = f (ms.getD ((form w).getD k 0) 0)) : ∀ k, k < ms.length → f (ms.getD k 0) = f (ms.getD 0 0) := by
  unfold form at hl h
  split at hl
  all_goals (simp only [List.length_cons, List.length_nil] at hl; intro k hk)
  all_goals (have h0 := h 0 (by omega); try have h1 := h 1 (by omega))
  all_goals (try have h2 := h 2 (by omega))
  all_goals (try have h3 := h 3 (by omega))
  all_goals (rcases k with _ | _ | _ | _ | k)
  all_goals first | omega | rfl | (simp at h0 h1 h2 h3 ⊢; omega) | (simp at h0 h1 h2 ⊢; omega) | (simp at h0 h1 ⊢; omega) | (simp at h0 ⊢; omega)
end Pm

namespace Pm
inductive Cs (g : Nat → Nat) : Nat → List Nat → Prop
  | free (a) : g a = a → Cs g 0 [a]
  | pair (a b) : g a = b → g b = a → Cs g 1 [a, b]
  | claim (a b) : g a = b → g b = b → Cs g 2 [a, b]
  | hook (c a b) : g c = a → g a = b → g b = a → Cs g 3 [c, a, b]
  | relay (c a b) : g c = a → g a = b → g b = b → Cs g 4 [c, a, b]
  | clamp (d a b c) : g d = a → g a = b → g b = a → g c = b → Cs g 5 [d, a, b, c]
  | trail (d c a b) : g d = c → g c = a → g a = b → g b = a → Cs g 6 [d, c, a, b]
  | wheel (a b c d) : g a = b → g b = c → g c = d → g d = a → Cs g 7 [a, b, c, d]
theorem Blk.cs {ys : List Nat} {b : Bk} (Q : Blk ys b) : Cs (fun x => ys.getD x 0) b.1 b.2 := by
  obtain ⟨w, ms⟩ := b
  obtain ⟨hw, hl, h⟩ := Q
  dsimp only at hw hl h
  match w, hw with
  | 0, _ => match ms, hl with | [a], _ => exact .free a (by simpa [form] using h 0 (by simp))
  | 1, _ => match ms, hl with | [a, b], _ => exact .pair a b (by simpa [form] using h 0 (by simp)) (by simpa [form] using h 1 (by simp))
  | 2, _ => match ms, hl with | [a, b], _ => exact .claim a b (by simpa [form] using h 0 (by simp)) (by simpa [form] using h 1 (by simp))
  | 3, _ => match ms, hl with | [a, b, c], _ => exact .hook a b c (by simpa [form] using h 0 (by simp)) (by simpa [form] using h 1 (by simp)) (by simpa [form] using h 2 (by simp))
  | 4, _ => match ms, hl with | [a, b, c], _ => exact .relay a b c (by simpa [form] using h 0 (by simp)) (by simpa [form] using h 1 (by simp)) (by simpa [form] using h 2 (by simp))
  | 5, _ => match ms, hl with | [a, b, c, d], _ => exact .clamp a b c d (by simpa [form] using h 0 (by simp)) (by simpa [form] using h 1 (by simp)) (by simpa [form] using h 2 (by simp)) (by simpa [form] using h 3 (by simp))
  | 6, _ => match ms, hl with | [a, b, c, d], _ => exact .trail a b c d (by simpa [form] using h 0 (by simp)) (by simpa [form] using h 1 (by simp)) (by simpa [form] using h 2 (by simp)) (by simpa [form] using h 3 (by simp))
  | 7, _ => match ms, hl with | [a, b, c, d], _ => exact .wheel a b c d (by simpa [form] using h 0 (by simp)) (by simpa [form] using h 1 (by simp)) (by simpa [form] using h 2 (by simp)) (by simpa [form] using h 3 (by simp))
structure Canon (b : Bk) : Prop where
  pair : b.1 = 1 → b.2.getD 0 0 < b.2.getD 1 0
  clamp : b.1 = 5 → b.2.getD 0 0 < b.2.getD 3 0
  wheel : b.1 = 7 → b.2.getD 0 0 = mn b.2
section
variable {ys : List Nat} {bs : List Bk}
theorem lab_end (B : Built ys bs) {x : Nat} (hx : x < ys.length) : (lab ys ys.length).getD x 0 = beta bs x := by
  have Q := lab_ok B ys.length (Nat.le_refl _)
  generalize lab ys ys.length = L at Q ⊢
  obtain ⟨b, hb, hxb⟩ := B.of hx
  have P := B.blk b hb
  have cn := conn (f := fun x => L.getD x 0) P.len fun k hk => by
    show L.getD (b.2.getD k 0) 0 = _
    have hm := B.lt hb (getD_mem hk)
    rw [Q.ed _ hm hm, P.sh k hk]
  have h0 : 0 < b.2.length := List.length_pos_iff.mpr (B.ne hb)
  have same : ∀ y, y ∈ b.2 → L.getD y 0 = L.getD (b.2.getD 0 0) 0 := fun y hy => by
    obtain ⟨k, hk, rfl⟩ := mem_getD hy
    exact cn k hk
  have hmn := mn_mem (B.ne hb)
  have e1 : L.getD x 0 = L.getD (mn b.2) 0 := by rw [same x hxb, same _ hmn]
  have h1 := Q.le (mn b.2) (B.lt hb hmn)
  have h2 := Q.bl x hx
  have h3 := Q.le x hx
  have h4 := B.beta_le (x := L.getD x 0) (by omega)
  have h5 := B.beta_of hb hxb
  omega
def grp (bs : List Bk) (n m : Nat) : List Nat := (List.range n).filter fun x => decide (beta bs x = m)
def roots (bs : List Bk) (n : Nat) : List Nat := (List.range n).filter fun x => decide (beta bs x = x)
theorem nodup_filter {l : List Nat} (p : Nat → Bool) (h : l.Nodup) : (l.filter p).Nodup := h.sublist List.filter_sublist
theorem grp_nd {n m : Nat} : (grp bs n m).Nodup := nodup_filter _ List.nodup_range
theorem grp_lt {n m : Nat} : (grp bs n m).Pairwise (· < ·) := List.Pairwise.filter _ List.pairwise_lt_range
theorem Built.mem_grp (B : Built ys bs) {b : Bk} (hb : b ∈ bs) {x : Nat} : x ∈ grp bs ys.length (mn b.2) ↔ x ∈ b.2 := by
  unfold grp
  rw [List.mem_filter, List.mem_range, decide_eq_true_eq]
  constructor
  · rintro ⟨h1, h2⟩
    obtain ⟨c, hc, hx⟩ := B.of h1
    rw [B.beta_of hc hx] at h2
    have e := uniq B.nd hc hb (x := mn b.2) (by rw [← h2]; exact mn_mem (B.ne hc)) (mn_mem (B.ne hb))
    exact e ▸ hx
  · exact fun h => ⟨B.lt hb h, B.beta_of hb h⟩
theorem Built.grp_perm (B : Built ys bs) {b : Bk} (hb : b ∈ bs) : (grp bs ys.length (mn b.2)).Perm b.2 :=
  (List.perm_ext_iff_of_nodup grp_nd (nd_of B.nd hb)).mpr fun x => B.mem_grp hb
theorem Built.roots_eq (B : Built ys bs) (hs : bs.Pairwise fun a b => mn a.2 < mn b.2) : roots bs ys.length = bs.map fun b => mn b.2 := by
  have s1 : (roots bs ys.length).Pairwise (· < ·) := List.Pairwise.filter _ List.pairwise_lt_range
  have s2 : (bs.map fun b => mn b.2).Pairwise (· < ·) := List.pairwise_map.mpr hs
  refine List.Perm.eq_of_pairwise (le := (· < ·)) (fun a b _ _ h1 h2 => by omega) s1 s2 ?_
  refine (List.perm_ext_iff_of_nodup (s1.imp fun h => by omega) (s2.imp fun h => by omega)).mpr fun x => ?_
  unfold roots
  rw [List.mem_filter, List.mem_range, decide_eq_true_eq, List.mem_map]
  constructor
  · rintro ⟨h1, h2⟩
    obtain ⟨b, hb, hx⟩ := B.of h1
    exact ⟨b, hb, by rw [← h2, B.beta_of hb hx]⟩
  · rintro ⟨b, hb, rfl⟩
    exact ⟨B.lt hb (mn_mem (B.ne hb)), B.mn_beta hb⟩
/-! ### one group's row -/
def path (b : Bk) : List Nat := if b.1 = 5 then b.2.take 3 else b.2
theorem filter_one {l : List Nat} {q : Nat → Bool} {x : Nat} (nd : l.Nodup) (hx : x ∈ l) (h1 : q x = true) (h2 : ∀ y ∈ l, q y = true → y = x) : l.filter q = [x] := by
  have nd2 := nodup_filter q nd
  have m : ∀ y, y ∈ l.filter q ↔ y = x := fun y => by
    rw [List.mem_filter]
    exact ⟨fun h => h2 y h.1 h.2, fun h => by rw [h]; exact ⟨hx, h1⟩⟩
  match hl : l.filter q with
  | [] => exact absurd ((m x).mpr rfl) (by rw [hl]; simp)
  | [a] => rw [(m a).mp (by rw [hl]; simp)]
  | a :: b :: r =>
    rw [hl] at nd2 m
    have ea := (m a).mp (by simp)
    have eb := (m b).mp (by simp)
    simp [ea, eb] at nd2
theorem mn_sing {a : Nat} : mn [a] = a := rfl
/-- the walk of a form -/
structure Walks (g : Nat → Nat) (p : List Nat) : Prop where
  pos : 0 < p.length
  nd : p.Nodup
  next : ∀ j, j + 1 < p.length → g (p.getD j 0) = p.getD (j + 1) 0
  back : g (p.getD (p.length - 1) 0) ∈ p
theorem Built.walks (B : Built ys bs) {b : Bk} (hb : b ∈ bs) : Walks (fun x => ys.getD x 0) (path b) := by
  have nd := nd_of B.nd hb
  have C := (B.blk b hb).cs
  obtain ⟨w, ms⟩ := b
  dsimp only at C nd
  unfold path
  dsimp only
  generalize (fun x => ys.getD x 0) = g at C
  cases C
  all_goals (simp at nd ⊢)
  all_goals (refine ⟨by simp, by simp; try simp [nd], fun j hj => ?_, by simp [*]⟩)
  all_goals (rcases j with _ | _ | _ | _ | j)
  all_goals first | (simp at hj; done) | (simp [*]; done) | (simp at hj ⊢; omega) | skip
theorem Built.left (B : Built ys bs) {b : Bk} (hb : b ∈ bs) : path b ++ (grp bs ys.length (mn b.2)).filter (fun x => !(path b).contains x) = b.2 := by
  have nd := nd_of B.nd hb
  have C := (B.blk b hb).cs
  have M : ∀ x, x ∈ grp bs ys.length (mn b.2) ↔ x ∈ b.2 := fun x => B.mem_grp hb
  have N : (grp bs ys.length (mn b.2)).Nodup := grp_nd
  generalize grp bs ys.length (mn b.2) = l at M N
  by_cases h5 : b.1 = 5
  · obtain ⟨w, ms⟩ := b
    dsimp only at h5 C nd M ⊢
    subst h5
    cases C
    rename_i d a b c h1 h2 h3 h4
    unfold path
    simp at nd ⊢
    rw [filter_one (x := c) N (by rw [M]; simp) (by simp; omega) fun y hy hq => ?_]
    rw [M] at hy
    simp at hy hq
    omega
  · unfold path
    rw [if_neg h5]
    have e : l.filter (fun x => !b.2.contains x) = [] := by
      rw [List.filter_eq_nil_iff]
      intro x hx
      have := (M x).mp hx
      simp [this]
    rw [e, List.append_nil]
/-- where the walk starts: at the first record that no other of the group shows, or at the first one -/
theorem Built.start (B : Built ys bs) {b : Bk} (hb : b ∈ bs) (K : Canon b) (T : List Nat)
    (hT : T = (grp bs ys.length (mn b.2)).filter (fun x => !((grp bs ys.length (mn b.2)).map fun y => ys.getD y 0).contains x)) :
    (T = [] → (grp bs ys.length (mn b.2)).head? = some (b.2.getD 0 0)) ∧ (T ≠ [] → T.head? = some (b.2.getD 0 0)) := by
  have nd := nd_of B.nd hb
  have C := (B.blk b hb).cs
  have M : ∀ x, x ∈ grp bs ys.length (mn b.2) ↔ x ∈ b.2 := fun x => B.mem_grp hb
  have sh : ∀ x, ((grp bs ys.length (mn b.2)).map fun y => ys.getD y 0).contains x = (b.2.map fun y => ys.getD y 0).contains x := fun x => by
    rw [Bool.eq_iff_iff, List.contains_iff_mem, List.contains_iff_mem, List.mem_map, List.mem_map]
    exact ⟨fun ⟨y, hy, e⟩ => ⟨y, (M y).mp hy, e⟩, fun ⟨y, hy, e⟩ => ⟨y, (M y).mpr hy, e⟩⟩
  have hT2 : T = (List.range ys.length).filter fun x => decide (beta bs x = mn b.2) && !(b.2.map fun y => ys.getD y 0).contains x := by
    rw [hT]
    unfold grp
    rw [List.filter_filter]
    refine List.filter_congr fun x hx => ?_
    have := sh x
    unfold grp at this
    rw [this, Bool.and_comm]
  have inB : ∀ x, x < ys.length → (decide (beta bs x = mn b.2) = true ↔ x ∈ b.2) := fun x hx => by
    rw [← M x]
    unfold grp
    rw [List.mem_filter, List.mem_range]
    exact ⟨fun h => ⟨hx, h⟩, fun h => h.2⟩
  have root : b.2.getD 0 0 = mn b.2 → (grp bs ys.length (mn b.2)).head? = some (b.2.getD 0 0) := fun e => by
    unfold grp
    rw [List.head?_filter, List.find?_range_eq_some, e]
    refine ⟨by rw [decide_eq_true_eq]; exact B.mn_beta hb, List.mem_range.mpr (B.lt hb (mn_mem (B.ne hb))), fun j hj => ?_⟩
    have hjn : j < ys.length := Nat.lt_trans hj (B.lt hb (mn_mem (B.ne hb)))
    have := B.beta_le hjn
    simp
    omega
  have tail : ∀ m0 : Nat, m0 ∈ b.2 → (b.2.map fun y => ys.getD y 0).contains m0 = false → (∀ j, j < m0 → j ∈ b.2 → (b.2.map fun y => ys.getD y 0).contains j = true) → T.head? = some m0 := fun m0 h1 h2 h3 => by
    rw [hT2, List.head?_filter, List.find?_range_eq_some]
    refine ⟨by rw [h2, (inB m0 (B.lt hb h1)).mpr h1]; rfl, List.mem_range.mpr (B.lt hb h1), fun j hj => ?_⟩
    have hjn : j < ys.length := Nat.lt_trans hj (B.lt hb h1)
    by_cases hjb : j ∈ b.2
    · rw [h3 j hj hjb]
      simp
    · have : decide (beta bs j = mn b.2) = false := by
        cases h : decide (beta bs j = mn b.2) with
        | false => rfl
        | true => exact absurd ((inB j hjn).mp h) hjb
      rw [this]
      rfl
  have none : (∀ x ∈ b.2, (b.2.map fun y => ys.getD y 0).contains x = true) → T = [] := fun h => by
    rw [hT2, List.filter_eq_nil_iff]
    intro x hx
    have hxn := List.mem_range.mp hx
    by_cases hxb : x ∈ b.2
    · rw [h x hxb]
      simp
    · intro z
      rw [Bool.and_eq_true] at z
      exact hxb ((inB x hxn).mp z.1)
  obtain ⟨w, ms⟩ := b
  dsimp only at *
  generalize hg : (fun y => ys.getD y 0) = g at C tail none
  clear hT hT2 sh
  cases C with
  | free a h1 =>
    have t := none (by simp [h1])
    exact ⟨fun _ => root rfl, fun h => absurd t h⟩
  | pair a b h1 h2 =>
    have t := none (by simp [h1, h2])
    have := K.pair rfl
    simp at this
    exact ⟨fun _ => root (by simp [mn]; omega), fun h => absurd t h⟩
  | wheel a b c d h1 h2 h3 h4 =>
    have t := none (by simp [h1, h2, h3, h4])
    exact ⟨fun _ => root (K.wheel rfl), fun h => absurd t h⟩
  | claim a b h1 h2 =>
    simp at nd
    have t := tail a (by simp) (by simp [h1, h2]; omega) (fun j hj hm => by simp at hm; simp [h1, h2]; omega)
    exact ⟨fun h => (by rw [h] at t; simp at t), fun _ => t⟩
  | hook c a b h1 h2 h3 =>
    simp at nd
    have t := tail c (by simp) (by simp [h1, h2, h3]; omega) (fun j hj hm => by simp at hm; simp [h1, h2, h3]; omega)
    exact ⟨fun h => (by rw [h] at t; simp at t), fun _ => t⟩
  | relay c a b h1 h2 h3 =>
    simp at nd
    have t := tail c (by simp) (by simp [h1, h2, h3]; omega) (fun j hj hm => by simp at hm; simp [h1, h2, h3]; omega)
    exact ⟨fun h => (by rw [h] at t; simp at t), fun _ => t⟩
  | clamp d a b c h1 h2 h3 h4 =>
    simp at nd
    have kk := K.clamp rfl
    simp at kk
    have t := tail d (by simp) (by simp [h1, h2, h3, h4]; omega) (fun j hj hm => by simp at hm; simp [h1, h2, h3, h4]; omega)
    exact ⟨fun h => (by rw [h] at t; simp at t), fun _ => t⟩
  | trail d c a b h1 h2 h3 h4 =>
    simp at nd
    have t := tail d (by simp) (by simp [h1, h2, h3, h4]; omega) (fun j hj hm => by simp at hm; simp [h1, h2, h3, h4]; omega)
    exact ⟨fun h => (by rw [h] at t; simp at t), fun _ => t⟩
end
end Pm

namespace L2
open PySem PySem.Spec PyProof.Rows
/-! ### a table of the text keyed by tuples of ints -/
def numK (ks : List Nat) : NestedKey := .tup (ks.map fun k : Nat => NestedKey.num (k : Int))
/-- at a, in the written part: a table of the given keys and texts -/
def TabK (P : Program) (w : World) (K : PySem.W.Frag) (a : Addr) (kvs : List (List Nat × Str)) : Prop := (a == sysModules) = false ∧
  ∃ ts : List Tok, ∀ h : Heap, K.In h → h.DictKeyed (nestedKind P w) a ((kvs.zip ts).map fun x => (numK x.1.1, Value.str x.1.2 x.2)) ∧ ts.length = kvs.length
theorem numK_depth : ∀ ks : List Nat, (numK ks).depth ≤ 8 := fun ks => by
  have h : ∀ l : List Nat, NestedKey.depthAll (l.map fun k : Nat => NestedKey.num (k : Int)) ≤ 1 := fun l => by
    induction l with
    | nil => simp [NestedKey.depthAll]
    | cons a l ih =>
      simp only [List.map_cons, NestedKey.depthAll, NestedKey.depth]
      omega
  have := h ks
  unfold numK
  simp only [NestedKey.depth]
  omega
theorem numAll_of {h : Heap} : ∀ {ks : List Nat} {us : List Value}, Vals (ks.map fun k : Nat => V.int (k : Int)) us → NestedAll h (ks.map fun k : Nat => NestedKey.num (k : Int)) us
  | [], _, r => by cases r; exact .nil
  | k :: ks, _, r => by
    cases r with
    | cons r1 r2 =>
      obtain ⟨t, e⟩ := r1
      rw [e]
      exact .cons (.int _ t) (numAll_of r2)
/-- d.get(t) of such a table, the key there -/
def tTabGet (P : Program) (w : World) (K : PySem.W.Frag) (td te : TE) : TE := fun σ H Q => td σ H fun x H1 => ∃ (a : Addr) (kvs : List (List Nat × Str)), x = .ref a ∧ TabK P w K a kvs ∧ te σ H1 fun y H2 => ∃ (p : Addr) (ks : List Nat) (z : Str), y = .ref p ∧ H2 p = some (.tup (ks.map fun k : Nat => V.int (k : Int))) ∧
  (∃ i, kvs[i]? = some (ks, z) ∧ ∀ (j : Nat) (q : List Nat × Str), j < i → kvs[j]? = some q → q.1 ≠ ks) ∧ Q (.str z) H2
theorem numK_inj {a b : List Nat} (h : numK a = numK b) : a = b := by
  unfold numK at h
  injection h with h
  have g : ∀ {l m : List Nat}, (l.map fun k : Nat => NestedKey.num (k : Int)) = (m.map fun k : Nat => NestedKey.num (k : Int)) → l = m := by
    intro l
    induction l with
    | nil =>
      intro m e
      cases m with
      | nil => rfl
      | cons _ _ => cases e
    | cons a l ih =>
      intro m e
      cases m with
      | nil => cases e
      | cons b m =>
        rw [List.map_cons, List.map_cons] at e
        injection e with e1 e2
        injection e1 with e1
        have : a = b := by omega
        rw [this, ih e2]
  exact g h
theorem tab_find {ks : List Nat} {z : Str} : ∀ {kvs : List (List Nat × Str)} {ts : List Tok} {i : Nat}, ts.length = kvs.length → kvs[i]? = some (ks, z) → (∀ (j : Nat) (q : List Nat × Str), j < i → kvs[j]? = some q → q.1 ≠ ks) →
    ∃ t : Tok, valueAt ((kvs.zip ts).map fun x => (numK x.1.1, Value.str x.1.2 x.2)) (numK ks) = some (Value.str z t)
  | [], _, i, _, h, _ => by simp at h
  | _ :: _, [], _, hl, _, _ => by simp at hl
  | (k0, z0) :: kvs, t0 :: ts, 0, _, h, _ => by
    have e := Option.some.inj h
    cases e
    exact ⟨t0, by simp [valueAt]⟩
  | (k0, z0) :: kvs, t0 :: ts, i + 1, hl, h, hn => by
    have ne : k0 ≠ ks := hn 0 (k0, z0) (Nat.succ_pos _) rfl
    have ne2 : ¬ numK k0 = numK ks := fun e => ne (numK_inj e)
    obtain ⟨t, e⟩ := tab_find (ks := ks) (z := z) (kvs := kvs) (ts := ts) (i := i) (by simpa using hl) (by simpa using h) fun j q hj hq => hn (j + 1) q (by omega) (by simpa using hq)
    refine ⟨t, ?_⟩
    unfold valueAt at e ⊢
    rw [List.zip_cons_cons, List.map_cons, List.find?_cons_of_neg (by simpa using ne2)]
    exact e
theorem pe_tabGet {X : Cx} {o e : Expr} {td te : TE} {apos cpos : Pos} (hu : X.A.units + 64 < cLine) (ho : PE X o td) (he : PE X e te) (m : M1 X o "get" apos e cpos) : PE X (.Call (.Attribute o "get" apos) [e] [] cpos) (tTabGet X.prog X.w X.K td te) := by
  refine ⟨fun pins s σ H Q I h => ?_⟩
  refine wpAny_Call_method m.base m.few m.line PySem.F.plainAttrs_dict PySem.F.slot_dict_get PySem.F.type_dict_get (thn (ho.run pins s σ H _ I h) fun u s1 ⟨x, H1, I1, rx, a, kvs, ex, ⟨hsm, ts, hT⟩, q1⟩ => ?_)
  subst ex
  obtain rfl : u = Value.ref a := rx
  obtain ⟨hD, _⟩ := hT _ I1.kIn
  have hD' := hD
  obtain ⟨xs, ⟨ob, es, ep, hob, hcl, hdat, _⟩, _⟩ := hD'
  refine ⟨hD.typeIs, fun b q => by cases q; exact ⟨ob, hob, hcl.2.1⟩, ?_⟩
  rw [m.trees]
  refine Calls.callWith_builtin rfl (Calls.evalArgs_plain (Calls.spliced_cons (thn (he.run pins s1 σ H1 _ I1 q1) fun iv s2 ⟨y, H2, I2, ry, p, ks, z, ey, hp, ⟨i, hi, hlt⟩, q2⟩ => Calls.spliced_nil ?_)))
  subst ey
  obtain rfl : iv = Value.ref p := ry
  obtain ⟨_, its, rv, ot, h1, h2, n, h3⟩ := (show ObjOk X.prog X.w H2 s2.heap p (.tup (ks.map fun k : Nat => V.int (k : Int))) from I2.hok p _ hp)
  obtain ⟨hD2, hlen⟩ := hT _ I2.kIn
  obtain ⟨t, ht⟩ := tab_find hlen hi hlt
  have hk : (nestedKind X.prog X.w).is s2.heap (numK ks) p := ⟨.tup h1 h2 h3 (by simpa using numAll_of (h := s2.heap) rv), numK_depth ks⟩
  refine get_keyed (knd := nestedKind X.prog X.w) (show X.A.in1.units + 8 < cLine by show X.A.units + 1 + 8 < cLine; omega) hk hsm hD2 ?_
  rw [ht]
  exact ⟨.str z, H2, I2.tok _, ⟨t, rfl⟩, q2⟩
/-! ### list(d.values()), list(d.keys()) -/
def tListVals (te : TE) : TE := fun σ H Q => te σ H fun x H1 => ∃ (d : Addr) (kvs : List (Key × V)), x = .ref d ∧ H1 d = some (.dK kvs) ∧ ∀ p, H1 p = none → Q (.ref p) (upd H1 p (.lst (kvs.map (·.2))))
def tListKeys (te : TE) : TE := fun σ H Q => te σ H fun x H1 => ∃ (d : Addr) (kvs : List (Key × V)), x = .ref d ∧ H1 d = some (.dK kvs) ∧ ∀ p, H1 p = none → Q (.ref p) (upd H1 p (.lst (kvs.map fun kv => kV kv.1)))
theorem vals_items {P : Nat → Value → Prop} : ∀ {xs : List V} {us : List Value} (k : Nat), us.length = xs.length → (∀ j v, us[j]? = some v → P (k + j) v) → (∀ j x v, xs[j]? = some x → P (k + j) v → RelV x v) → Vals xs us
  | [], [], _, _, _, _ => .nil
  | [], _ :: _, _, h, _, _ => by simp at h
  | _ :: _, [], _, h, _, _ => by simp at h
  | x :: xs, u :: us, k, h, h1, h2 => .cons (h2 0 x u rfl (h1 0 u rfl)) (vals_items (P := P) (k + 1) (by simpa using h) (fun j v e => by
      have := h1 (j + 1) v (by simpa using e)
      rw [show k + (j + 1) = k + 1 + j by omega] at this
      exact this) fun j y v e p => h2 (j + 1) y v (by simpa using e) (by rw [show k + (j + 1) = k + 1 + j by omega]; exact p))
section
variable {X : Cx} {e : Expr} {te : TE} {p apos cpos pos : Pos}
theorem pe_listVals (hc : X.calm = true) (he : PE X e te) (hg : Gl X "list") (hm : X.mg "list" = none) (hbase : attributeBase e "values" X.env (eval e X.env) = eval e X.env := by rfl) (hline : (apos.endLine == cpos.line) = true := by rfl)
    (hs : starEach [.Call (.Attribute e "values" apos) [] [] cpos] X.env = (false, eval (.Call (.Attribute e "values" apos) [] [] cpos) X.env) :: starEach [] X.env := by rfl) :
    PE X (.Call (.Name "list" p) [.Call (.Attribute e "values" apos) [] [] cpos] [] pos) (tListVals te) := by
  refine ⟨fun pins s σ H Q I hq => ?_⟩
  refine wpAny_Call_Name_kw (ld_blt I hg hm (by decide +kernel : bootBuiltins "list" = some (.type "list")) ?_)
  refine PyProof.Rows.callWith_type1 ?_ hs rfl
  rw [hs]
  show wpAny _ _ (spliced ((false, eval (.Call (.Attribute e "values" apos) [] [] cpos) X.env) :: backTo pos (starEach [] X.env))) _ _ s
  refine Calls.spliced_cons ?_
  refine wpAny_Call_method (T := "dict") (id := "dict.values") hbase rfl hline F.plainAttrs_dict F.slot_dict_values F.type_dict_values (thn (he.run pins s σ H _ I hq) fun u s1 ⟨x, H1, I1, rx, d, kvs, ex, hd, q⟩ => ?_)
  subst ex
  obtain rfl : u = Value.ref d := rx
  obtain ⟨hz, hs0, vs, kv, hdo⟩ := I1.hok d _ hd
  obtain ⟨ep, hat⟩ := hdo.dictAt
  have lk : kvs.length = vs.length := Paired.length kv
  refine ⟨hdo.typeIs, hdo.mapOf.noDict, ?_⟩
  show wpAny _ _ (callWith cpos (.builtin "dict.values") [.ref d] [] []) _ X.xe s1
  refine method_meetsIn F.slot_dict_values F.entry_dict_values rfl (PySem.evalArgs_none ⟨rfl, hdo.typeIs, F.args_dict_values_1 _, _, meets_dict_values (mixKind X.prog X.w) d hs0, ⟨vs, hdo⟩, ?_⟩)
  refine Calls.spliced_nil ?_
  refine PySem.W.kdl_call (PySem.W.kdl_values (knd := mixKind X.prog X.w) (kvs := vs) (ep := ep) (r := s1.heap.objs.size)) (I1.ok.hd hc) ⟨⟨_, Heap.get?_push_size _ rfl, rfl, rfl⟩, hat.push _⟩ (by omega) fun h' tk acc c hk hS hI => ?_
  have keep : ∀ b o, s1.heap.get? b = some o → h'.get? b = some o := fun b o z => hk b o (Heap.get?_push_of_some _ z)
  have hl : acc.toList.length = (kvs.map (·.2)).length := by rw [Array.length_toList, List.length_map, hI.1]; omega
  have rv : Vals (kvs.map (·.2)) acc.toList := vals_items (P := fun i v => ∃ k, vs[i]? = some (k, v)) 0 hl (fun j v z => by rw [Nat.zero_add]; exact hI.2 j v (by rw [← Array.getElem?_toList]; exact z)) fun j y v z ⟨k, w'⟩ => by
    rw [Nat.zero_add] at w'
    obtain ⟨q0, g1, g2⟩ : ∃ q0, kvs[j]? = some q0 ∧ y = q0.2 := by
      rw [List.getElem?_map] at z
      cases h : kvs[j]? with
      | none => rw [h] at z; cases z
      | some q0 => rw [h] at z; exact ⟨q0, rfl, (Option.some.inj z).symm⟩
    obtain ⟨pk, e2, e3⟩ := LiI.paired_get kv g1
    rw [w'] at e2
    cases e2
    rw [g2]
    exact e3.2
  refine ⟨.ref _, upd H1 _ (.lst (kvs.map (·.2))), I1.laid (t' := tk) keep (Nat.le_succ _ |> fun z => by rw [Heap.size_push]; exact z) ⟨by rw [List.length_map]; omega, acc.toList, c, rv, by simpa using hS⟩, rfl, q _ (I1.hok.fresh (by rw [Heap.size_push]; exact Nat.le_succ _))⟩
theorem pe_listKeys (hc : X.calm = true) (he : PE X e te) (hg : Gl X "list") (hm : X.mg "list" = none) (hbase : attributeBase e "keys" X.env (eval e X.env) = eval e X.env := by rfl) (hline : (apos.endLine == cpos.line) = true := by rfl)
    (hs : starEach [.Call (.Attribute e "keys" apos) [] [] cpos] X.env = (false, eval (.Call (.Attribute e "keys" apos) [] [] cpos) X.env) :: starEach [] X.env := by rfl) :
    PE X (.Call (.Name "list" p) [.Call (.Attribute e "keys" apos) [] [] cpos] [] pos) (tListKeys te) := by
  refine ⟨fun pins s σ H Q I hq => ?_⟩
  refine wpAny_Call_Name_kw (ld_blt I hg hm (by decide +kernel : bootBuiltins "list" = some (.type "list")) ?_)
  refine PyProof.Rows.callWith_type1 ?_ hs rfl
  rw [hs]
  show wpAny _ _ (spliced ((false, eval (.Call (.Attribute e "keys" apos) [] [] cpos) X.env) :: backTo pos (starEach [] X.env))) _ _ s
  refine Calls.spliced_cons ?_
  refine wpAny_Call_method (T := "dict") (id := "dict.keys") hbase rfl hline F.plainAttrs_dict F.slot_dict_keys F.type_dict_keys (thn (he.run pins s σ H _ I hq) fun u s1 ⟨x, H1, I1, rx, d, kvs, ex, hd, q⟩ => ?_)
  subst ex
  obtain rfl : u = Value.ref d := rx
  obtain ⟨hz, hs0, vs, kv, hdo⟩ := I1.hok d _ hd
  obtain ⟨ep, hat⟩ := hdo.dictAt
  have lk : kvs.length = vs.length := Paired.length kv
  refine ⟨hdo.typeIs, hdo.mapOf.noDict, ?_⟩
  show wpAny _ _ (callWith cpos (.builtin "dict.keys") [.ref d] [] []) _ X.xe s1
  refine method_meetsIn F.slot_dict_keys F.entry_dict_keys rfl (PySem.evalArgs_none ⟨rfl, hdo.typeIs, F.args_dict_keys_1 _, _, PySem.W.kdl_meets_keys (mixKind X.prog X.w) d hs0, ⟨vs, hdo⟩, ?_⟩)
  refine Calls.spliced_nil ?_
  refine PySem.W.kdl_call (PySem.W.kdl_keys (knd := mixKind X.prog X.w) (kvs := vs) (ep := ep) (r := s1.heap.objs.size)) (I1.ok.hd hc) ⟨⟨_, Heap.get?_push_size _ rfl, rfl, rfl⟩, hat.push _⟩ (by omega) fun h' tk acc c hk hS hI => ?_
  have keep : ∀ b o, s1.heap.get? b = some o → h'.get? b = some o := fun b o z => hk b o (Heap.get?_push_of_some _ z)
  have hl : acc.toList.length = (kvs.map fun kv => kV kv.1).length := by rw [Array.length_toList, List.length_map, hI.1]; omega
  have rv : Vals (kvs.map fun kv => kV kv.1) acc.toList := vals_items (P := fun i v => ∃ k x, vs[i]? = some (k, x) ∧ (mixKind X.prog X.w).is k v = true) 0 hl (fun j v z => by rw [Nat.zero_add]; exact hI.2 j v (by rw [← Array.getElem?_toList]; exact z)) fun j y v z ⟨k, x, w', w2⟩ => by
    rw [Nat.zero_add] at w'
    obtain ⟨q0, g1, g2⟩ : ∃ q0, kvs[j]? = some q0 ∧ y = kV q0.1 := by
      rw [List.getElem?_map] at z
      cases h : kvs[j]? with
      | none => rw [h] at z; cases z
      | some q0 => rw [h] at z; exact ⟨q0, rfl, (Option.some.inj z).symm⟩
    obtain ⟨pk, e2, e3⟩ := LiI.paired_get kv g1
    rw [w'] at e2
    cases e2
    rw [g2]
    rw [e3.1]
    exact relV_key (show keyIs k v = true from w2)
  refine ⟨.ref _, upd H1 _ (.lst (kvs.map fun kv => kV kv.1)), I1.laid (t' := tk) keep (Nat.le_succ _ |> fun z => by rw [Heap.size_push]; exact z) ⟨by rw [List.length_map]; omega, acc.toList, c, rv, by simpa using hS⟩, rfl, q _ (I1.hok.fresh (by rw [Heap.size_push]; exact Nat.le_succ _))⟩
end
end L2

namespace SrtO
open PySem PyProof.Rows PySem.W
/-- a tuple of two ints and an object -/
def IsRow (h : Heap) (v : Value) (x : Int) : Prop := ∃ a o t y u c n, v = .ref a ∧ h.get? a = some o ∧ o.cls = .type "tuple" ∧ o.data = .seq #[.int x t, .int y u, .ref c] n
theorem IsRow.keeps {h h' : Heap} {v : Value} {x : Int} (p : IsRow h v x) (k : ∀ b o, h.get? b = some o → o.cls = .type "tuple" → h'.get? b = some o) : IsRow h' v x := by
  obtain ⟨a, o, t, y, u, c, n, e, ho, hc, hd⟩ := p
  exact ⟨a, o, t, y, u, c, n, e, k _ _ ho hc, hc, hd⟩
theorem row_firsts {h : Heap} : ∀ {vs : List Value}, (∀ v ∈ vs, ∃ x, IsRow h v x) → ∃ fs : List Value, PySem.W.KatTups h vs fs ∧ fs.length = vs.length ∧ ∀ f ∈ fs, ∃ x t, f = Value.int x t
  | [], _ => ⟨[], PySem.W.KatTups.nil, rfl, fun _ hm => by simp at hm⟩
  | v :: vs, hv => by
    obtain ⟨fs, h1, h2, h3⟩ := row_firsts (h := h) (vs := vs) fun w hw => hv w (List.mem_cons_of_mem _ hw)
    obtain ⟨x, a, o, t, y, u, c, n, e, ho, hc, hd⟩ := hv v List.mem_cons_self
    subst e
    refine ⟨.int x t :: fs, .cons ho hc hd rfl h1, by simp [h2], fun f hf => ?_⟩
    rcases List.mem_cons.mp hf with e | hf
    · exact ⟨x, t, e⟩
    · exact h3 f hf
theorem swo_key (k : Value → Int) : Swo fun v u => decide (k v < k u) := by
  refine ⟨fun x y h => ?_, fun x y z h1 h2 => ?_⟩
  · have a := of_decide_eq_true h
    exact decide_eq_false (by omega)
  · have a := of_decide_eq_false h1
    have b := of_decide_eq_false h2
    exact decide_eq_false (by omega)
section
variable {prog : Program} {w : World} {A : Around} {E : Value → Shared → Prop} {s : Shared}
theorem row_cmp {vs : List Value} {k : Value → Int} (hp : ∀ v ∈ vs, IsRow s.heap v (k v)) (hi : ∀ v ∈ vs, ∀ u ∈ vs, k v = k u → v = u) : Cmp prog w A s (tuples' true) (fun p => p.1 ∈ vs) (lt2 fun v u => decide (k v < k u)) := by
  intro p q hm hm'
  have h1 := hp _ hm
  have h2 := hp _ hm'
  have h3 := hi _ hm _ hm'
  show wpAny (model prog w) A (keyLt' (tuples' true) p.1 q.1) (fun r s' => s' = s ∧ r = decide (k p.1 < k q.1)) (fun _ _ => False) s
  generalize k p.1 = x at h1 h3 ⊢
  generalize k q.1 = x' at h2 h3 ⊢
  obtain ⟨a, o, t, y, u, c, n, e, ho, hc, hd⟩ := h1
  obtain ⟨a', o', t', y', u', c', n', e', ho', hc', hd'⟩ := h2
  rw [e, e'] at h3 ⊢
  refine PySem.W.kat_lt ho hd ho' hd' ?_
  show PySem.W.KatLex prog w A true (decide (3 < 3)) _ [(.int x t, .int x' t'), (.int y u, .int y' u'), (.ref c, .ref c')] 0 s
  refine PySem.W.kat_cons (SeqAt.EqAt.int_int x t x' t' prog w _ _ ?_)
  refine PySem.W.kat_go (fun e1 => ?_) (fun e1 => ?_)
  · have ex : x = x' := by simpa using e1
    have ea : a = a' := Value.ref.inj (h3 ex)
    subst ea
    rw [ho] at ho'
    have eo := Option.some.inj ho'
    subst eo
    rw [hd] at hd'
    injection hd' with ed _
    have ey : y = y' := by
      have z := congrArg (fun a : Array Value => a[1]?) ed
      simp at z
      exact z.1
    have ec : c = c' := by
      have z := congrArg (fun a : Array Value => a[2]?) ed
      simpa using z
    subst ec
    refine PySem.W.kat_yes (PySem.W.kat_cons (SeqAt.EqAt.int_int y u y' u' prog w _ _ ?_))
    refine PySem.W.kat_go (fun e2 => ?_) (fun e2 => ?_)
    · refine PySem.W.kat_yes (PySem.W.kat_cons (SeqAt.EqAt.same (.ref c) prog w _ _ ?_))
      refine PySem.W.kat_go (fun _ => ?_) (fun z => nomatch z)
      refine PySem.W.kat_yes (PySem.W.kat_nil ⟨rfl, ?_⟩)
      rw [ex]
      exact (decide_eq_false (by omega)).symm
    · exact absurd ey (by simpa using e2)
  · have ex : ¬ x = x' := by simpa using e1
    exact PySem.W.kat_no (oneLt_int ⟨rfl, rfl⟩)
theorem rows_sortableO {a : Addr} {vs : List Value} {k : Value → Int} (h0 : 0 < vs.length) (hp : ∀ v ∈ vs, IsRow s.heap v (k v)) (hi : ∀ v ∈ vs, ∀ u ∈ vs, k v = k u → v = u) (ha : ∀ o, s.heap.get? a = some o → o.cls ≠ .type "tuple") : SortableO prog w A s a vs fun v u => decide (k v < k u) := by
  intro h' keep
  have hp' : ∀ v ∈ vs, IsRow h' v (k v) := fun v hm => (hp v hm).keeps fun b o e c => keep b o (fun z => by subst z; exact ha o e c) e
  obtain ⟨fs, h1, h2, h3⟩ := row_firsts fun v hm => ⟨_, hp' v hm⟩
  refine ⟨tuples' true, fun Q E hq => ?_, row_cmp hp' hi⟩
  refine PySem.W.kat_kind (T := .type "int") h1 (by omega) (fun f hm => ?_) (by rfl) ?_
  · obtain ⟨x, t, rfl⟩ := h3 f hm
    exact PySem.W.Looks.now
  · have e : (Value.type "int" != Value.type "tuple") = true := by first | decide +kernel | rfl | decide
    rw [e]
    exact hq
theorem sorted_rowsO {l : Addr} {vs : List Value} {k : Value → Int} {Q : Value → Shared → Prop} (hl : s.heap.IsList l vs.toArray) (hz : vs.length ≤ sizeLine) (hp : ∀ v ∈ vs, IsRow s.heap v (k v)) (hi : ∀ v ∈ vs, ∀ u ∈ vs, k v = k u → v = u)
    (h : ∀ (h' : Heap) (d : Addr) (out : List Value), Srtd (fun v u => decide (k v < k u)) out → Stb (fun v u => decide (k v < k u)) out vs → (∀ b o, s.heap.get? b = some o → h'.get? b = some o) → s.heap.objs.size ≤ d → (∃ n, h'.get? d = some (seqObj "list" out.toArray n)) → Q (.ref d) { s with heap := h' }) :
    wpAny (model prog w) A (call (.builtin "sorted") [.ref l]) Q E s := by
  refine sorted_ord (swo_key k) hl hz (fun h2 h₁ a ha kk => ?_) fun out hs hb => ?_
  · refine rows_sortableO (s := { s with heap := h₁ }) (by omega) (fun v hm => (hp v hm).keeps fun b o e _ => (kk b o e).2) hi fun o e => ?_
    have e' : some o = some (seqObj "list" vs.toArray 0) := e.symm.trans ha
    cases e'
    intro c
    exact absurd (Value.type.inj c) (by decide)
  · exact h _ _ out hs hb (fun b o e => sortedAll_old e) (Nat.le_succ _) (sortedAll_at s.heap vs out.toArray)
end
end SrtO
namespace L2
open PySem PySem.Spec PyProof.Rows
def rSortedR (K : PySem.W.Frag) : List V → Hp → VK → Prop := fun vs H Q => ∃ (a : Addr) (rs : List Addr) (k : Addr → Int), vs = [V.ref a] ∧ SqL K H a (rs.map V.ref) ∧ (∀ r ∈ rs, ∃ (y : Int) (c : Addr), H r = some (.tup [.int (k r), .int y, .ref c])) ∧
  (∀ r ∈ rs, ∀ r' ∈ rs, k r = k r' → r = r') ∧ ∀ (rs' : List Addr) (p : Addr), rs'.Perm rs → rs'.Pairwise (fun a b => k a ≤ k b) → H p = none → Q (.ref p) (upd H p (.lst (rs'.map V.ref)))
theorem vals_refs_eq : ∀ {rs : List Addr} {us : List Value}, Vals (rs.map V.ref) us → us = rs.map Value.ref
  | [], _, r => by cases r; rfl
  | a :: rs, _, r => by
    cases r with
    | cons r1 r2 =>
      rw [vals_refs_eq r2]
      cases r1
      rfl
def addrV : Value → Addr
  | .ref a => a
  | _ => 0
theorem cr_sortedR {X : Cx} : CallR X (.builtin "sorted") (rSortedR X.K) := by
  intro pins s σ H vs us Q I r h
  obtain ⟨a, rs, k, rfl, hs, hx, hi, q⟩ := h
  obtain ⟨its, rv, hl, hz⟩ := I.list hs
  obtain ⟨u, rfl, ru⟩ := vals1 r
  obtain rfl : u = Value.ref a := ru
  have ei := vals_refs_eq rv
  subst ei
  refine SrtO.sorted_rowsO (k := fun u => k (addrV u)) hl.isList (by rw [List.length_map] at *; exact hz) (fun v hv => ?_) (fun v hv u hu e => ?_) fun h' d out h1 h2 kp hd hn => ?_
  · obtain ⟨t, ht, rfl⟩ := List.mem_map.mp hv
    obtain ⟨y, c, e⟩ := hx t ht
    obtain ⟨_, its2, r2, o, ho, hc, n, hdt⟩ := (show ObjOk X.prog X.w H s.heap t (.tup [.int (k t), .int y, .ref c]) from I.hok _ _ e)
    cases r2 with
    | cons a1 r2 =>
      cases r2 with
      | cons a2 r2 =>
        cases r2 with
        | cons a3 r2 =>
          cases r2
          obtain ⟨t1, rfl⟩ := a1
          obtain ⟨t2, rfl⟩ := a2
          cases a3
          exact ⟨t, o, t1, y, t2, c, n, rfl, ho, hc, hdt⟩
  · obtain ⟨t, ht, rfl⟩ := List.mem_map.mp hv
    obtain ⟨t', ht', rfl⟩ := List.mem_map.mp hu
    rw [hi t ht t' ht' e]
  · obtain ⟨n, hn⟩ := hn
    have hp := h2.perm
    have eo : out = (out.map addrV).map Value.ref := by
      rw [List.map_map]
      have : ∀ u ∈ out, Value.ref (addrV u) = u := fun u hu => by
        obtain ⟨t, _, rfl⟩ := List.mem_map.mp (hp.mem_iff.mp hu)
        rfl
      conv => lhs; rw [← List.map_id out]
      exact List.map_congr_left fun u hu => (this u hu).symm
    have hp2 : (out.map addrV).Perm rs := by
      have z := hp.map addrV
      rw [List.map_map] at z
      have id : (rs.map (addrV ∘ Value.ref)) = rs := by
        conv => rhs; rw [← List.map_id rs]
        rfl
      rw [id] at z
      exact z
    have hs2 : (out.map addrV).Pairwise (fun a b => k a ≤ k b) := by
      rw [List.pairwise_map]
      refine List.Pairwise.imp (fun {a b} h => ?_) h1
      have := of_decide_eq_false h
      omega
    refine ⟨.ref d, upd H d (.lst ((out.map addrV).map V.ref)), I.laid (t' := s.toks) kp hd ⟨?_, out, n, ?_, hn⟩, rfl, q _ d hp2 hs2 (I.hok.fresh hd)⟩
    · rw [List.length_map, hp2.length_eq]
      rw [List.length_map] at hz
      exact hz
    · rw [eo]
      have g : ∀ l : List Addr, Vals (l.map V.ref) (l.map Value.ref) := fun l => by
        induction l with
        | nil => exact .nil
        | cons a l ih => exact .cons rfl ih
      rw [← eo]
      conv => arg 2; rw [eo]
      exact g _
/-- list.index within a comprehension -/
theorem pe_indexK {X : Cx} {K : PySem.W.Frag} (h : X.K = K) {o e : Expr} {to te : TE} {apos cpos : Pos} (p : PE X (.Call (.Attribute o "index" apos) [e] [] cpos) (tBM X.K "list" (rIndex X.K) to (tCons te tNil))) : PE X (.Call (.Attribute o "index" apos) [e] [] cpos) (tBM K "list" (rIndex K) to (tCons te tNil)) := by
  subst h
  exact p
theorem op_notInK {X : Cx} {K : PySem.W.Frag} (h : X.K = K) : OpR X (compareOp .NotIn) (rIn K true) := by
  subst h
  exact op_notIn_seq
end L2

namespace L2
open PySem PySem.Spec PyProof.Rows
section
variable {X : Cx}
/-- a name of the def's own, on the line of the comprehension: stored within its frame -/
theorem swd_true {kx vx : Expr} {gs : List Comprehension} {scope : Scope} {pos py : Pos} {y : Str} {l : Nat} {env : Env} (e1 : env.scope.kind = .function) (e2 : env.scope.names.lookup y = some .local) (e3 : (py.line == pos.line) = true)
    (e4 : (scope.names.any fun (n, k) => n == y && (k == .local || k == .cell)) = false) : swapsWith (.DictComp kx vx gs scope pos) (some (.Name y py)) l env = pure true := by
  have a1 : env.kindOf y = some .local := e2
  have a2 : env.blockKind = .function := (by unfold Env.blockKind; rw [e1]; rfl)
  unfold swapsWith
  simp only [a2, a1, e4, Expr.pos, e3]
  rfl
/-- y = {k: v for x in xs} -/
theorem ps_setDc {i : Nat} {y : Str} {py pos spos : Pos} {kx vx tg iter : Expr} {ifs : List Expr} {scope : Scope} {own : List (Str × Nat)} {wi : TI} {g : TG} {tt : TT} {tk tv : TE} (calm : X.calm = true) (nd : X.N.Nodup) (at_y : X.N[i]? = some y) (loc : X.env.scope.names.lookup y = some .local)
    (sw : swapsWith (.DictComp kx vx [⟨tg, iter, ifs, 0⟩] scope pos) (some (.Name y py)) spos.line X.env = pure true) (walk : PI X tg iter wi) (ok : BlkOk X.N X.env.scope scope own)
    (rg : ∀ (s : Shared) (H : Hp) (C : Addr) (cl : List (Str × Addr)) (fp : List Addr), PG (X.blk s H scope (compEnvC scope cl C X.env) fp) tg g)
    (rt : ∀ (s : Shared) (H : Hp) (C : Addr) (cl : List (Str × Addr)) (fp : List Addr), PTs (X.blk s H scope (compEnvC scope cl C X.env) fp) ifs tt)
    (rk : ∀ (s : Shared) (H : Hp) (C : Addr) (cl : List (Str × Addr)) (fp : List Addr), PE (X.blk s H scope (compEnvC scope cl C X.env) fp) kx tk)
    (rv : ∀ (s : Shared) (H : Hp) (C : Addr) (cl : List (Str × Addr)) (fp : List Addr), PE (X.blk s H scope (compEnvC scope cl C X.env) fp) vx tv)
    (fold : ∀ x, foldedSetIterable iter X.env x = pure x := by intro _; rfl) :
    PS X (.Assign [.Name y py] (.DictComp kx vx [⟨tg, iter, ifs, 0⟩] scope pos) spos) (tAsg (tDc wi g tt tk tv (own.map (·.2))) (gName i)) := by
  constructor
  intro pins s σ H D I q
  have q : tDc wi g tt tk tv (own.map (·.2)) σ H (fun x H1 => gName i x σ H1 D.nx) := q
  rw [exec_Assign_Name_used _ _ _ _ sw]
  apply wpAny_bind
  apply wpAny_standAt
  apply wpAny_bind
  show wpAny _ X.A (do let _ ← comprehension (.DictComp kx vx [⟨tg, iter, ifs, 0⟩] scope pos) scope X.env (firstIterPos [⟨tg, iter, ifs, 0⟩] pos) newDict false (eval iter X.env) (some (assign (.Name y py) X.env))) _ _ s
  apply wpAny_bind
  refine thn (dc_core (Qf := fun _ s' => SP X pins D .next s') calm nd I walk ok rg rt rk rv fold q ?_) fun _ _ z => wpAny_pure (wpAny_pure z)
  intro d c t n H2 J nx ns fr
  show wpAny _ _ (assign (.Name y py) X.env (.ref d)) _ _ _
  refine wpAny_assign_Name (store_ok2 (v := V.ref d) J nd at_y (.inl loc) rfl ?_ (.inr loc))
  rintro u JU ⟨b, same, which⟩
  obtain ⟨r0, r1, r2, r3, r4, r5⟩ := fr
  have far : c ≠ b := by
    cases which with
    | inl z => exact z ▸ r1
    | inr z => exact fun e => r4 y b z e.symm
  exact ⟨n, ns.sameBut same far, fun _ rest => ⟨_, H2, JU.turned (t' := u.toks) (fun a o ha e => (rest.2 a ha).trans e) r0 r1 r3 r4 r5, nx⟩⟩
end
end L2

namespace SrtO
open PySem PyProof.Rows Srt
section
variable {prog : Program} {w : World} {A : Around} {E : Value → Shared → Prop} {s : Shared}
/-- the heap with the items of a tuple in a new list -/
def gath (h : Heap) (its : List Value) : Heap := (h.push (seqObj "list" #[] 0)).update h.objs.size (Obj.mapSeq (· ++ its.toArray))
theorem gath_at (h : Heap) (its : List Value) : ∃ k, (gath h its).get? h.objs.size = some (seqObj "list" its.toArray k) := by
  have e := get?_update_seq (c := "list") (xs := #[]) (n := 0) (Heap.get?_push_size h rfl) (· ++ its.toArray)
  rw [Array.empty_append] at e
  exact ⟨_, e⟩
theorem gath_old {h : Heap} {its : List Value} {b : Addr} {o : Obj} (e : h.get? b = some o) : (gath h its).get? b = some o := by
  unfold gath
  rw [Heap.get?_update_ne _ _ _ _ (Nat.ne_of_lt (Heap.lt_size e))]
  exact Heap.get?_push_of_some _ e
theorem gath_size (h : Heap) (its : List Value) : (gath h its).objs.size = h.objs.size + 1 := by
  unfold gath
  rw [Heap.size_update, size_push']
theorem gather_tup {t : Addr} {o : Obj} {its : List Value} {k : Nat} {Q : List Value → Shared → Prop} (there : s.heap.get? t = some o) (cls : o.cls = .type "tuple") (dat : o.data = .seq its.toArray k) (few : its.length ≤ sizeLine)
    (next : Q its { s with heap := gath s.heap its }) : wpAny (model prog w) A (collect (.ref t)) Q E s := by
  have there' : (s.heap.push (seqObj "list" #[] 0)).get? t = some o := Heap.get?_push_of_some _ there
  have new0 : (s.heap.push (seqObj "list" #[] 0)).get? s.heap.objs.size = some (seqObj "list" #[] 0) := Heap.get?_push_size _ rfl
  unfold collect
  apply wpAny_bind
  refine wpAny_runValue (codeAny_builtin entry_proto_collect' ?_)
  show wpAny _ _ (newList [] >>= fun l => again (.builtin "list.__iadd__" ⟨[l, .ref t], []⟩)) _ _ s
  apply wpAny_bind
  refine wpAny_newList (wpAny_pure ⟨Code.quiet_builtin _ (by decide +kernel), codeAny_builtin entry_list_iadd' ?_⟩)
  show wpAny _ _ (Builtin.List.listExtendWith (.ref s.heap.objs.size) (.ref t) (.ref s.heap.objs.size)) _ _ { s with heap := s.heap.push (seqObj "list" #[] 0) }
  unfold Builtin.List.listExtendWith
  apply wpAny_bind
  refine wpAny_typeOf (T := "tuple") ⟨o, there', cls⟩ ?_
  have isT : (Value.type "tuple" == Value.type "tuple") = true := by rfl
  rw [if_pos (by rw [isT]; simp)]
  refine wpAny_bind (listItems_at there' dat ?_)
  refine wpAny_bind (listItems_at new0 rfl ?_)
  rw [if_neg (by simp)]
  refine wpAny_bind (listUpdate_at new0 rfl ?_ (Nat.zero_le _) (by show (#[] ++ its.toArray).size ≤ sizeLine + 1; simp only [Array.size_append, List.size_toArray, List.length_nil]; omega))
  refine wpAny_pure ?_
  obtain ⟨k2, e⟩ := gath_at s.heap its
  show wpAny (model prog w) A (do
      let o ← load s.heap.objs.size
      match o.data with
      | .seq xs _ => pure xs.toList
      | _ => unsupported "internal:collect") Q E { s with heap := gath s.heap its }
  exact wpAny_bind (wpAny_load e (wpAny_pure next))
/-- sorted(t), t a tuple of ints -/
theorem sorted_tupI {t : Addr} {o : Obj} {its : List Value} {ns : List Int} {k : Nat} {Q : Value → Shared → Prop} (I : IntsAre its ns) (there : s.heap.get? t = some o) (cls : o.cls = .type "tuple") (dat : o.data = .seq its.toArray k) (few : its.length ≤ sizeLine)
    (next : ∀ (out : List Value) (h' : Heap) (e : Nat), Srtd ltIv out → Stb ltIv out its → (∀ b u, s.heap.get? b = some u → h'.get? b = some u) → h'.get? (s.heap.objs.size + 1) = some (seqObj "list" out.toArray e) → Q (.ref (s.heap.objs.size + 1)) { s with heap := h' }) :
    wpAny (model prog w) A (call (.builtin "sorted") [.ref t]) Q E s := by
  refine Calls.call_function_entry kind_sorted plain_sorted entry_sorted (args_sorted1 _) ?_
  unfold Builtin.«sorted»
  refine wpAny_bind (m := checkCount "sorted" 1 1 _) (wpAny_pure ?_)
  refine wpAny_bind (gather_tup there cls dat few ?_)
  refine wpAny_bind (wpAny_newList ?_ few)
  show wpAny _ _ _ _ _ { s with heap := (gath s.heap its).push (seqObj "list" its.toArray 0) }
  have at_l : ((gath s.heap its).push (seqObj "list" its.toArray 0)).get? (gath s.heap its).objs.size = some (seqObj "list" its.toArray 0) := Heap.get?_push_size _ rfl
  refine wpAny_bind (wpAny_holding (wpAny_call_entry slot_list_sort ⟨_, at_l, rfl⟩ entry_list_sort (list_sort_ord swo_int at_l few (fun two => ints_sortable I two) fun out h1 h2 => ⟨_, rfl, ?_⟩) (args_list_sort _)))
  obtain ⟨e, he⟩ := sortedHeap_at (vs := its) (out := out.toArray) at_l
  rw [gath_size] at he ⊢
  refine wpAny_pure ⟨_, rfl, next out _ e h1 h2 (fun b u z => ?_) he⟩
  have lt : b < s.heap.objs.size := Heap.lt_size z
  rw [sortedHeap_old (Nat.ne_of_lt (Nat.lt_succ_of_lt lt)) (by rw [size_push', gath_size]; exact Nat.lt_succ_of_lt (Nat.lt_succ_of_lt lt))]
  exact Heap.get?_push_of_some _ (gath_old z)
end
end SrtO
namespace L2
open PySem PySem.Spec PyProof.Rows
def rSortedTI (K : PySem.W.Frag) : List V → Hp → VK → Prop := fun vs H Q => ∃ (a : Addr) (ns : List Int), vs = [V.ref a] ∧ SqT K H a (ns.map V.int) ∧ ∀ (ns' : List Int) (p : Addr), ns'.Perm ns → ns'.Pairwise (· ≤ ·) → H p = none → Q (.ref p) (upd H p (.lst (ns'.map V.int)))
theorem cr_sortedTI {X : Cx} : CallR X (.builtin "sorted") (rSortedTI X.K) := by
  intro pins s σ H vs us Q I r h
  obtain ⟨a, ns, rfl, hs, q⟩ := h
  obtain ⟨its, rv, ⟨o, ho, hc, k, hd⟩, hz⟩ := I.tuple hs
  rw [Vals.ref1 r]
  have hz' : ns.length ≤ sizeLine := by
    rw [List.length_map] at hz
    exact hz
  refine SrtO.sorted_tupI rv.ints ho hc hd (by rw [← rv.length]; exact hz) fun out h' e h1 h2 old new => ?_
  obtain ⟨k1, k2, k3⟩ := SrtO.ints_out rv.ints h1 h2
  exact ⟨.ref _, upd H (s.heap.objs.size + 1) (.lst ((out.map SrtO.iv).map V.int)), I.laid (t' := s.toks) old (Nat.le_succ _) ⟨by rw [List.length_map, k2.length_eq]; exact hz', out, e, vals_of_ints k1, new⟩, rfl, q _ _ k2 k3 (I.hok.fresh (Nat.le_succ _))⟩
end L2

namespace Pv
open PySem L2
def word : Nat → Str
  | 0 => "free" | 1 => "pair" | 2 => "claim" | 3 => "hook" | 4 => "relay" | 5 => "clamp" | 6 => "trail" | _ => "wheel"
def wordsV : List V := [.str "free", .str "pair", .str "claim", .str "hook", .str "relay", .str "clamp", .str "trail", .str "wheel"]
def formsT : List (List Nat × Str) := [([0], "free"), ([1, 0], "pair"), ([1, 1], "claim"), ([1, 2, 1], "hook"), ([1, 2, 2], "relay"), ([1, 2, 1, 2], "clamp"), ([1, 2, 3, 2], "trail"), ([1, 2, 3, 0], "wheel")]
/-- a def with its promise: how it binds, too -/
def Okd (P : Program) (w : World) (K : PySem.W.Frag) (mg : Str → Option Value) (base : Heap) (CX : CXT) (k : Nat) (f : Addr) (ps : List Str) (sp : Sp) : Prop := ∃ fd, FnOk P w K mg base CX k f fd ps sp ∧ Binds K fd ps []
def top (i : Nat) : Stmt := PySem.Challenge.pw_peermend_k01_whole_pieces_of_built_image.main.body.getD i (.Pass ⟨0, 0, 0, 0⟩)
abbrev s_own : Stmt := top 4
abbrev s_check_image : Stmt := top 6
abbrev s_groups : Stmt := top 7
abbrev s_least_records : Stmt := top 8
abbrev s_pieces : Stmt := top 13
abbrev s_is_repairable : Stmt := top 14
abbrev s_census : Stmt := top 15
abbrev s_torn_pieces : Stmt := top 16
abbrev s_piece_of : Stmt := top 17
abbrev s_row_of : Stmt := top 18
abbrev s_law_bag : Stmt := top 20
abbrev s_law_take : Stmt := top 21
abbrev s_law_order : Stmt := top 22
abbrev s_law_words : Stmt := top 23
abbrev s_law_pattern : Stmt := top 24
abbrev s_law_canonical : Stmt := top 25
abbrev s_law_build : Stmt := top 26
abbrev s_law_row_meets : Stmt := top 27
abbrev s_law_groups_meet : Stmt := top 28
abbrev s_law_pieces_meet : Stmt := top 29
abbrev s_law_census_meets : Stmt := top 30
abbrev s_law_words_meet : Stmt := top 31
abbrev s_law_groups_stand : Stmt := top 32
abbrev s_law_pieces_stand : Stmt := top 33
abbrev s_law : Stmt := top 34
structure Ad where
  own : Addr
  check_image : Addr
  groups : Addr
  least_records : Addr
  pieces : Addr
  is_repairable : Addr
  census : Addr
  torn_pieces : Addr
  piece_of : Addr
  row_of : Addr
  law_bag : Addr
  law_take : Addr
  law_order : Addr
  law_words : Addr
  law_pattern : Addr
  law_canonical : Addr
  law_build : Addr
  law_row_meets : Addr
  law_groups_meet : Addr
  law_pieces_meet : Addr
  law_census_meets : Addr
  law_words_meet : Addr
  law_groups_stand : Addr
  law_pieces_stand : Addr
  law : Addr
  WORDS : Addr
  WHOLE : Addr
  FORMS : Addr
abbrev N_own : List Str := ["given"]
abbrev P_own : List Str := ["given"]
theorem sc_own : FnScope N_own P_own (defScope s_own) := ⟨rfl, rfl, rfl, by decide +kernel, rfl, by decide +kernel, by decide +kernel⟩
abbrev N_check_image : List Str := ["image", "size", "record", "name"]
abbrev P_check_image : List Str := ["image"]
theorem sc_check_image : FnScope N_check_image P_check_image (defScope s_check_image) := ⟨rfl, rfl, rfl, by decide +kernel, rfl, by decide +kernel, by decide +kernel⟩
abbrev N_groups : List Str := ["image", "found", "record", "least"]
abbrev P_groups : List Str := ["image"]
theorem sc_groups : FnScope N_groups P_groups (defScope s_groups) := ⟨rfl, rfl, rfl, by decide +kernel, rfl, by decide +kernel, by decide +kernel⟩
abbrev N_least_records : List Str := ["image", "least", "record", "name", "low", "high", "old"]
abbrev P_least_records : List Str := ["image"]
theorem sc_least_records : FnScope N_least_records P_least_records (defScope s_least_records) := ⟨rfl, rfl, rfl, by decide +kernel, rfl, by decide +kernel, by decide +kernel⟩
abbrev N_pieces : List Str := ["image", "found", "group", "piece"]
abbrev P_pieces : List Str := ["image"]
theorem sc_pieces : FnScope N_pieces P_pieces (defScope s_pieces) := ⟨rfl, rfl, rfl, by decide +kernel, rfl, by decide +kernel, by decide +kernel⟩
abbrev N_is_repairable : List Str := ["image", "group"]
abbrev P_is_repairable : List Str := ["image"]
theorem sc_is_repairable : FnScope N_is_repairable P_is_repairable (defScope s_is_repairable) := ⟨rfl, rfl, rfl, by decide +kernel, rfl, by decide +kernel, by decide +kernel⟩
abbrev N_census : List Str := ["image", "counts", "word", "_"]
abbrev P_census : List Str := ["image"]
theorem sc_census : FnScope N_census P_census (defScope s_census) := ⟨rfl, rfl, rfl, by decide +kernel, rfl, by decide +kernel, by decide +kernel⟩
abbrev N_torn_pieces : List Str := ["image", "piece"]
abbrev P_torn_pieces : List Str := ["image"]
theorem sc_torn_pieces : FnScope N_torn_pieces P_torn_pieces (defScope s_torn_pieces) := ⟨rfl, rfl, rfl, by decide +kernel, rfl, by decide +kernel, by decide +kernel⟩
abbrev N_piece_of : List Str := ["image", "group", "records", "shape", "word", "record"]
abbrev P_piece_of : List Str := ["image", "group"]
theorem sc_piece_of : FnScope N_piece_of P_piece_of (defScope s_piece_of) := ⟨rfl, rfl, rfl, by decide +kernel, rfl, by decide +kernel, by decide +kernel⟩
abbrev N_row_of : List Str := ["image", "group", "shown", "tails", "here", "row", "record"]
abbrev P_row_of : List Str := ["image", "group"]
theorem sc_row_of : FnScope N_row_of P_row_of (defScope s_row_of) := ⟨rfl, rfl, rfl, by decide +kernel, rfl, by decide +kernel, by decide +kernel⟩
abbrev N_law_bag : List Str := ["script", "great", "first", "second", "cell"]
abbrev P_law_bag : List Str := ["script"]
theorem sc_law_bag : FnScope N_law_bag P_law_bag (defScope s_law_bag) := ⟨rfl, rfl, rfl, by decide +kernel, rfl, by decide +kernel, by decide +kernel⟩
abbrev N_law_take : List Str := ["bag", "size", "digit"]
abbrev P_law_take : List Str := ["bag", "size"]
theorem sc_law_take : FnScope N_law_take P_law_take (defScope s_law_take) := ⟨rfl, rfl, rfl, by decide +kernel, rfl, by decide +kernel, by decide +kernel⟩
abbrev N_law_order : List Str := ["bag", "size", "spare", "order", "k"]
abbrev P_law_order : List Str := ["bag", "size"]
theorem sc_law_order : FnScope N_law_order P_law_order (defScope s_law_order) := ⟨rfl, rfl, rfl, by decide +kernel, rfl, by decide +kernel, by decide +kernel⟩
abbrev N_law_words : List Str := []
abbrev P_law_words : List Str := []
theorem sc_law_words : FnScope N_law_words P_law_words (defScope s_law_words) := ⟨rfl, rfl, rfl, by decide +kernel, rfl, by decide +kernel, by decide +kernel⟩
abbrev N_law_pattern : List Str := ["which", "forms"]
abbrev P_law_pattern : List Str := ["which"]
theorem sc_law_pattern : FnScope N_law_pattern P_law_pattern (defScope s_law_pattern) := ⟨rfl, rfl, rfl, by decide +kernel, rfl, by decide +kernel, by decide +kernel⟩
abbrev N_law_canonical : List Str := ["which", "members", "at"]
abbrev P_law_canonical : List Str := ["which", "members"]
theorem sc_law_canonical : FnScope N_law_canonical P_law_canonical (defScope s_law_canonical) := ⟨rfl, rfl, rfl, by decide +kernel, rfl, by decide +kernel, by decide +kernel⟩
abbrev N_law_build : List Str := ["bag", "most", "chosen", "used", "k", "which", "order", "shown", "rows", "form", "members"]
abbrev P_law_build : List Str := ["bag", "most"]
theorem sc_law_build : FnScope N_law_build P_law_build (defScope s_law_build) := ⟨rfl, rfl, rfl, by decide +kernel, rfl, by decide +kernel, by decide +kernel⟩
abbrev N_law_row_meets : List Str := ["told", "due", "k"]
abbrev P_law_row_meets : List Str := ["told", "due"]
theorem sc_law_row_meets : FnScope N_law_row_meets P_law_row_meets (defScope s_law_row_meets) := ⟨rfl, rfl, rfl, by decide +kernel, rfl, by decide +kernel, by decide +kernel⟩
abbrev N_law_groups_meet : List Str := ["told", "rows", "k"]
abbrev P_law_groups_meet : List Str := ["told", "rows"]
theorem sc_law_groups_meet : FnScope N_law_groups_meet P_law_groups_meet (defScope s_law_groups_meet) := ⟨rfl, rfl, rfl, by decide +kernel, rfl, by decide +kernel, by decide +kernel⟩
abbrev N_law_pieces_meet : List Str := ["told", "rows", "k"]
abbrev P_law_pieces_meet : List Str := ["told", "rows"]
theorem sc_law_pieces_meet : FnScope N_law_pieces_meet P_law_pieces_meet (defScope s_law_pieces_meet) := ⟨rfl, rfl, rfl, by decide +kernel, rfl, by decide +kernel, by decide +kernel⟩
abbrev N_law_census_meets : List Str := ["told", "rows", "words", "which", "many", "row"]
abbrev P_law_census_meets : List Str := ["told", "rows"]
theorem sc_law_census_meets : FnScope N_law_census_meets P_law_census_meets (defScope s_law_census_meets) := ⟨rfl, rfl, rfl, by decide +kernel, rfl, by decide +kernel, by decide +kernel⟩
abbrev N_law_words_meet : List Str := ["which"]
abbrev P_law_words_meet : List Str := []
theorem sc_law_words_meet : FnScope N_law_words_meet P_law_words_meet (defScope s_law_words_meet) := ⟨rfl, rfl, rfl, by decide +kernel, rfl, by decide +kernel, by decide +kernel⟩
abbrev N_law_groups_stand : List Str := ["handed", "rows", "told", "last"]
abbrev P_law_groups_stand : List Str := ["handed", "rows"]
theorem sc_law_groups_stand : FnScope N_law_groups_stand P_law_groups_stand (defScope s_law_groups_stand) := ⟨rfl, rfl, rfl, by decide +kernel, rfl, by decide +kernel, by decide +kernel⟩
abbrev N_law_pieces_stand : List Str := ["handed", "rows", "torn_rows", "told", "few", "row"]
abbrev P_law_pieces_stand : List Str := ["handed", "rows"]
theorem sc_law_pieces_stand : FnScope N_law_pieces_stand P_law_pieces_stand (defScope s_law_pieces_stand) := ⟨rfl, rfl, rfl, by decide +kernel, rfl, by decide +kernel, by decide +kernel⟩
abbrev N_law : List Str := ["script", "bag", "most", "built", "shown", "rows", "handed", "good"]
abbrev P_law : List Str := ["script"]
theorem sc_law : FnScope N_law P_law (defScope s_law) := ⟨rfl, rfl, rfl, by decide +kernel, rfl, by decide +kernel, by decide +kernel⟩
structure Txt (K : PySem.W.Frag) (mg : Str → Option Value) (A : Ad) : Prop where
  g_own : mg "_own" = some (.ref A.own)
  k_own : PySem.W.keepIn K (.ref A.own) = true
  d_own : ∃ fd, Fun K "_own" "_own" s_own A.own fd
  g_check_image : mg "check_image" = some (.ref A.check_image)
  k_check_image : PySem.W.keepIn K (.ref A.check_image) = true
  d_check_image : ∃ fd, Fun K "check_image" "check_image" s_check_image A.check_image fd
  g_groups : mg "groups" = some (.ref A.groups)
  k_groups : PySem.W.keepIn K (.ref A.groups) = true
  d_groups : ∃ fd, Fun K "groups" "groups" s_groups A.groups fd
  g_least_records : mg "_least_records" = some (.ref A.least_records)
  k_least_records : PySem.W.keepIn K (.ref A.least_records) = true
  d_least_records : ∃ fd, Fun K "_least_records" "_least_records" s_least_records A.least_records fd
  g_pieces : mg "pieces" = some (.ref A.pieces)
  k_pieces : PySem.W.keepIn K (.ref A.pieces) = true
  d_pieces : ∃ fd, Fun K "pieces" "pieces" s_pieces A.pieces fd
  g_is_repairable : mg "is_repairable" = some (.ref A.is_repairable)
  k_is_repairable : PySem.W.keepIn K (.ref A.is_repairable) = true
  d_is_repairable : ∃ fd, Fun K "is_repairable" "is_repairable" s_is_repairable A.is_repairable fd
  g_census : mg "census" = some (.ref A.census)
  k_census : PySem.W.keepIn K (.ref A.census) = true
  d_census : ∃ fd, Fun K "census" "census" s_census A.census fd
  g_torn_pieces : mg "torn_pieces" = some (.ref A.torn_pieces)
  k_torn_pieces : PySem.W.keepIn K (.ref A.torn_pieces) = true
  d_torn_pieces : ∃ fd, Fun K "torn_pieces" "torn_pieces" s_torn_pieces A.torn_pieces fd
  g_piece_of : mg "_piece_of" = some (.ref A.piece_of)
  k_piece_of : PySem.W.keepIn K (.ref A.piece_of) = true
  d_piece_of : ∃ fd, Fun K "_piece_of" "_piece_of" s_piece_of A.piece_of fd
  g_row_of : mg "_row_of" = some (.ref A.row_of)
  k_row_of : PySem.W.keepIn K (.ref A.row_of) = true
  d_row_of : ∃ fd, Fun K "_row_of" "_row_of" s_row_of A.row_of fd
  g_law_bag : mg "_law_bag" = some (.ref A.law_bag)
  k_law_bag : PySem.W.keepIn K (.ref A.law_bag) = true
  d_law_bag : ∃ fd, Fun K "_law_bag" "_law_bag" s_law_bag A.law_bag fd
  g_law_take : mg "_law_take" = some (.ref A.law_take)
  k_law_take : PySem.W.keepIn K (.ref A.law_take) = true
  d_law_take : ∃ fd, Fun K "_law_take" "_law_take" s_law_take A.law_take fd
  g_law_order : mg "_law_order" = some (.ref A.law_order)
  k_law_order : PySem.W.keepIn K (.ref A.law_order) = true
  d_law_order : ∃ fd, Fun K "_law_order" "_law_order" s_law_order A.law_order fd
  g_law_words : mg "_law_words" = some (.ref A.law_words)
  k_law_words : PySem.W.keepIn K (.ref A.law_words) = true
  d_law_words : ∃ fd, Fun K "_law_words" "_law_words" s_law_words A.law_words fd
  g_law_pattern : mg "_law_pattern" = some (.ref A.law_pattern)
  k_law_pattern : PySem.W.keepIn K (.ref A.law_pattern) = true
  d_law_pattern : ∃ fd, Fun K "_law_pattern" "_law_pattern" s_law_pattern A.law_pattern fd
  g_law_canonical : mg "_law_canonical" = some (.ref A.law_canonical)
  k_law_canonical : PySem.W.keepIn K (.ref A.law_canonical) = true
  d_law_canonical : ∃ fd, Fun K "_law_canonical" "_law_canonical" s_law_canonical A.law_canonical fd
  g_law_build : mg "_law_build" = some (.ref A.law_build)
  k_law_build : PySem.W.keepIn K (.ref A.law_build) = true
  d_law_build : ∃ fd, Fun K "_law_build" "_law_build" s_law_build A.law_build fd
  g_law_row_meets : mg "_law_row_meets" = some (.ref A.law_row_meets)
  k_law_row_meets : PySem.W.keepIn K (.ref A.law_row_meets) = true
  d_law_row_meets : ∃ fd, Fun K "_law_row_meets" "_law_row_meets" s_law_row_meets A.law_row_meets fd
  g_law_groups_meet : mg "_law_groups_meet" = some (.ref A.law_groups_meet)
  k_law_groups_meet : PySem.W.keepIn K (.ref A.law_groups_meet) = true
  d_law_groups_meet : ∃ fd, Fun K "_law_groups_meet" "_law_groups_meet" s_law_groups_meet A.law_groups_meet fd
  g_law_pieces_meet : mg "_law_pieces_meet" = some (.ref A.law_pieces_meet)
  k_law_pieces_meet : PySem.W.keepIn K (.ref A.law_pieces_meet) = true
  d_law_pieces_meet : ∃ fd, Fun K "_law_pieces_meet" "_law_pieces_meet" s_law_pieces_meet A.law_pieces_meet fd
  g_law_census_meets : mg "_law_census_meets" = some (.ref A.law_census_meets)
  k_law_census_meets : PySem.W.keepIn K (.ref A.law_census_meets) = true
  d_law_census_meets : ∃ fd, Fun K "_law_census_meets" "_law_census_meets" s_law_census_meets A.law_census_meets fd
  g_law_words_meet : mg "_law_words_meet" = some (.ref A.law_words_meet)
  k_law_words_meet : PySem.W.keepIn K (.ref A.law_words_meet) = true
  d_law_words_meet : ∃ fd, Fun K "_law_words_meet" "_law_words_meet" s_law_words_meet A.law_words_meet fd
  g_law_groups_stand : mg "_law_groups_stand" = some (.ref A.law_groups_stand)
  k_law_groups_stand : PySem.W.keepIn K (.ref A.law_groups_stand) = true
  d_law_groups_stand : ∃ fd, Fun K "_law_groups_stand" "_law_groups_stand" s_law_groups_stand A.law_groups_stand fd
  g_law_pieces_stand : mg "_law_pieces_stand" = some (.ref A.law_pieces_stand)
  k_law_pieces_stand : PySem.W.keepIn K (.ref A.law_pieces_stand) = true
  d_law_pieces_stand : ∃ fd, Fun K "_law_pieces_stand" "_law_pieces_stand" s_law_pieces_stand A.law_pieces_stand fd
  g_law : mg "law" = some (.ref A.law)
  k_law : PySem.W.keepIn K (.ref A.law) = true
  d_law : ∃ fd, Fun K "law" "law" s_law A.law fd
  g_WORDS : mg "WORDS" = some (.ref A.WORDS)
  g_WHOLE : mg "_WHOLE" = some (.ref A.WHOLE)
  g_FORMS : mg "_FORMS" = some (.ref A.FORMS)
  n_int : mg "int" = none
  n_bool : mg "bool" = none
  n_list : mg "list" = none
  n_str : mg "str" = none
  n_tuple : mg "tuple" = none
  n_dict : mg "dict" = none
  n_len : mg "len" = none
  n_range : mg "range" = none
  n_enumerate : mg "enumerate" = none
  n_isinstance : mg "isinstance" = none
  n_all : mg "all" = none
  n_min : mg "min" = none
  n_max : mg "max" = none
  n_sorted : mg "sorted" = none
  w_WORDS : ∀ H, SqT K H A.WORDS wordsV
  w_WHOLE : ∀ H, SqT K H A.WHOLE [.str "free", .str "pair"]
end Pv

namespace Pv
open PySem L2
/-- all but what stands at b is as it was -/
def Mut (b : Addr) (H H' : Hp) : Prop := ∀ a o, a ≠ b → H a = some o → H' a = some o
theorem Mut.refl (b : Addr) (H : Hp) : Mut b H H := fun _ _ _ e => e
theorem Mut.trans {b : Addr} {H H1 H2 : Hp} (x : Mut b H H1) (y : Mut b H1 H2) : Mut b H H2 := fun a o n e => y a o n (x a o n e)
theorem Mut.upd {b : Addr} {H H1 : Hp} {o : HO} (x : Mut b H H1) : Mut b H (L2.upd H1 b o) := fun a u n e => by
  rw [upd_ne n]
  exact x a u n e
theorem Mut.new {b p : Addr} {H H1 : Hp} {o : HO} (x : Mut b H H1) (hp : H1 p = none) : Mut b H (L2.upd H1 p o) := fun a u n e => by
  have e1 := x a u n e
  rw [upd_ne (ne_of_none e1 hp)]
  exact e1
theorem Mut.free {b p : Addr} {H H1 : Hp} (x : Mut b H H1) (h : p ≠ b) (hp : H1 p = none) : H p = none := by
  cases e : H p with
  | none => rfl
  | some o =>
    rw [x p o h e] at hp
    cases hp
/-- the bag of the draws -/
def bagL (g f s : Int) : List V := [.int g, .int f, .int s]
structure BagOk (g f s : Int) : Prop where
  g0 : 0 ≤ g
  f0 : 0 ≤ f
  f1 : f < 2147483647
  s0 : 0 ≤ s
  s1 : s < 2147483647
def Bag (H : Hp) (b : Addr) : Prop := ∃ g f s : Int, H b = some (.lst (bagL g f s)) ∧ BagOk g f s
def spBag (K : PySem.W.Frag) : Sp := fun vs H Q _ => ∃ (a : Addr) (ns : List Int), vs = [.ref a] ∧ SqL K H a (ns.map V.int) ∧ ∀ b g f s, H b = none → BagOk g f s → Q (.ref b) (upd H b (.lst (bagL g f s)))
def spTake : Sp := fun vs H Q _ => ∃ (b : Addr) (n : Int), vs = [.ref b, .int n] ∧ 0 < n ∧ n < 1152921504606846976 ∧ Bag H b ∧ ∀ d H', 0 ≤ d → d < n → Bag H' b → Mut b H H' → Q (.int d) H'
/-- ints from 0 to below n -/
def Below (n : Int) (xs : List Int) : Prop := ∀ x ∈ xs, 0 ≤ x ∧ x < n
def ListI (H : Hp) (p : Addr) (xs : List Int) : Prop := H p = some (.lst (xs.map V.int))
def spOrder : Sp := fun vs H Q _ => ∃ (b : Addr) (n : Nat), vs = [.ref b, .int (n : Int)] ∧ n ≤ 64 ∧ Bag H b ∧ ∀ p xs H', H p = none → p ≠ b → xs.length = n → Below n xs → ListI H' p xs → Bag H' b → Mut b H H' → Q (.ref p) H'
def spSize : Sp := fun vs H Q _ => ∃ b : Addr, vs = [.ref b] ∧ Bag H b ∧ ∀ (d : Int) H', 0 ≤ d → d ≤ 64 → Bag H' b → Mut b H H' → Q (.int d) H'
def spEntry : Sp := fun vs H Q _ => ∃ (b : Addr) (n : Nat), vs = [.ref b, .int (n : Int)] ∧ 0 < n ∧ n ≤ 64 ∧ Bag H b ∧ ∀ (d : Int) H', Bag H' b → Mut b H H' → Q (.int d) H'
def spDrawn : Sp := fun vs H Q _ => ∃ (b : Addr) (n : Nat), vs = [.ref b, .int (n : Int)] ∧ n ≤ 64 ∧ Bag H b ∧ ∀ p xs H', H p = none → p ≠ b → xs.length = n → ListI H' p xs → Bag H' b → Mut b H H' → Q (.ref p) H'
theorem Bag.ne {H : Hp} {b p : Addr} (B : Bag H b) (h : H p = none) : p ≠ b := fun e => by
  obtain ⟨g, f, s, hb, _⟩ := B
  rw [e, hb] at h
  cases h
theorem Bag.keep {H H' : Hp} {b : Addr} (B : Bag H b) (h : ∀ o, H b = some o → H' b = some o) : Bag H' b := by
  obtain ⟨g, f, s, hb, ok⟩ := B
  exact ⟨g, f, s, h _ hb, ok⟩
theorem map_erase {α β : Type} (f : α → β) : ∀ (l : List α) (i : Nat), (l.map f).eraseIdx i = (l.eraseIdx i).map f
  | [], _ => rfl
  | _ :: _, 0 => rfl
  | a :: l, i + 1 => by
    show f a :: (l.map f).eraseIdx i = f a :: (l.eraseIdx i).map f
    rw [map_erase f l i]
theorem rgV_map (n : Nat) : rgV 0 (n : Int) = ((List.range n).map fun i : Nat => (i : Int)).map V.int := by
  unfold rgV
  have e : ((n : Int) - 0).toNat = n := by omega
  rw [e, List.map_map]
  refine List.map_congr_left fun i _ => ?_
  show V.int (0 + (i : Int)) = V.int (i : Int)
  rw [Int.zero_add]
theorem below_rg (n : Nat) : Below (n : Int) ((List.range n).map fun i : Nat => (i : Int)) := fun x hx => by
  obtain ⟨i, hi, rfl⟩ := List.mem_map.mp hx
  have := List.mem_range.mp hi
  omega
theorem ListI.sz {K : PySem.W.Frag} {H : Hp} {p : Addr} {xs : List Int} (h : ListI H p xs) : SqL K H p (xs.map V.int) := SqL.of h
theorem ix_map {xs : List Int} {j : Nat} (h : j < xs.length) : (xs.map V.int)[j]? = some (V.int xs[j]) := by
  rw [List.getElem?_map, List.getElem?_eq_getElem h]
  rfl
theorem at_map {xs : List Int} {j : Nat} (h : j < xs.length) : atI (xs.map V.int) (j : Int) = some (V.int xs[j]) := atI_nat (ix_map h)
theorem set_map {xs : List Int} {j : Nat} {v : Int} : (xs.map V.int).set j (V.int v) = (xs.set j v).map V.int := List.map_set.symm
theorem ite_b {b : Bool} {X Y : Prop} (h1 : b = true → X) (h2 : b = false → Y) : if b = true then X else Y := by
  cases b with
  | true => exact h1 rfl
  | false => exact h2 rfl
theorem int_at {ns : List Int} {i : Nat} {y : V} (h : (ns.map V.int)[i]? = some y) : ∃ z, ns[i]? = some z ∧ y = V.int z := by
  rw [List.getElem?_map] at h
  cases e : ns[i]? with
  | none =>
    rw [e] at h
    cases h
  | some z =>
    rw [e] at h
    exact ⟨z, rfl, (Option.some.inj h).symm⟩
end Pv

namespace Pv
open PySem L2 Evl Pm
def nI (xs : List Nat) : List V := xs.map fun x : Nat => V.int (x : Int)
def ListN (H : Hp) (p : Addr) (xs : List Nat) : Prop := H p = some (.lst (nI xs))
theorem nI_len (xs : List Nat) : (nI xs).length = xs.length := List.length_map ..
theorem ListN.sz {K : PySem.W.Frag} {H : Hp} {p : Addr} {xs : List Nat} (h : ListN H p xs) : SqL K H p (nI xs) := SqL.of h
theorem ListN.ex {H H1 : Hp} {a : Addr} {xs : List Nat} (e : Ex H H1) (h : ListN H a xs) : ListN H1 a xs := e a _ h
theorem nat_at {ns : List Nat} {i : Nat} {y : V} (h : (nI ns)[i]? = some y) : i < ns.length ∧ y = V.int ((ns.getD i 0 : Nat) : Int) := by
  unfold nI at h
  rw [List.getElem?_map] at h
  cases e : ns[i]? with
  | none =>
    rw [e] at h
    cases h
  | some z =>
    rw [e] at h
    refine ⟨(List.getElem?_eq_some_iff.mp e).1, ?_⟩
    rw [List.getD_eq_getElem?_getD, e]
    exact (Option.some.inj h).symm
theorem ixN_ {xs : List Nat} {j : Nat} (h : j < xs.length) : (nI xs)[j]? = some (V.int ((xs.getD j 0 : Nat) : Int)) := by
  unfold nI
  rw [List.getElem?_map, List.getD_eq_getElem?_getD, List.getElem?_eq_getElem h]
  rfl
theorem atN {xs : List Nat} {j : Nat} (h : j < xs.length) : atI (nI xs) (j : Int) = some (V.int ((xs.getD j 0 : Nat) : Int)) := atI_nat (ixN_ h)
theorem ex_new {H H1 : Hp} {p : Addr} {o : HO} (e : Ex H H1) (h : H1 p = none) : Ex H (upd H1 p o) := e.trans (Ex.new h)
structure Good (ys : List Nat) (bs : List Bk) : Prop where
  built : Built ys bs
  srt : bs.Pairwise fun a b => mn a.2 < mn b.2
  can : ∀ b ∈ bs, Canon b
  len : ys.length ≤ 64
def PieceAt (H : Hp) (q : Addr) (b : Bk) : Prop := ∃ t, H q = some (.tup [.str (word b.1), .ref t]) ∧ H t = some (.tup (nI b.2))
def RowAt (H : Hp) (r : Addr) (b : Bk) : Prop := ∃ t, H r = some (.tup [.int (mn b.2 : Nat), .int (b.1 : Nat), .ref t]) ∧ H t = some (.tup (nI b.2))
def All2 (F : Hp → Addr → Bk → Prop) (H : Hp) (p : Addr) (bs : List Bk) : Prop := ∃ qs : List Addr, H p = some (.lst (qs.map V.ref)) ∧ qs.length = bs.length ∧ ∀ (i : Nat) (q : Addr) (b : Bk), qs[i]? = some q → bs[i]? = some b → F H q b
theorem PieceAt.ex {H H1 : Hp} {q : Addr} {b : Bk} (e : Ex H H1) (h : PieceAt H q b) : PieceAt H1 q b := by
  obtain ⟨t, h1, h2⟩ := h
  exact ⟨t, e _ _ h1, e _ _ h2⟩
theorem RowAt.ex {H H1 : Hp} {q : Addr} {b : Bk} (e : Ex H H1) (h : RowAt H q b) : RowAt H1 q b := by
  obtain ⟨t, h1, h2⟩ := h
  exact ⟨t, e _ _ h1, e _ _ h2⟩
def spCI1 : Sp := fun vs H Q _ => ∃ (a : Addr) (ys : List Nat), vs = [.ref a] ∧ ListN H a ys ∧ ys.length ≤ 64 ∧ (∀ i, i < ys.length → ys.getD i 0 < ys.length) ∧ ∀ H', Ex H H' → Q .non H'
def spLR : Sp := fun vs H Q _ => ∃ (a : Addr) (ys : List Nat), vs = [.ref a] ∧ ListN H a ys ∧ ys.length ≤ 64 ∧ (∀ i, i < ys.length → ys.getD i 0 < ys.length) ∧ ∀ p H', H p = none → Ex H H' → ListN H' p (lab ys ys.length) → Q (.ref p) H'
def spGr : Sp := fun vs H Q _ => ∃ (a : Addr) (ys : List Nat) (bs : List Bk), vs = [.ref a] ∧ ListN H a ys ∧ ys.length ≤ 64 ∧ Built ys bs ∧ ∀ (p : Addr) (gs : List (Nat × Addr)) H', H p = none → Ex H H' → H' p = some (.lst (gs.map fun x => V.ref x.2)) → gs.map (·.1) = roots bs ys.length →
  (∀ x ∈ gs, H x.2 = none ∧ x.2 ≠ p ∧ ListN H' x.2 (grp bs ys.length x.1)) → Q (.ref p) H'
def spRow : Sp := fun vs H Q _ => ∃ (a g : Addr) (ys : List Nat) (bs : List Bk) (b : Bk), vs = [.ref a, .ref g] ∧ ListN H a ys ∧ ys.length ≤ 64 ∧ Built ys bs ∧ b ∈ bs ∧ Canon b ∧ ListN H g (grp bs ys.length (mn b.2)) ∧ ∀ p H', H p = none → Ex H H' → ListN H' p b.2 → Q (.ref p) H'
def spPO : Sp := fun vs H Q _ => ∃ (a g : Addr) (ys : List Nat) (bs : List Bk) (b : Bk), vs = [.ref a, .ref g] ∧ ListN H a ys ∧ ys.length ≤ 64 ∧ Built ys bs ∧ b ∈ bs ∧ Canon b ∧ ListN H g (grp bs ys.length (mn b.2)) ∧ ∀ p H', H p = none → Ex H H' → PieceAt H' p b → Q (.ref p) H'
def spPi : Sp := fun vs H Q _ => ∃ (a : Addr) (ys : List Nat) (bs : List Bk), vs = [.ref a] ∧ ListN H a ys ∧ Good ys bs ∧ ∀ p H', H p = none → Ex H H' → All2 PieceAt H' p bs → Q (.ref p) H'
def spTorn : Sp := fun vs H Q _ => ∃ (a : Addr) (ys : List Nat) (bs : List Bk), vs = [.ref a] ∧ ListN H a ys ∧ Good ys bs ∧ ∀ p H', H p = none → Ex H H' → All2 PieceAt H' p (bs.filter fun b => decide (1 < b.1)) → Q (.ref p) H'
def spRep : Sp := fun vs H Q _ => ∃ (a : Addr) (ys : List Nat) (bs : List Bk), vs = [.ref a] ∧ ListN H a ys ∧ Good ys bs ∧ ∀ H', Ex H H' → Q (.bl true) H'
theorem Built.nb {ys : List Nat} {bs : List Bk} (B : Built ys bs) : ∀ i, i < ys.length → ys.getD i 0 < ys.length := fun i hi => (B.edge hi).1
end Pv

namespace Pv
open PySem L2 Evl Pm
def kvG (gs : List (Nat × Addr)) : List (Key × V) := gs.map fun x => (Sum.inl (x.1 : Int), V.ref x.2)
theorem kvG_some {gs : List (Nat × Addr)} {m : Nat} {v : V} : valV (kvG gs) (Sum.inl (m : Int) : Key) = some v → ∃ a, (m, a) ∈ gs ∧ v = V.ref a := by
  induction gs with
  | nil => intro h; cases h
  | cons x gs ih =>
    intro h
    unfold valV kvG at h ih
    rw [List.map_cons] at h
    by_cases c : x.1 = m
    · rw [List.find?_cons_of_pos (by simp [c])] at h
      refine ⟨x.2, ?_, (Option.some.inj h).symm⟩
      rw [← c]
      exact List.mem_cons_self ..
    · rw [List.find?_cons_of_neg (by simp; omega)] at h
      obtain ⟨a, h1, h2⟩ := ih h
      exact ⟨a, List.mem_cons_of_mem _ h1, h2⟩
theorem kvG_none {gs : List (Nat × Addr)} {m : Nat} (h : valV (kvG gs) (Sum.inl (m : Int) : Key) = none) : ∀ x ∈ gs, x.1 ≠ m := fun x hx c => by
  unfold valV kvG at h
  rw [Option.map_eq_none_iff, List.find?_eq_none] at h
  exact h (Sum.inl (x.1 : Int), V.ref x.2) (List.mem_map.mpr ⟨x, hx, rfl⟩) (by simp [c])
theorem kvG_put {gs : List (Nat × Addr)} {m : Nat} {z : Addr} (h : ∀ x ∈ gs, x.1 ≠ m) : putK (kvG gs) (Sum.inl (m : Int) : Key) (V.ref z) = kvG (gs ++ [(m, z)]) := by
  unfold putK
  rw [if_neg]
  · unfold kvG
    rw [List.map_append]
    rfl
  · intro c
    rw [List.any_eq_true] at c
    obtain ⟨kv, h1, h2⟩ := c
    unfold kvG at h1
    obtain ⟨x, h3, rfl⟩ := List.mem_map.mp h1
    have := of_decide_eq_true h2
    injection this with this
    exact h x h3 (by omega)
structure Gst (bs : List Bk) (i : Nat) (H0 H : Hp) (d : Addr) (gs : List (Nat × Addr)) : Prop where
  kv : H d = some (.dK (kvG gs))
  keys : gs.map (·.1) = (List.range i).filter fun x => decide (beta bs x = x)
  nd : (gs.map (·.2)).Nodup
  at_ : ∀ x ∈ gs, H0 x.2 = none ∧ x.2 ≠ d ∧ ListN H x.2 ((List.range i).filter fun y => decide (beta bs y = x.1))
  mt : Mut d H0 H
section
variable {bs : List Bk} {i : Nat} {H0 H : Hp} {d : Addr} {gs : List (Nat × Addr)}
theorem Gst.tup (G : Gst bs i H0 H d gs) {t : Addr} {o : HO} (h : H t = none) : Gst bs i H0 (upd H t o) d gs := by
  refine ⟨?_, G.keys, G.nd, fun x hx => ?_, G.mt.new h⟩
  · rw [upd_ne (ne_of_none G.kv h)]
    exact G.kv
  · obtain ⟨h1, h2, h3⟩ := G.at_ x hx
    refine ⟨h1, h2, ?_⟩
    show upd H t o x.2 = _
    rw [upd_ne (ne_of_none h3 h)]
    exact h3
theorem Gst.lt (G : Gst bs i H0 H d gs) {x : Nat × Addr} (hx : x ∈ gs) : x.1 < i := by
  have : x.1 ∈ gs.map (·.1) := List.mem_map.mpr ⟨x, hx, rfl⟩
  rw [G.keys] at this
  exact List.mem_range.mp (List.mem_filter.mp this).1
theorem Gst.old (G : Gst bs i H0 H d gs) {a : Addr} (h : (beta bs i, a) ∈ gs) : Gst bs (i + 1) H0 (upd H a (.lst (nI ((List.range i).filter fun y => decide (beta bs y = beta bs i)) ++ [V.int (i : Int)]))) d gs := by
  have hlt := G.lt h
  obtain ⟨h1, h2, h3⟩ := G.at_ _ h
  have key : ∀ m, (List.range (i + 1)).filter (fun y => decide (beta bs y = m)) = (List.range i).filter (fun y => decide (beta bs y = m)) ++ (if beta bs i = m then [i] else []) := fun m => by
    rw [List.range_succ, List.filter_append]
    congr 1
    by_cases c : beta bs i = m <;> simp [c]
  refine ⟨?_, ?_, G.nd, fun x hx => ?_, fun b o hb hv => ?_⟩
  · rw [upd_ne h2.symm]
    exact G.kv
  · rw [List.range_succ, List.filter_append, G.keys]
    have : (decide (beta bs i = i)) = false := decide_eq_false (by have : beta bs i < i := hlt; omega)
    simp [this]
  · obtain ⟨g1, g2, g3⟩ := G.at_ x hx
    refine ⟨g1, g2, ?_⟩
    show upd H a _ x.2 = _
    rw [key]
    by_cases c : x.2 = a
    · have e : x.1 = beta bs i := by
        obtain ⟨p, hp⟩ := List.mem_iff_getElem?.mp hx
        obtain ⟨q, hq⟩ := List.mem_iff_getElem?.mp h
        have e1 : (gs.map (·.2))[p]? = some a := by rw [List.getElem?_map, hp]; simp [c]
        have e2 : (gs.map (·.2))[q]? = some a := by rw [List.getElem?_map, hq]; rfl
        have := nd_ix G.nd e1 e2
        subst this
        rw [hp] at hq
        injection hq with hq
        rw [hq]
      rw [c, upd_same, e, if_pos rfl]
      unfold nI
      rw [List.map_append]
      rfl
    · have e : beta bs i ≠ x.1 := fun z => c (by
        obtain ⟨p, hp⟩ := List.mem_iff_getElem?.mp hx
        obtain ⟨q, hq⟩ := List.mem_iff_getElem?.mp h
        have e1 : (gs.map (·.1))[p]? = some x.1 := by rw [List.getElem?_map, hp]; rfl
        have e2 : (gs.map (·.1))[q]? = some x.1 := by rw [List.getElem?_map, hq]; simp [z]
        have nd : (gs.map (·.1)).Nodup := by rw [G.keys]; exact nodup_filter _ List.nodup_range
        have e3 := (List.getElem?_eq_some_iff.mp e1)
        have e4 := (List.getElem?_eq_some_iff.mp e2)
        obtain ⟨l1, e3⟩ := e3
        obtain ⟨l2, e4⟩ := e4
        have := (List.getElem_inj (h₀ := l1) (h₁ := l2) nd).mp (e3.trans e4.symm)
        subst this
        rw [hp] at hq
        injection hq with hq
        rw [hq])
      rw [upd_ne c, if_neg e, List.append_nil]
      exact g3
  · have : b ≠ a := fun z => by
      rw [z, h1] at hv
      cases hv
    rw [upd_ne this]
    exact G.mt b o hb hv
theorem Gst.fresh (G : Gst bs i H0 H d gs) (hle : ∀ x, x ≤ i → beta bs x ≤ x) (hroot : beta bs (beta bs i) = beta bs i) {z : Addr} (h : ∀ x ∈ gs, x.1 ≠ beta bs i) (hz : H z = none) :
    beta bs i = i ∧ Gst bs (i + 1) H0 (upd (upd (upd H z (.lst [])) d (.dK (kvG (gs ++ [(i, z)])))) z (.lst ([] ++ [V.int (i : Int)]))) d (gs ++ [(i, z)]) := by
  have hi : beta bs i = i := by
    have h1 := hle i (Nat.le_refl _)
    by_cases c : beta bs i = i
    · exact c
    · exfalso
      have : beta bs i ∈ gs.map (·.1) := by
        rw [G.keys, List.mem_filter, List.mem_range]
        exact ⟨by omega, by simpa using hroot⟩
      obtain ⟨x, hx, e⟩ := List.mem_map.mp this
      exact h x hx e
  have hdz : z ≠ d := fun e => by
    rw [e, G.kv] at hz
    cases hz
  have key : ∀ m, (List.range (i + 1)).filter (fun y => decide (beta bs y = m)) = (List.range i).filter (fun y => decide (beta bs y = m)) ++ (if beta bs i = m then [i] else []) := fun m => by
    rw [List.range_succ, List.filter_append]
    congr 1
    by_cases c : beta bs i = m <;> simp [c]
  have ne : ∀ x ∈ gs, x.2 ≠ z := fun x hx e => by
    have := (G.at_ x hx).2.2
    rw [e] at this
    rw [show H z = _ from this] at hz
    cases hz
  refine ⟨hi, ?_, ?_, ?_, fun x hx => ?_, fun b o hb hv => ?_⟩
  · rw [upd_ne hdz.symm, upd_same]
  · rw [List.map_append, G.keys, List.range_succ, List.filter_append]
    simp [hi]
  · rw [List.map_append, List.nodup_append]
    refine ⟨G.nd, by simp, fun a ha b hb => ?_⟩
    obtain ⟨x, hx, rfl⟩ := List.mem_map.mp ha
    simp at hb
    rw [hb]
    exact ne x hx
  · rcases List.mem_append.mp hx with hx | hx
    · obtain ⟨g1, g2, g3⟩ := G.at_ x hx
      refine ⟨g1, g2, ?_⟩
      show upd _ z _ x.2 = _
      rw [upd_ne (ne x hx), upd_ne g2, upd_ne (ne x hx), key, if_neg (by rw [hi]; have := G.lt hx; omega), List.append_nil]
      exact g3
    · simp at hx
      subst hx
      refine ⟨G.mt.free hdz hz, hdz, ?_⟩
      show upd _ z _ z = _
      rw [upd_same, key, if_pos hi]
      have : (List.range i).filter (fun y => decide (beta bs y = i)) = [] := by
        rw [List.filter_eq_nil_iff]
        intro y hy
        have h1 := List.mem_range.mp hy
        have h2 := hle y (by omega)
        simp
        omega
      rw [this]
      rfl
  · have e := G.mt b o hb hv
    have n : b ≠ z := fun q => by
      rw [q, hz] at e
      cases e
    rw [upd_ne n, upd_ne hb, upd_ne n]
    exact e
end
end Pv

namespace Pv
open PySem L2 Evl Pm
theorem nI_app {xs : List Nat} {v : Nat} : nI (xs ++ [v]) = nI xs ++ [V.int (v : Int)] := by
  unfold nI
  rw [List.map_append]
  rfl
theorem acc_step {G H' : Hp} {D : Addr} {ls : List Nat} {v : Nat} (hD : G D = none) (e : Ex G H') : Ex G (upd H' D (.lst (nI ls ++ [V.int (v : Int)]))) ∧ ListN (upd H' D (.lst (nI ls ++ [V.int (v : Int)]))) D (ls ++ [v]) := by
  refine ⟨fun b o hb => ?_, ?_⟩
  · rw [upd_ne (ne_of_none hb hD)]
    exact e b o hb
  · show upd H' D _ D = _
    rw [upd_same, nI_app]
theorem take_map_succ {xs : List Nat} {j : Nat} (h : j < xs.length) (f : Nat → Nat) : (xs.take (j + 1)).map f = (xs.take j).map f ++ [f (xs.getD j 0)] := by
  rw [List.take_add_one, List.getElem?_eq_getElem h, List.map_append, List.getD_eq_getElem?_getD, List.getElem?_eq_getElem h]
  rfl
theorem take_succ {xs : List Nat} {j : Nat} (h : j < xs.length) : xs.take (j + 1) = xs.take j ++ [xs.getD j 0] := by
  rw [List.take_add_one, List.getElem?_eq_getElem h, List.getD_eq_getElem?_getD, List.getElem?_eq_getElem h]
  rfl
theorem take_filter_pos {xs : List Nat} {j : Nat} (h : j < xs.length) {q : Nat → Bool} (c : q (xs.getD j 0) = true) : (xs.take (j + 1)).filter q = (xs.take j).filter q ++ [xs.getD j 0] := by
  rw [take_succ h, List.filter_append, List.filter_cons, if_pos c]
  rfl
theorem take_filter_neg {xs : List Nat} {j : Nat} (h : j < xs.length) {q : Nat → Bool} (c : q (xs.getD j 0) = false) : (xs.take (j + 1)).filter q = (xs.take j).filter q := by
  rw [take_succ h, List.filter_append, List.filter_cons, if_neg (by rw [c]; decide)]
  exact List.append_nil _
theorem flat_nI : ∀ xs : List Nat, (nI xs).all flatV = true
  | [] => rfl
  | _ :: xs => flat_nI xs
theorem inV_nI {x : Nat} : ∀ xs : List Nat, inV (V.int (x : Int)) (nI xs) = xs.contains x
  | [] => rfl
  | y :: xs => by
    show (eqV (V.int (y : Int)) (V.int (x : Int)) || inV (V.int (x : Int)) (nI xs)) = _
    rw [inV_nI xs, List.contains_cons]
    congr 1
    show ((y : Int) == (x : Int)) = (x == y)
    rw [Bool.eq_iff_iff, beq_iff_eq, beq_iff_eq]
    omega
theorem eqV_nat {x y : Nat} : eqV (V.int (x : Int)) (V.int (y : Int)) = true ↔ x = y := by
  show ((x : Int) == (y : Int)) = true ↔ _
  rw [beq_iff_eq]
  omega
/-- [0 ..] of a walk -/
theorem path_len {ys : List Nat} {bs : List Bk} (B : Built ys bs) {b : Bk} (hb : b ∈ bs) : b.2.length ≤ 4 := by
  rw [(B.blk b hb).len]
  unfold form
  split <;> decide
theorem path_le {b : Bk} : (path b).length ≤ b.2.length := by
  unfold path
  split
  · rw [List.length_take]; omega
  · exact Nat.le_refl _
theorem path_mem {b : Bk} {x : Nat} (h : x ∈ path b) : x ∈ b.2 := by
  unfold path at h
  split at h
  · exact List.mem_of_mem_take h
  · exact h
theorem path_zero {b : Bk} : (path b).getD 0 0 = b.2.getD 0 0 := by
  unfold path
  split
  · cases b.2 <;> rfl
  · rfl
theorem getD_take_mem {p : List Nat} {j : Nat} : ∀ {x : Nat}, x ∈ p.take j → ∃ k, k < j ∧ k < p.length ∧ p.getD k 0 = x := fun {x} h => by
  obtain ⟨k, hk, e⟩ := List.getElem_of_mem h
  rw [List.length_take] at hk
  rw [List.getElem_take] at e
  refine ⟨k, by omega, by omega, ?_⟩
  rw [List.getD_eq_getElem?_getD, List.getElem?_eq_getElem (by omega)]
  exact e
theorem Walks.notin {g : Nat → Nat} {p : List Nat} (w : Walks g p) {j : Nat} (h : j < p.length) : (p.take j).contains (p.getD j 0) = false := by
  cases c : (p.take j).contains (p.getD j 0) with
  | false => rfl
  | true =>
    rw [List.contains_iff_mem] at c
    obtain ⟨k, h1, h2, e⟩ := getD_take_mem c
    rw [List.getD_eq_getElem?_getD, List.getD_eq_getElem?_getD, List.getElem?_eq_getElem h2, List.getElem?_eq_getElem h] at e
    have := (List.getElem_inj (h₀ := h2) (h₁ := h) w.nd).mp e
    omega
end Pv

namespace Pv
open PySem L2 Evl Pm
theorem PieceAt.updL {H : Hp} {q f : Addr} {b : Bk} {xs : List V} {o : HO} (h : PieceAt H q b) (hf : H f = some (.lst xs)) : PieceAt (upd H f o) q b := by
  obtain ⟨t, h1, h2⟩ := h
  refine ⟨t, ?_, ?_⟩
  · rw [upd_ne (fun z => by rw [z, hf] at h1; cases h1)]
    exact h1
  · rw [upd_ne (fun z => by rw [z, hf] at h2; cases h2)]
    exact h2
/-- the first pieces, in a list -/
def Some2 (F : Hp → Addr → Bk → Prop) (H : Hp) (p : Addr) (bs : List Bk) (i : Nat) : Prop := ∃ qs : List Addr, H p = some (.lst (qs.map V.ref)) ∧ qs.length = i ∧ ∀ (j : Nat) (q : Addr) (b : Bk), qs[j]? = some q → bs[j]? = some b → F H q b
theorem Some2.nil {F : Hp → Addr → Bk → Prop} {H : Hp} {p : Addr} {bs : List Bk} (h : H p = some (.lst [])) : Some2 F H p bs 0 := ⟨[], h, rfl, fun j q b h => by simp at h⟩
theorem Some2.more {H : Hp} {p q : Addr} {bs : List Bk} {i : Nat} {b : Bk} (h : Some2 PieceAt H p bs i) (hq : PieceAt H q b) (hb : bs[i]? = some b) : ∃ qs : List Addr, H p = some (.lst (qs.map V.ref)) ∧ qs.length = i ∧ Some2 PieceAt (upd H p (.lst (qs.map V.ref ++ [V.ref q]))) p bs (i + 1) := by
  obtain ⟨qs, h1, h2, h3⟩ := h
  refine ⟨qs, h1, h2, qs ++ [q], by rw [upd_same, List.map_append]; rfl, by rw [List.length_append, h2]; rfl, fun j r c hr hc => ?_⟩
  rcases Nat.lt_or_ge j qs.length with hj | hj
  · rw [List.getElem?_append_left hj] at hr
    exact (h3 j r c hr hc).updL h1
  · rw [List.getElem?_append_right hj] at hr
    have : j - qs.length = 0 := by
      by_cases z : j - qs.length = 0
      · exact z
      · rw [List.getElem?_eq_none (by simp; omega)] at hr
        cases hr
    rw [this] at hr
    injection hr with hr
    subst hr
    have : j = i := by omega
    subst this
    rw [hb] at hc
    injection hc with hc
    subst hc
    exact hq.updL h1
theorem Some2.ex {H H1 : Hp} {p : Addr} {bs : List Bk} {i : Nat} (e : Ex H H1) (h : Some2 PieceAt H p bs i) : Some2 PieceAt H1 p bs i := by
  obtain ⟨qs, h1, h2, h3⟩ := h
  exact ⟨qs, e _ _ h1, h2, fun j q b a c => (h3 j q b a c).ex e⟩
theorem Some2.all {H : Hp} {p : Addr} {bs : List Bk} (h : Some2 PieceAt H p bs bs.length) : All2 PieceAt H p bs := by
  obtain ⟨qs, h1, h2, h3⟩ := h
  exact ⟨qs, h1, h2, h3⟩
theorem Good.gs {ys : List Nat} {bs : List Bk} (G : Good ys bs) {gs : List (Nat × Addr)} (h : gs.map (·.1) = roots bs ys.length) : gs.length = bs.length ∧ ∀ (i : Nat) (x : Nat × Addr) (b : Bk), gs[i]? = some x → bs[i]? = some b → x.1 = mn b.2 := by
  rw [G.built.roots_eq G.srt] at h
  have e := congrArg List.length h
  rw [List.length_map, List.length_map] at e
  refine ⟨e, fun i x b hx hb => ?_⟩
  have e1 : (gs.map (·.1))[i]? = some x.1 := by rw [List.getElem?_map, hx]; rfl
  rw [h, List.getElem?_map, hb] at e1
  injection e1 with e1
  exact e1.symm
theorem Good.few {ys : List Nat} {bs : List Bk} (G : Good ys bs) : bs.length ≤ 64 := by
  have h := G.built.perm.length_eq
  rw [List.length_range, List.length_flatMap] at h
  have : ∀ (l : List Bk), (∀ b ∈ l, b.2 ≠ []) → l.length ≤ (l.map fun b => b.2.length).sum := fun l => by
    induction l with
    | nil => intro _; exact Nat.le_refl _
    | cons b l ih =>
      intro hl
      have h1 := ih fun c hc => hl c (List.mem_cons_of_mem _ hc)
      have h2 := List.length_pos_iff.mpr (hl b (List.mem_cons_self ..))
      simp only [List.length_cons, List.map_cons, List.sum_cons]
      omega
  have h2 := this bs fun b hb => G.built.ne hb
  have := G.len
  omega
end Pv

namespace Pv
open PySem L2 Evl Pm
def cnt (bs : List Bk) (w : Nat) : Nat := (bs.filter fun b => decide (b.1 = w)).length
def cenK (f : Nat → Nat) (j : Nat) : List (Key × V) := (List.range j).map fun w => (Sum.inr (word w), V.int (f w : Nat))
def spCen : Sp := fun vs H Q _ => ∃ (a : Addr) (ys : List Nat) (bs : List Bk), vs = [.ref a] ∧ ListN H a ys ∧ Good ys bs ∧ ∀ p H', H p = none → Ex H H' → H' p = some (.dK (cenK (cnt bs) 8)) → Q (.ref p) H'
theorem word_inj {a b : Nat} (ha : a < 8) (hb : b < 8) (h : word a = word b) : a = b := by
  have d : ∀ a b : Fin 8, word a.val = word b.val → a = b := by decide +kernel
  exact congrArg Fin.val (d ⟨a, ha⟩ ⟨b, hb⟩ h)
theorem key_inj {a b : Nat} (ha : a < 8) (hb : b < 8) : decide ((Sum.inr (word a) : Key) = Sum.inr (word b)) = decide (a = b) := by
  by_cases c : a = b
  · simp [c]
  · rw [decide_eq_false c, decide_eq_false]
    intro z
    injection z with z
    exact c (word_inj ha hb z)
theorem cen_new {f : Nat → Nat} {i : Nat} (h : i < 8) : putK (cenK f i) (Sum.inr (word i) : Key) (V.int (f i : Nat)) = cenK f (i + 1) := by
  unfold putK
  rw [if_neg]
  · unfold cenK
    rw [List.range_succ, List.map_append]
    rfl
  · intro c
    rw [List.any_eq_true] at c
    obtain ⟨kv, h1, h2⟩ := c
    unfold cenK at h1
    obtain ⟨x, h3, rfl⟩ := List.mem_map.mp h1
    have hx := List.mem_range.mp h3
    rw [key_inj (by omega) h] at h2
    have := of_decide_eq_true h2
    omega
theorem cen_val {f : Nat → Nat} {w : Nat} (h : w < 8) : valV (cenK f 8) (Sum.inr (word w) : Key) = some (V.int (f w : Nat)) := by
  unfold valV cenK
  rw [List.find?_map, show (List.range 8).find? ((fun kv : Key × V => decide (kv.1 = Sum.inr (word w))) ∘ fun w => (Sum.inr (word w), V.int (f w : Nat))) = some w from ?_]
  · rfl
  · rw [List.find?_range_eq_some]
    refine ⟨by simp, List.mem_range.mpr h, fun j hj => ?_⟩
    show (!decide ((Sum.inr (word j) : Key) = Sum.inr (word w))) = true
    rw [key_inj (by omega) h, decide_eq_false (by omega)]
    rfl
theorem cen_put {f g : Nat → Nat} {w v : Nat} (h : w < 8) (hg : ∀ x, x < 8 → g x = if x = w then v else f x) : putK (cenK f 8) (Sum.inr (word w) : Key) (V.int (v : Nat)) = cenK g 8 := by
  unfold putK
  rw [if_pos]
  · unfold cenK
    rw [List.map_map]
    refine List.map_congr_left fun x hx => ?_
    have hx8 := List.mem_range.mp hx
    show (if (Sum.inr (word x) : Key) = Sum.inr (word w) then _ else _) = _
    by_cases c : x = w
    · subst c
      rw [if_pos rfl, hg x hx8, if_pos rfl]
    · rw [if_neg (fun z => by injection z with z; exact c (word_inj hx8 h z)), hg x hx8, if_neg c]
  · rw [List.any_eq_true]
    exact ⟨(Sum.inr (word w), V.int (f w : Nat)), List.mem_map.mpr ⟨w, List.mem_range.mpr h, rfl⟩, by simp⟩
theorem words_at {i : Nat} {x : V} (h : wordsV[i]? = some x) : i < 8 ∧ x = V.str (word i) := by
  have hi : i < 8 := (List.getElem?_eq_some_iff.mp h).1
  refine ⟨hi, ?_⟩
  rcases i with _ | _ | _ | _ | _ | _ | _ | _ | i
  all_goals first | exact (Option.some.inj h).symm | omega
theorem words_ix {i : Nat} (h : i < 8) : wordsV[i]? = some (V.str (word i)) := by
  rcases i with _ | _ | _ | _ | _ | _ | _ | _ | i
  all_goals first | rfl | omega
theorem cnt_more {bs : List Bk} {i : Nat} {b : Bk} (h : bs[i]? = some b) (x : Nat) : cnt (bs.take (i + 1)) x = if x = b.1 then cnt (bs.take i) b.1 + 1 else cnt (bs.take i) x := by
  unfold cnt
  rw [List.take_add_one, h]
  show ((bs.take i ++ [b]).filter _).length = _
  rw [List.filter_append, List.length_append, List.filter_cons]
  by_cases c : x = b.1
  · subst c
    simp
  · rw [if_neg c, if_neg (by simp; exact fun z => c z.symm)]
    rfl
theorem cnt_le {bs : List Bk} {x : Nat} : cnt bs x ≤ bs.length := List.length_filter_le ..
end Pv

namespace Pv
open PySem L2 Evl Pm
def canon (w : Nat) (ms : List Nat) : List Nat :=
  if w = 1 ∧ ms.getD 1 0 < ms.getD 0 0 then [ms.getD 1 0, ms.getD 0 0]
  else if w = 5 ∧ ms.getD 3 0 < ms.getD 0 0 then [ms.getD 3 0, ms.getD 2 0, ms.getD 1 0, ms.getD 0 0]
  else if w = 7 then ms.drop (ms.idxOf (mn ms)) ++ ms.take (ms.idxOf (mn ms)) else ms
theorem four {l : List Nat} (h : l.length = 4) : ∃ a b c d, l = [a, b, c, d] := by
  match l, h with
  | [a, b, c, d], _ => exact ⟨a, b, c, d, rfl⟩
theorem two {l : List Nat} (h : l.length = 2) : ∃ a b, l = [a, b] := by
  match l, h with
  | [a, b], _ => exact ⟨a, b, rfl⟩
theorem canon_perm {w : Nat} {ms : List Nat} (h : ms.length = (form w).length) : (canon w ms).Perm ms := by
  unfold canon
  split
  · rename_i c
    obtain ⟨rfl, c⟩ := c
    obtain ⟨a, b, rfl⟩ := two h
    exact List.Perm.swap ..
  · split
    · rename_i c
      obtain ⟨rfl, c⟩ := c
      obtain ⟨x, y, z, t, rfl⟩ := four h
      exact (List.reverse_perm [x, y, z, t])
    · split
      · have e := List.take_append_drop (ms.idxOf (mn ms)) ms
        conv => rhs; rw [← e]
        exact List.perm_append_comm
      · exact List.Perm.refl _
theorem mn_perm {l m : List Nat} (h : l.Perm m) : mn l = mn m := by
  by_cases c : l = []
  · subst c
    rw [List.nil_perm.mp h]
  · have c2 : m ≠ [] := fun z => c (by subst z; exact List.perm_nil.mp h)
    have h1 := mn_le (h.mem_iff.mp (mn_mem c))
    have h2 := mn_le (h.mem_iff.mpr (mn_mem c2))
    omega
theorem canon_ok {w : Nat} {ms : List Nat} (h : ms.length = (form w).length) (nd : ms.Nodup) : Canon (w, canon w ms) := by
  refine ⟨fun e => ?_, fun e => ?_, fun e => ?_⟩
  · simp only at e
    subst e
    obtain ⟨a, b, rfl⟩ := two h
    simp at nd
    show (canon 1 [a, b]).getD 0 0 < (canon 1 [a, b]).getD 1 0
    unfold canon
    simp
    split <;> simp <;> omega
  · simp only at e
    subst e
    obtain ⟨a, b, c, d, rfl⟩ := four h
    simp at nd
    show (canon 5 [a, b, c, d]).getD 0 0 < (canon 5 [a, b, c, d]).getD 3 0
    unfold canon
    simp
    split <;> simp <;> omega
  · simp only at e
    subst e
    show (canon 7 ms).getD 0 0 = mn (canon 7 ms)
    rw [mn_perm (canon_perm h)]
    unfold canon
    simp only [show ¬ ((7 : Nat) = 1) by decide, show ¬ ((7 : Nat) = 5) by decide, false_and, if_false, if_true]
    have hm : mn ms ∈ ms := mn_mem (fun z => by subst z; cases h)
    have hi := List.idxOf_lt_length_of_mem hm
    rw [List.getD_eq_getElem?_getD, List.getElem?_append_left (by rw [List.length_drop]; omega), List.getElem?_drop, Nat.add_zero, List.getElem?_eq_getElem hi]
    exact List.getElem_idxOf hi
theorem blk_iff1 {ys : List Nat} {a b : Nat} : Blk ys (1, [a, b]) ↔ ys.getD a 0 = b ∧ ys.getD b 0 = a := by
  refine ⟨fun q => ⟨q.sh 0 (by simp), q.sh 1 (by simp)⟩, fun ⟨h1, h2⟩ => ⟨show 1 < 8 by decide, rfl, fun k hk => ?_⟩⟩
  rcases k with _ | _ | k
  · exact h1
  · exact h2
  · simp at hk
    omega
theorem blk_iff5 {ys : List Nat} {a b c d : Nat} : Blk ys (5, [a, b, c, d]) ↔ ys.getD a 0 = b ∧ ys.getD b 0 = c ∧ ys.getD c 0 = b ∧ ys.getD d 0 = c := by
  refine ⟨fun q => ⟨q.sh 0 (by simp), q.sh 1 (by simp), q.sh 2 (by simp), q.sh 3 (by simp)⟩, fun ⟨h1, h2, h3, h4⟩ => ⟨show _ < 8 by first | exact (by decide : 5 < 8) | exact (by decide : 7 < 8), rfl, fun k hk => ?_⟩⟩
  rcases k with _ | _ | _ | _ | k
  · exact h1
  · exact h2
  · exact h3
  · exact h4
  · simp at hk
    omega
theorem blk_iff7 {ys : List Nat} {a b c d : Nat} : Blk ys (7, [a, b, c, d]) ↔ ys.getD a 0 = b ∧ ys.getD b 0 = c ∧ ys.getD c 0 = d ∧ ys.getD d 0 = a := by
  refine ⟨fun q => ⟨q.sh 0 (by simp), q.sh 1 (by simp), q.sh 2 (by simp), q.sh 3 (by simp)⟩, fun ⟨h1, h2, h3, h4⟩ => ⟨show _ < 8 by first | exact (by decide : 5 < 8) | exact (by decide : 7 < 8), rfl, fun k hk => ?_⟩⟩
  rcases k with _ | _ | _ | _ | k
  · exact h1
  · exact h2
  · exact h3
  · exact h4
  · simp at hk
    omega
theorem canon_blk {ys : List Nat} {w : Nat} {ms : List Nat} (q : Blk ys (w, ms)) : Blk ys (w, canon w ms) := by
  have h : ms.length = (form w).length := q.len
  unfold canon
  split
  · rename_i c
    obtain ⟨rfl, c⟩ := c
    obtain ⟨a, b, rfl⟩ := two h
    obtain ⟨h1, h2⟩ := blk_iff1.mp q
    exact blk_iff1.mpr ⟨h2, h1⟩
  · split
    · rename_i c
      obtain ⟨rfl, c⟩ := c
      obtain ⟨a, b, c, d, rfl⟩ := four h
      obtain ⟨h1, h2, h3, h4⟩ := blk_iff5.mp q
      exact blk_iff5.mpr ⟨h4, h3, h2, h1⟩
    · split
      · rename_i c
        subst c
        obtain ⟨a, b, c, d, rfl⟩ := four h
        obtain ⟨h1, h2, h3, h4⟩ := blk_iff7.mp q
        have hi := List.idxOf_lt_length_of_mem (mn_mem (l := [a, b, c, d]) (by simp))
        simp only [List.length_cons, List.length_nil] at hi
        generalize [a, b, c, d].idxOf (mn [a, b, c, d]) = i at *
        rcases i with _ | _ | _ | _ | i
        · exact blk_iff7.mpr ⟨h1, h2, h3, h4⟩
        · exact blk_iff7.mpr ⟨h2, h3, h4, h1⟩
        · exact blk_iff7.mpr ⟨h3, h4, h1, h2⟩
        · exact blk_iff7.mpr ⟨h4, h1, h2, h3⟩
        · omega
      · exact q
end Pv

namespace Pv
open PySem L2 Evl Pm
def fl (w : Nat) : Nat := (form w).length
def tot (ws : List Nat) : Nat := (ws.map fl).sum
def cuts : List Nat → List Nat → List Bk
  | [], _ => []
  | w :: ws, ms => (w, ms.take (fl w)) :: cuts ws (ms.drop (fl w))
theorem tot_app {a b : List Nat} : tot (a ++ b) = tot a + tot b := by
  unfold tot
  rw [List.map_append, List.sum_append]
theorem fl_le {w : Nat} : fl w ≤ 4 := by
  unfold fl form
  split <;> decide
theorem cuts_len : ∀ {ws ms : List Nat}, (cuts ws ms).length = ws.length
  | [], _ => rfl
  | w :: ws, ms => congrArg (· + 1) (cuts_len (ws := ws) (ms := ms.drop (fl w)))
theorem cuts_at : ∀ {ws ms : List Nat} {i : Nat} {w : Nat}, ws[i]? = some w → (cuts ws ms)[i]? = some (w, (ms.drop (tot (ws.take i))).take (fl w))
  | [], _, i, _, h => by simp at h
  | v :: ws, ms, 0, w, h => by
    cases Option.some.inj h
    rfl
  | v :: ws, ms, i + 1, w, h => by
    have ih := cuts_at (ws := ws) (ms := ms.drop (fl v)) (i := i) (w := w) h
    show (cuts ws (ms.drop (fl v)))[i]? = _
    rw [ih, List.drop_drop]
    rfl
theorem cuts_flat : ∀ {ws ms : List Nat}, (cuts ws ms).flatMap (·.2) = ms.take (tot ws)
  | [], ms => rfl
  | w :: ws, ms => by
    show ms.take (fl w) ++ (cuts ws (ms.drop (fl w))).flatMap (·.2) = ms.take (fl w + tot ws)
    rw [cuts_flat, List.take_add]
theorem tot_take {ws : List Nat} {i w : Nat} (h : ws[i]? = some w) : tot (ws.take (i + 1)) = tot (ws.take i) + fl w := by
  rw [List.take_add_one, h, tot_app]
  rfl
theorem tot_le {ws : List Nat} {i : Nat} : tot (ws.take i) ≤ tot ws := by
  have e := List.take_append_drop i ws
  have := tot_app (a := ws.take i) (b := ws.drop i)
  rw [e] at this
  omega
/-- the entries of one set of records -/
def fill (ys seg f : List Nat) : Nat → List Nat
  | 0 => ys
  | k + 1 => (fill ys seg f k).set (seg.getD k 0) (seg.getD (f.getD k 0) 0)
theorem fill_len {ys seg f : List Nat} : ∀ k, (fill ys seg f k).length = ys.length
  | 0 => rfl
  | k + 1 => by
    unfold fill
    rw [List.length_set, fill_len k]
theorem getD_set_ne {l : List Nat} {i j v : Nat} (h : i ≠ j) : (l.set i v).getD j 0 = l.getD j 0 := by
  rw [List.getD_eq_getElem?_getD, List.getD_eq_getElem?_getD, List.getElem?_set_ne h]
theorem getD_set_eq {l : List Nat} {i v : Nat} (h : i < l.length) : (l.set i v).getD i 0 = v := by
  rw [List.getD_eq_getElem?_getD, List.getElem?_set_self h]
  rfl
theorem fill_out {ys seg f : List Nat} {x : Nat} (hx : x ∉ seg) : ∀ k, k ≤ seg.length → (fill ys seg f k).getD x 0 = ys.getD x 0
  | 0, _ => rfl
  | k + 1, h => by
    unfold fill
    rw [getD_set_ne (fun z => hx (by rw [← z]; exact getD_mem (by omega))), fill_out hx k (by omega)]
theorem nd_getD {l : List Nat} (nd : l.Nodup) {i j : Nat} (hi : i < l.length) (hj : j < l.length) (h : l.getD i 0 = l.getD j 0) : i = j := by
  rw [List.getD_eq_getElem?_getD, List.getD_eq_getElem?_getD, List.getElem?_eq_getElem hi, List.getElem?_eq_getElem hj] at h
  exact (List.getElem_inj (h₀ := hi) (h₁ := hj) nd).mp h
theorem fill_in {ys seg f : List Nat} (nd : seg.Nodup) (lt : ∀ x ∈ seg, x < ys.length) : ∀ k, k ≤ seg.length → ∀ j, j < k → (fill ys seg f k).getD (seg.getD j 0) 0 = seg.getD (f.getD j 0) 0
  | 0, _, j, hj => by omega
  | k + 1, h, j, hj => by
    unfold fill
    by_cases c : j = k
    · subst c
      rw [getD_set_eq (by rw [fill_len]; exact lt _ (getD_mem (by omega)))]
    · rw [getD_set_ne (fun z => c (nd_getD nd (by omega) (by omega) z.symm)), fill_in nd lt k (by omega) j (by omega)]
theorem blk_out {ys seg f : List Nat} {b : Bk} {k : Nat} (q : Blk ys b) (h : ∀ x ∈ b.2, x ∉ seg) (hk : k ≤ seg.length) : Blk (fill ys seg f k) b :=
  ⟨q.w, q.len, fun j hj => by rw [fill_out (h _ (getD_mem hj)) k hk]; exact q.sh j hj⟩
theorem blk_in {ys seg : List Nat} {w : Nat} (hw : w < 8) (nd : seg.Nodup) (lt : ∀ x ∈ seg, x < ys.length) (hl : seg.length = (form w).length) : Blk (fill ys seg (form w) (form w).length) (w, seg) :=
  ⟨hw, hl, fun j hj => fill_in nd lt _ (by omega) j (by have hj : j < seg.length := hj; omega)⟩
def canB (b : Bk) : Bk := (b.1, canon b.1 b.2)
theorem flat_canon : ∀ {bs : List Bk}, (∀ b ∈ bs, b.2.length = (form b.1).length) → ((bs.map canB).flatMap (·.2)).Perm (bs.flatMap (·.2))
  | [], _ => List.Perm.refl _
  | b :: bs, h => by
    show (canon b.1 b.2 ++ (bs.map canB).flatMap (·.2)).Perm (b.2 ++ bs.flatMap (·.2))
    exact List.Perm.append (canon_perm (h b (List.mem_cons_self ..))) (flat_canon fun c hc => h c (List.mem_cons_of_mem _ hc))
theorem flat_perm {bs cs : List Bk} (h : bs.Perm cs) : (bs.flatMap (·.2)).Perm (cs.flatMap (·.2)) := List.Perm.flatMap_right _ h
theorem disj_of : ∀ {bs : List Bk}, (bs.flatMap (·.2)).Nodup → bs.Pairwise fun a b => ∀ x ∈ a.2, ∀ y ∈ b.2, x ≠ y
  | [], _ => .nil
  | b :: bs, h => by
    have h : (b.2 ++ bs.flatMap (·.2)).Nodup := h
    rw [List.nodup_append] at h
    exact .cons (fun c hc x hx y hy => h.2.2 x hx y (List.mem_flatMap.mpr ⟨c, hc, hy⟩)) (disj_of h.2.1)
/-- what the build comes to -/
structure Bt (ys : List Nat) (cs : List Bk) : Prop where
  blk : ∀ b ∈ cs, Blk ys b
  flat : (cs.flatMap (·.2)).Perm (List.range ys.length)
  len : ys.length ≤ 64
theorem Bt.nd {ys : List Nat} {cs : List Bk} (B : Bt ys cs) : (cs.flatMap (·.2)).Nodup := B.flat.nodup_iff.mpr List.nodup_range
theorem Bt.good {ys : List Nat} {cs bs : List Bk} (B : Bt ys cs) (hp : bs.Perm (cs.map canB)) (hs : bs.Pairwise fun a b => mn a.2 ≤ mn b.2) : Good ys bs := by
  have nd := B.nd
  have hb : Built ys bs := by
    refine ⟨fun b hb => ?_, ?_⟩
    · obtain ⟨c, hc, rfl⟩ := List.mem_map.mp (hp.mem_iff.mp hb)
      exact canon_blk (B.blk c hc)
    · exact ((flat_perm hp).trans (flat_canon fun c hc => (B.blk c hc).len)).trans B.flat
  have hnd : (bs.flatMap (·.2)).Nodup := hb.nd
  refine ⟨hb, ?_, fun b h => ?_, B.len⟩
  · have ndp : bs.Pairwise fun a b => mn a.2 ≠ mn b.2 := by
      have pw : bs.Pairwise fun a b => ∀ x ∈ a.2, ∀ y ∈ b.2, x ≠ y := disj_of hnd
      refine List.Pairwise.imp_of_mem (fun {a b} ha hb' d z => ?_) pw
      exact d _ (mn_mem (hb.ne ha)) _ (mn_mem (hb.ne hb')) z
    exact (List.Pairwise.and hs ndp).imp fun {a b} h => Nat.lt_of_le_of_ne h.1 h.2
  · obtain ⟨c, hc, rfl⟩ := List.mem_map.mp (hp.mem_iff.mp h)
    exact canon_ok (B.blk c hc).len (nd_of nd hc)
end Pv

namespace Pv
open PySem L2 Evl Pm
theorem hash0 (w : World) : (numK [0]).hash w = -8753497827991233192 := by kernel_rfl
theorem hash1 (w : World) : (numK [1, 0]).hash w = -5164621852614943976 := by kernel_rfl
theorem hash2 (w : World) : (numK [1, 1]).hash w = 8389048192121911274 := by kernel_rfl
theorem hash3 (w : World) : (numK [1, 2, 1]).hash w = 3313134723150563520 := by kernel_rfl
theorem hash4 (w : World) : (numK [1, 2, 2]).hash w = -1579939305822132846 := by kernel_rfl
theorem hash5 (w : World) : (numK [1, 2, 1, 2]).hash w = 8677768113715720416 := by kernel_rfl
theorem hash6 (w : World) : (numK [1, 2, 3, 2]).hash w = 3374690043038133861 := by kernel_rfl
theorem hash7 (w : World) : (numK [1, 2, 3, 0]).hash w = 1760123315908831802 := by kernel_rfl
theorem forms_mk {P : Program} {w : World} {K : PySem.W.Frag} {c k0 k1 k2 k3 k4 k5 k6 k7 : Addr} {t0 t1 t2 t3 t4 t5 t6 t7 a0_0 a1_0 a1_1 a2_0 a2_1 a3_0 a3_1 a3_2 a4_0 a4_1 a4_2 a5_0 a5_1 a5_2 a5_3 a6_0 a6_1 a6_2 a6_3 a7_0 a7_1 a7_2 a7_3 : Tok} {ep n0 n1 n2 n3 n4 n5 n6 n7 : Nat} {od0 od1 od2 od3 od4 od5 od6 od7 : Option Addr} {sl0 sl1 sl2 sl3 sl4 sl5 sl6 sl7 : Array (Option Value)}
    (sm : (c == sysModules) = false) (l : List.lookup c K = some { cls := .type "dict", data := .dict #[⟨-8753497827991233192, .ref k0, .str "free" t0⟩, ⟨-5164621852614943976, .ref k1, .str "pair" t1⟩, ⟨8389048192121911274, .ref k2, .str "claim" t2⟩, ⟨3313134723150563520, .ref k3, .str "hook" t3⟩, ⟨-1579939305822132846, .ref k4, .str "relay" t4⟩, ⟨8677768113715720416, .ref k5, .str "clamp" t5⟩, ⟨3374690043038133861, .ref k6, .str "trail" t6⟩, ⟨1760123315908831802, .ref k7, .str "wheel" t7⟩] ep })
    (f0 : List.lookup k0 K = some ⟨.type "tuple", od0, .seq #[.int 0 a0_0] n0, sl0⟩)
    (f1 : List.lookup k1 K = some ⟨.type "tuple", od1, .seq #[.int 1 a1_0, .int 0 a1_1] n1, sl1⟩)
    (f2 : List.lookup k2 K = some ⟨.type "tuple", od2, .seq #[.int 1 a2_0, .int 1 a2_1] n2, sl2⟩)
    (f3 : List.lookup k3 K = some ⟨.type "tuple", od3, .seq #[.int 1 a3_0, .int 2 a3_1, .int 1 a3_2] n3, sl3⟩)
    (f4 : List.lookup k4 K = some ⟨.type "tuple", od4, .seq #[.int 1 a4_0, .int 2 a4_1, .int 2 a4_2] n4, sl4⟩)
    (f5 : List.lookup k5 K = some ⟨.type "tuple", od5, .seq #[.int 1 a5_0, .int 2 a5_1, .int 1 a5_2, .int 2 a5_3] n5, sl5⟩)
    (f6 : List.lookup k6 K = some ⟨.type "tuple", od6, .seq #[.int 1 a6_0, .int 2 a6_1, .int 3 a6_2, .int 2 a6_3] n6, sl6⟩)
    (f7 : List.lookup k7 K = some ⟨.type "tuple", od7, .seq #[.int 1 a7_0, .int 2 a7_1, .int 3 a7_2, .int 0 a7_3] n7, sl7⟩)
    : TabK P w K c formsT := by
  refine ⟨sm, [t0, t1, t2, t3, t4, t5, t6, t7], fun h X => ⟨?_, rfl⟩⟩
  refine Heap.DictKeyed.ofEntries (knd := nestedKind P w) (h := h) (d := c) [(numK [0], k0, .str "free" t0), (numK [1, 0], k1, .str "pair" t1), (numK [1, 1], k2, .str "claim" t2), (numK [1, 2, 1], k3, .str "hook" t3), (numK [1, 2, 2], k4, .str "relay" t4), (numK [1, 2, 1, 2], k5, .str "clamp" t5), (numK [1, 2, 3, 2], k6, .str "trail" t6), (numK [1, 2, 3, 0], k7, .str "wheel" t7)] (X _ _ l) ⟨rfl, rfl, rfl⟩ rfl ?_ ?_ ?_
  · show [(⟨-8753497827991233192, .ref k0, .str "free" t0⟩ : DictEntry), (⟨-5164621852614943976, .ref k1, .str "pair" t1⟩ : DictEntry), (⟨8389048192121911274, .ref k2, .str "claim" t2⟩ : DictEntry), (⟨3313134723150563520, .ref k3, .str "hook" t3⟩ : DictEntry), (⟨-1579939305822132846, .ref k4, .str "relay" t4⟩ : DictEntry), (⟨8677768113715720416, .ref k5, .str "clamp" t5⟩ : DictEntry), (⟨3374690043038133861, .ref k6, .str "trail" t6⟩ : DictEntry), (⟨1760123315908831802, .ref k7, .str "wheel" t7⟩ : DictEntry)] = [(⟨(numK [0]).hash w, .ref k0, .str "free" t0⟩ : DictEntry), (⟨(numK [1, 0]).hash w, .ref k1, .str "pair" t1⟩ : DictEntry), (⟨(numK [1, 1]).hash w, .ref k2, .str "claim" t2⟩ : DictEntry), (⟨(numK [1, 2, 1]).hash w, .ref k3, .str "hook" t3⟩ : DictEntry), (⟨(numK [1, 2, 2]).hash w, .ref k4, .str "relay" t4⟩ : DictEntry), (⟨(numK [1, 2, 1, 2]).hash w, .ref k5, .str "clamp" t5⟩ : DictEntry), (⟨(numK [1, 2, 3, 2]).hash w, .ref k6, .str "trail" t6⟩ : DictEntry), (⟨(numK [1, 2, 3, 0]).hash w, .ref k7, .str "wheel" t7⟩ : DictEntry)]
    rw [hash0, hash1, hash2, hash3, hash4, hash5, hash6, hash7]
  · intro x hx
    simp only [List.mem_cons, List.not_mem_nil, or_false] at hx
    rcases hx with rfl | rfl | rfl | rfl | rfl | rfl | rfl | rfl
    · exact ⟨.tup (X _ _ f0) rfl rfl (.cons (.int _ _) (.nil)), numK_depth _⟩
    · exact ⟨.tup (X _ _ f1) rfl rfl (.cons (.int _ _) (.cons (.int _ _) (.nil))), numK_depth _⟩
    · exact ⟨.tup (X _ _ f2) rfl rfl (.cons (.int _ _) (.cons (.int _ _) (.nil))), numK_depth _⟩
    · exact ⟨.tup (X _ _ f3) rfl rfl (.cons (.int _ _) (.cons (.int _ _) (.cons (.int _ _) (.nil)))), numK_depth _⟩
    · exact ⟨.tup (X _ _ f4) rfl rfl (.cons (.int _ _) (.cons (.int _ _) (.cons (.int _ _) (.nil)))), numK_depth _⟩
    · exact ⟨.tup (X _ _ f5) rfl rfl (.cons (.int _ _) (.cons (.int _ _) (.cons (.int _ _) (.cons (.int _ _) (.nil))))), numK_depth _⟩
    · exact ⟨.tup (X _ _ f6) rfl rfl (.cons (.int _ _) (.cons (.int _ _) (.cons (.int _ _) (.cons (.int _ _) (.nil))))), numK_depth _⟩
    · exact ⟨.tup (X _ _ f7) rfl rfl (.cons (.int _ _) (.cons (.int _ _) (.cons (.int _ _) (.cons (.int _ _) (.nil))))), numK_depth _⟩
  · show [numK [0], numK [1, 0], numK [1, 1], numK [1, 2, 1], numK [1, 2, 2], numK [1, 2, 1, 2], numK [1, 2, 3, 2], numK [1, 2, 3, 0]].Nodup
    decide +kernel
theorem words_mk {K : PySem.W.Frag} {c : Addr} {od : Option Addr} {n : Nat} {sl : Array (Option Value)} {t0 t1 t2 t3 t4 t5 t6 t7 : Tok} (l : List.lookup c K = some ⟨.type "tuple", od, .seq #[.str "free" t0, .str "pair" t1, .str "claim" t2, .str "hook" t3, .str "relay" t4, .str "clamp" t5, .str "trail" t6, .str "wheel" t7] n, sl⟩) (H : Hp) : SqT K H c wordsV := by
  refine Or.inr ⟨_, _, _, l, rfl, rfl, (by show 8 ≤ sizeLine; decide), ?_⟩
  exact .cons ⟨_, rfl⟩ (.cons ⟨_, rfl⟩ (.cons ⟨_, rfl⟩ (.cons ⟨_, rfl⟩ (.cons ⟨_, rfl⟩ (.cons ⟨_, rfl⟩ (.cons ⟨_, rfl⟩ (.cons ⟨_, rfl⟩ (.nil))))))))
theorem whole_mk {K : PySem.W.Frag} {c : Addr} {od : Option Addr} {n : Nat} {sl : Array (Option Value)} {t0 t1 : Tok} (l : List.lookup c K = some ⟨.type "tuple", od, .seq #[.str "free" t0, .str "pair" t1] n, sl⟩) (H : Hp) : SqT K H c [.str "free", .str "pair"] := by
  refine Or.inr ⟨_, _, _, l, rfl, rfl, (by show 2 ≤ sizeLine; decide), ?_⟩
  exact .cons ⟨_, rfl⟩ (.cons ⟨_, rfl⟩ .nil)
end Pv

namespace Pv
open PySem L2 Evl Pm
local macro_rules | `(tactic| walk_at "r1") => `(tactic| first
  | refine ⟨_, rfl, ?_⟩
  | refine ⟨rfl, ?_⟩
  | refine ⟨_, _, rfl, rfl, (show (_ : Prop) from by first | decide | omega | assumption | exact Or.inr ⟨by decide, by decide⟩ | exact Or.inl ⟨by omega, by omega⟩ | exact ⟨by decide, by decide, by decide⟩ | exact ⟨by decide, by decide⟩ | exact wide_div (b := 60) (by omega) (by omega) (by decide) (by decide)), ?_⟩
  | refine ⟨_, _, rfl, rfl, ?_⟩
  | refine ⟨_, _, _, _, rfl, rfl, (show (_ : Prop) from by first | exact SqL.of (by assumption) | exact SqL.of upd_same | assumption | exact upd_same), rfl, ?_⟩
  | refine Or.inl ⟨_, rfl, ?_⟩)
local macro_rules | `(tactic| walk_at "ex") => `(tactic| first | exact Ex.refl _ | assumption | (refine ex_new ?_ (by assumption); walk_at "ex"))
local macro_rules | `(tactic| walk_at "r") => `(tactic| repeat (walk_at "r1"))

section
variable {P : Program} {w : World} {K : PySem.W.Frag} {mg : Str → Option Value} {base : Heap} {A : Ad}
theorem ok_check_image (T : Txt K mg A)   : Okd P w K mg base CX0 1 A.check_image P_check_image spCI1 := by
  obtain ⟨fd, F⟩ := T.d_check_image

  refine ⟨fd, F.ok sc_check_image (fun vs H Q E h => ?_) (fun cdv A' outer s H vs Q E hr h => ?_), F.binds fun _ _ _ _ _ _ us hl => match us, hl with | [_], _ => rfl⟩
  · obtain ⟨a, ys, rfl, _⟩ := h
    rfl
  · obtain ⟨a, ys, rfl, hx, hl, hb, k⟩ := h
    refine ⟨_, (pss_cons (ps_set (i := 1) sc_check_image.nd rfl (Or.inl rfl) (pe_callB call_len_seq (by rfl) T.n_len PySem.boot_len (pa_cons (pv 0) pa_nil)))
      (pss_one (ps_for PassesOwn.never rfl (pi_enum (by rfl) T.n_enumerate (pa_cons (pv 0) pa_nil)) (pg_tup (by rfl) (pgs_cons (pg_name (i := 2) sc_check_image.nd rfl (Or.inl rfl)) (pgs_cons (pg_name (i := 3) sc_check_image.nd rfl (Or.inl rfl)) pgs_nil))) (pss_one (ps_if (PW.pt (pw_or (pt_cmpR op_lt (pv 3) pe_int (nomark _)) (pw_or1 (pt_cmpR op_ge (pv 3) (pv 1) (nomark _))))) (pss_one ps_never) pss_nil))))), ?_⟩
    refine ⟨_, rfl, _, _, rfl, Or.inl (SqL.of hx), ?_⟩
    refine ⟨_, rfl, _, _, rfl, hx.sz, for_it walk_enum (fun i σ H' => ∃ v1 v2 : Option V, σ = [some (.ref a), some (.int ((nI ys).length : Int)), v1, v2] ∧ Ex H H')
      ⟨none, none, rfl, Ex.refl H⟩ (fun i σ H' _ ⟨_, _, _, e⟩ => (hx.ex e).sz) ?_ ?_⟩
    · rintro i x σ H' H2 hi ⟨v1, v2, rfl, e⟩ ⟨T0, y1, y2, rfl, hT, rfl, e1, e2⟩
      obtain ⟨hi2, rfl⟩ := nat_at e2
      cases e1
      have hlt := hb i hi2
      refine ⟨T0, _, rfl, SqT.of upd_same, rfl, _, _, rfl, _, _, rfl, rfl, ?_⟩
      walk_at "r"
      refine ite_b (fun c => absurd (of_decide_eq_true c) (by rw [nI_len]; omega)) (fun c => ?_)
      exact ⟨_, _, rfl, ex_new e hT⟩
    · rintro σ H' ⟨v1, v2, rfl, e⟩
      exact k H' e

end

section
variable {P : Program} {w : World} {K : PySem.W.Frag} {mg : Str → Option Value} {base : Heap} {A : Ad}
theorem ok_least_records (T : Txt K mg A)   : Okd P w K mg base CX0 1 A.least_records P_least_records spLR := by
  obtain ⟨fd, F⟩ := T.d_least_records

  refine ⟨fd, F.ok sc_least_records (fun vs H Q E h => ?_) (fun cdv A' outer s H vs Q E hr h => ?_), F.binds fun _ _ _ _ _ _ us hl => match us, hl with | [_], _ => rfl⟩
  · obtain ⟨a, ys, rfl, _⟩ := h
    rfl
  · obtain ⟨a, ys, rfl, hx, hl, hb, k⟩ := h
    refine ⟨_, (pss_cons (ps_set (i := 1) sc_least_records.nd rfl (Or.inl rfl) (pe_listRg (by rfl) (by rfl) T.n_list (prg_1 (by rfl) T.n_range (pe_callB call_len_seq (by rfl) T.n_len PySem.boot_len (pa_cons (pv 0) pa_nil)))))
      (pss_cons (ps_for PassesOwn.never rfl (pi_enum (by rfl) T.n_enumerate (pa_cons (pv 0) pa_nil)) (pg_tup (by rfl) (pgs_cons (pg_name (i := 2) sc_least_records.nd rfl (Or.inl rfl)) (pgs_cons (pg_name (i := 3) sc_least_records.nd rfl (Or.inl rfl)) pgs_nil))) (pss_cons (ps_set (i := 4) sc_least_records.nd rfl (Or.inr rfl) (pe_callB (call_min2 (by rfl)) (by rfl) T.n_min (by decide +kernel) (pa_cons (pe_ix ix_list (pv 1) (pv 2) (fun _ _ => rfl)) (pa_cons (pe_ix ix_list (pv 1) (pv 3) (fun _ _ => rfl)) pa_nil))))
      (pss_cons (ps_set (i := 5) sc_least_records.nd rfl (Or.inr rfl) (pe_callB (call_max2 (by rfl)) (by rfl) T.n_max (by decide +kernel) (pa_cons (pe_ix ix_list (pv 1) (pv 2) (fun _ _ => rfl)) (pa_cons (pe_ix ix_list (pv 1) (pv 3) (fun _ _ => rfl)) pa_nil))))
      (pss_one (ps_if (pt_cmpR op_ne (pv 4) (pv 5) (nomark _)) (pss_one (ps_setLc (i := 1) (own := [("old", 6)]) (tt := tYes) (by rfl) sc_least_records.nd rfl rfl (sw_true rfl rfl rfl (by decide +kernel)) (pi_list (pv 1)) (blkOk_by (own := [("old", 6)]) (N := N_least_records) (sc := defScope s_least_records) (by decide +kernel)) (fun _ _ _ _ _ => (pg_name (i := 6) sc_least_records.nd rfl (Or.inl rfl))) (fun _ _ _ _ _ => pts_nil) (fun _ _ _ _ _ => (pe_ifExp (pt_cmpR op_eq (pv 6) (pv 5) (nomark _)) (pv 4) (pv 6))))) pss_nil)))))
      (pss_one (ps_ret (pv 1))))), ?_⟩
    have hlab : ∀ i, (lab ys i).length = ys.length := fun i => by
      induction i with
      | zero => exact List.length_range
      | succ i ih =>
        show (stepL (lab ys i) i (ys.getD i 0)).length = _
        unfold stepL
        split
        · exact ih
        · rw [List.length_map]
          exact ih
    have hn : (nI ys).length = ys.length := nI_len ys
    refine ⟨_, rfl, _, _, rfl, Or.inl (SqL.of hx), ?_⟩
    refine ⟨_, rfl, RgOk.of_le (by decide) (by rw [hn]; omega) (by decide) (by rw [hn]; omega), fun p0 hp0 => ?_⟩
    have hp1 : ListN (upd H p0 (.lst (rgV 0 ((nI ys).length : Int)))) p0 (lab ys 0) := by
      show upd H p0 _ p0 = _
      rw [upd_same, hn, rgV_map, List.map_map]
      rfl
    have e0 := Ex.new (o := .lst (rgV 0 ((nI ys).length : Int))) hp0
    generalize L2.upd H p0 _ = H0 at *
    have hx0 := hx.ex e0
    refine ⟨_, rfl, _, _, rfl, hx0.sz, for_it walk_enum (fun i σ H' => ∃ (p : Addr) (v2 v3 v4 v5 v6 : Option V), σ = [some (.ref a), some (.ref p), v2, v3, v4, v5, v6] ∧ Ex H H' ∧ H p = none ∧ ListN H' p (lab ys i))
      ⟨p0, none, none, none, none, none, rfl, e0, hp0, hp1⟩ (fun i σ H' _ ⟨_, _, _, _, _, _, _, e, _⟩ => (hx.ex e).sz) ?_ ?_⟩
    · rintro i x σ H' H2 hi ⟨p, v2, v3, v4, v5, v6, rfl, e, hp, hL⟩ ⟨T0, y1, y2, rfl, hT, rfl, e1, e2⟩
      obtain ⟨hi2, rfl⟩ := nat_at e2
      cases e1
      have hlt := hb i hi2
      have hL1 : ListN (upd H' T0 (.tup [.int (i : Nat), .int (ys.getD i 0 : Nat)])) p (lab ys i) := hL.ex (Ex.new hT)
      have e1 := ex_new (o := .tup [.int (i : Nat), .int (ys.getD i 0 : Nat)]) e hT
      have hlen : (lab ys i).length = ys.length := hlab i
      refine ⟨T0, _, rfl, SqT.of upd_same, rfl, _, _, rfl, _, _, rfl, rfl, ?_⟩
      generalize L2.upd H' T0 _ = G at *
      refine ⟨_, rfl, _, rfl, _, _, _, _, rfl, rfl, hL1.sz, atN (by omega), _, rfl, _, rfl, _, _, _, _, rfl, rfl, hL1.sz, atN (by omega), _, _, rfl, ?_⟩
      refine ⟨_, rfl, _, rfl, _, _, _, _, rfl, rfl, hL1.sz, atN (by omega), _, rfl, _, rfl, _, _, _, _, rfl, rfl, hL1.sz, atN (by omega), _, _, rfl, ?_⟩
      have hmin : (if (((lab ys i).getD (ys.getD i 0) 0 : Nat) : Int) < (((lab ys i).getD i 0 : Nat) : Int) then (((lab ys i).getD (ys.getD i 0) 0 : Nat) : Int) else (((lab ys i).getD i 0 : Nat) : Int)) = ((min ((lab ys i).getD i 0) ((lab ys i).getD (ys.getD i 0) 0) : Nat) : Int) := by
        split <;> omega
      have hmax : (if (((lab ys i).getD (ys.getD i 0) 0 : Nat) : Int) > (((lab ys i).getD i 0 : Nat) : Int) then (((lab ys i).getD (ys.getD i 0) 0 : Nat) : Int) else (((lab ys i).getD i 0 : Nat) : Int)) = ((max ((lab ys i).getD i 0) ((lab ys i).getD (ys.getD i 0) 0) : Nat) : Int) := by
        split <;> omega
      rw [hmin, hmax]
      have hstep : lab ys (i + 1) = stepL (lab ys i) i (ys.getD i 0) := rfl
      unfold stepL at hstep
      generalize min ((lab ys i).getD i 0) ((lab ys i).getD (ys.getD i 0) 0) = lo at *
      generalize max ((lab ys i).getD i 0) ((lab ys i).getD (ys.getD i 0) 0) = up at *
      refine ⟨_, rfl, _, rfl, rfl, _, rfl, ?_⟩
      refine ite_b (fun c => ?_) (fun c => ?_)
      · have hne : lo ≠ up := fun z => by rw [z] at c; simp at c
        rw [if_neg hne] at hstep
        refine ⟨_, rfl, p, rfl, ⟨_, hL1.sz⟩, fun D hD => lc_list (K := K) (a := p) (xs := nI (lab ys i)) (fun j H' => Ex G H' ∧ ListN H' D (((lab ys i).take j).map fun o => if o = up then lo else o)) ⟨Ex.new hD, upd_same⟩ (fun j H' _ q => (hL1.ex q.1).sz) ?_ ?_⟩
        · rintro j y H' hj ⟨e3, hd⟩
          obtain ⟨hj2, rfl⟩ := nat_at hj
          refine ⟨rfl, _, rfl, _, rfl, rfl, _, rfl, ?_⟩
          have fin : ∀ v : Nat, (if (lab ys i).getD j 0 = up then lo else (lab ys i).getD j 0) = v → ∃ acc, H' D = some (.lst acc) ∧ acc.length < sizeLine ∧ Ex G (upd H' D (.lst (acc ++ [V.int (v : Int)]))) ∧ ListN (upd H' D (.lst (acc ++ [V.int (v : Int)]))) D (((lab ys i).take (j + 1)).map fun o => if o = up then lo else o) := fun v hv => by
            refine ⟨_, hd, small1000 (by rw [nI_len, List.length_map, List.length_take]; omega), fun b o hb => ?_, ?_⟩
            · rw [upd_ne (ne_of_none hb hD)]
              exact e3 b o hb
            · show upd H' D _ D = _
              rw [upd_same, List.take_add_one, List.getElem?_eq_getElem hj2]
              have hg : (lab ys i)[j] = (lab ys i).getD j 0 := by rw [List.getD_eq_getElem?_getD, List.getElem?_eq_getElem hj2]; rfl
              unfold nI
              rw [List.map_append, List.map_append, Option.toList_some, hg]
              show _ = some (HO.lst (_ ++ [V.int ((if (lab ys i).getD j 0 = up then lo else (lab ys i).getD j 0 : Nat) : Int)]))
              rw [hv]
          refine ite_b (fun c2 => ?_) (fun c2 => ?_)
          · have h2 : (lab ys i).getD j 0 = up := by
              have c3 := of_decide_eq_true c2
              injection c3 with c3
              omega
            exact ⟨_, rfl, fin lo (if_pos h2)⟩
          · have h2 : ¬ (lab ys i).getD j 0 = up := fun z => (of_decide_eq_false c2) (by rw [z])
            exact ⟨_, rfl, fin _ (if_neg h2)⟩
        · rintro H' ⟨e3, hd⟩
          have e4 := e1.trans e3
          refine ⟨D, _, _, _, _, _, rfl, e4, fresh_back e1 hD, ?_⟩
          rw [hstep]
          have hz : (nI (lab ys i)).length = (lab ys i).length := nI_len _
          rw [hz, List.take_length] at hd
          exact hd
      · have he : lo = up := by
          by_cases h : lo = up
          · exact h
          · exfalso
            have : decide (V.int (lo : Int) = V.int (up : Int)) = false := decide_eq_false (fun z => h (by injection z with z; omega))
            rw [this] at c
            cases c
        rw [if_pos he] at hstep
        exact ⟨p, _, _, _, _, _, rfl, e1, hp, by rw [hstep]; exact hL1⟩
    · rintro σ H' ⟨p, v2, v3, v4, v5, v6, rfl, e, hp, hL⟩
      rw [hn] at hL
      exact ⟨_, rfl, k p H' hp e hL⟩

end

section
variable {P : Program} {w : World} {K : PySem.W.Frag} {mg : Str → Option Value} {base : Heap} {A : Ad}
theorem hll (ys : List Nat) : ∀ i, (lab ys i).length = ys.length := fun i => by
  induction i with
  | zero => exact List.length_range
  | succ i ih =>
    show (stepL (lab ys i) i (ys.getD i 0)).length = _
    unfold stepL
    split
    · exact ih
    · rw [List.length_map]
      exact ih
theorem ok_groups (T : Txt K mg A)  (g_check_image : Okd P w K mg base CX0 1 A.check_image P_check_image spCI1) (g_least_records : Okd P w K mg base CX0 1 A.least_records P_least_records spLR) : Okd P w K mg base CX0 2 A.groups P_groups spGr := by
  obtain ⟨fd, F⟩ := T.d_groups
  obtain ⟨fd_check_image, G_check_image, b_check_image⟩ := g_check_image
  obtain ⟨fd_least_records, G_least_records, b_least_records⟩ := g_least_records
  refine ⟨fd, F.ok sc_groups (fun vs H Q E h => ?_) (fun cdv A' outer s H vs Q E hr h => ?_), F.binds fun _ _ _ _ _ _ us hl => match us, hl with | [_], _ => rfl⟩
  · obtain ⟨a, ys, bs, rfl, _⟩ := h
    rfl
  · obtain ⟨a, ys, bs, rfl, hx, hl, hB, k⟩ := h
    refine ⟨_, (pss_cons (ps_expr (pe_call G_check_image (hr.mono (by decide)) (by rfl) T.g_check_image T.k_check_image b_check_image .nil pass0 (pa_cons (pv 0) pa_nil)))
      (pss_cons (ps_set (i := 1) sc_groups.nd rfl (Or.inl rfl) pe_dnewK)
      (pss_cons (ps_for PassesOwn.never rfl (pi_enum (by rfl) T.n_enumerate (pa_cons (pe_call G_least_records (hr.mono (by decide)) (by rfl) T.g_least_records T.k_least_records b_least_records .nil pass0 (pa_cons (pv 0) pa_nil)) pa_nil)) (pg_tup (by rfl) (pgs_cons (pg_name (i := 2) sc_groups.nd rfl (Or.inl rfl)) (pgs_cons (pg_name (i := 3) sc_groups.nd rfl (Or.inl rfl)) pgs_nil))) (pss_one (ps_expr (pe_bm PySem.F.plainAttrs_list PySem.F.slot_list_append PySem.F.type_list_append mt_append (pe_dsetd (pv 1) (pv 3) (pe_lst pa_nil) ⟨rfl, rfl, rfl, rfl⟩) (pa_cons (pv 2) pa_nil)))))
      (pss_one (ps_ret (pe_listVals (by rfl) (pv 1) (by rfl) T.n_list)))))), ?_⟩
    have hnb := Built.nb hB
    refine ⟨_, rfl, a, ys, rfl, hx, hl, hnb, fun H1 e1 => ?_⟩
    refine fun d hd => ?_
    have e2 : Ex H (upd H1 d (.dK [])) := ex_new e1 hd
    refine ⟨_, rfl, a, ys, rfl, hx.ex e2, hl, hnb, fun p H3 hp e3 hL => ?_⟩
    have hpd : p ≠ d := fun z => by
      rw [z, upd_same] at hp
      cases hp
    have hlab : (lab ys ys.length).length = ys.length := hll ys ys.length
    have G0 : Gst bs 0 H3 H3 d [] := ⟨e3 d _ upd_same, rfl, List.nodup_nil, (fun x hx => nomatch hx), Mut.refl d H3⟩
    have e4 : Ex H H3 := e2.trans e3
    have hd0 : H d = none := fresh_back e1 hd
    clear hp e2
    refine ⟨_, _, rfl, hL.sz, for_it walk_enum (fun i σ H' => ∃ (gs : List (Nat × Addr)) (v2 v3 : Option V), σ = [some (.ref a), some (.ref d), v2, v3] ∧ Gst bs i H3 H' d gs)
      ⟨[], none, none, rfl, G0⟩ (fun i σ H' _ ⟨_, _, _, _, G⟩ => SqL.of (G.mt p _ hpd hL)) ?_ ?_⟩
    · rintro i x σ H' H2 hi ⟨gs, v2, v3, rfl, G⟩ ⟨T0, y1, y2, rfl, hT, rfl, e1, e2⟩
      obtain ⟨hi2, rfl⟩ := nat_at e2
      cases e1
      rw [hlab] at hi2
      have hb : (lab ys ys.length).getD i 0 = beta bs i := lab_end hB hi2
      rw [hb]
      have G1 := G.tup (o := .tup [.int (i : Nat), .int (beta bs i : Nat)]) hT
      refine ⟨T0, _, rfl, SqT.of upd_same, rfl, _, _, rfl, _, _, rfl, rfl, ?_⟩
      generalize L2.upd H' T0 _ = G' at *
      have hgl : gs.length ≤ i := by
        have e := congrArg List.length G.keys
        rw [List.length_map] at e
        have := List.length_filter_le (fun x => decide (beta bs x = x)) (List.range i)
        rw [List.length_range] at this
        omega
      have hroot : beta bs (beta bs i) = beta bs i := by
        obtain ⟨b, hb, hxb⟩ := hB.of hi2
        rw [hB.beta_of hb hxb]
        exact hB.mn_beta hb
      refine ⟨_, rfl, d, rfl, Or.inl ⟨_, Or.inl G1.kv⟩, _, rfl, (by decide), fun z hz => ⟨kvG gs, Sum.inl (beta bs i : Nat), (G1.tup hz).kv, rfl, small1000 (by unfold kvG; rw [List.length_map]; omega), fun v hv => ?_, fun hn => ?_⟩⟩
      · obtain ⟨c, hc, rfl⟩ := kvG_some hv
        have G2 := G1.tup hz (o := .lst [])
        obtain ⟨_, _, hcl⟩ := G2.at_ _ hc
        have hfl := List.length_filter_le (fun y => decide (beta bs y = beta bs i)) (List.range i)
        rw [List.length_range] at hfl
        exact ⟨Or.inl ⟨rfl, _, SqL.of hcl⟩, _, rfl, _, _, _, rfl, rfl, hcl, small1000 (by rw [nI_len]; exact Nat.le_trans hfl (by omega)), gs, _, _, rfl, G2.old hc⟩
      · have hno := kvG_none hn
        have FR := G1.fresh (fun x hx => hB.beta_le (by omega)) hroot (z := z) hno hz
        rw [kvG_put hno, FR.1]
        have hzd : z ≠ d := fun e => by
          rw [e, G1.kv] at hz
          cases hz
        have hz1 : upd (upd G' z (.lst [])) d (.dK (kvG (gs ++ [(i, z)]))) z = some (.lst []) := by rw [upd_ne hzd, upd_same]
        exact ⟨Or.inl ⟨rfl, _, SqL.of hz1⟩, _, rfl, _, _, _, rfl, rfl, hz1, by decide, gs ++ [(i, z)], _, _, rfl, FR.2⟩
    · rintro σ H' ⟨gs, v2, v3, rfl, G⟩
      rw [nI_len, hlab] at G
      refine ⟨_, rfl, d, kvG gs, rfl, G.kv, fun q hq => ?_⟩
      have keep : ∀ b o, H b = some o → H' b = some o := fun b o hb => G.mt b o (fun z => by rw [z, hd0] at hb; cases hb) (e4 b o hb)
      have hq0 : H q = none := by
        cases e : H q with
        | none => rfl
        | some o =>
          rw [keep q o e] at hq
          cases hq
      refine k q gs _ hq0 (ex_new keep hq) ?_ G.keys (fun x hx => ?_)
      · rw [upd_same]
        unfold kvG
        rw [List.map_map]
        rfl
      · obtain ⟨g1, g2, g3⟩ := G.at_ x hx
        refine ⟨?_, ne_of_none g3 hq, ?_⟩
        · cases e : H x.2 with
          | none => rfl
          | some o =>
            rw [e4 _ o e] at g1
            cases g1
        · exact ListN.ex (Ex.new hq) g3

end

section
variable {P : Program} {w : World} {K : PySem.W.Frag} {mg : Str → Option Value} {base : Heap} {A : Ad}
theorem ok_row_of (T : Txt K mg A)   : Okd P w K mg base CX0 1 A.row_of P_row_of spRow := by
  obtain ⟨fd, F⟩ := T.d_row_of

  refine ⟨fd, F.ok sc_row_of (fun vs H Q E h => ?_) (fun cdv A' outer s H vs Q E hr h => ?_), F.binds fun _ _ _ _ _ _ us hl => match us, hl with | [_, _], _ => rfl⟩
  · obtain ⟨a, g, ys, bs, b, rfl, _⟩ := h
    rfl
  · obtain ⟨a, g, ys, bs, b, rfl, hx, hl, hB, hb, hC, hg, k⟩ := h
    refine ⟨_, (pss_cons (ps_set (i := 2) sc_row_of.nd rfl (Or.inr rfl) (pe_lc (own := [("record", 6)]) (tt := tYes) (by rfl) sc_row_of.nd (pi_list (pv 1)) (blkOk_by (own := [("record", 6)]) (N := N_row_of) (sc := defScope s_row_of) (by decide +kernel)) (fun _ _ _ _ _ => (pg_name (i := 6) sc_row_of.nd rfl (Or.inl rfl))) (fun _ _ _ _ _ => pts_nil) (fun _ _ _ _ _ => (pe_ix (ix_listK (K := K) rfl) (pv 0) (pv 6) (fun _ _ => rfl)))))
      (pss_cons (ps_setLc (i := 3) (own := [("record", 6)]) (tt := _) (by rfl) sc_row_of.nd rfl rfl (sw_true rfl rfl rfl (by decide +kernel)) (pi_list (pv 1)) (blkOk_by (own := [("record", 6)]) (N := N_row_of) (sc := defScope s_row_of) (by decide +kernel)) (fun _ _ _ _ _ => (pg_name (i := 6) sc_row_of.nd rfl (Or.inl rfl))) (fun _ _ _ _ _ => (pts_one (pt_cmpR (op_notInK (K := K) rfl) (pv 6) (pv 2) (by with_unfolding_all rfl)))) (fun _ _ _ _ _ => (pv 6)))
      (pss_cons (ps_set (i := 4) sc_row_of.nd rfl (Or.inl rfl) (pe_ifExp (pt_truth (pv 3) (by intro _; rfl)) (pe_ix ix_list (pv 3) pe_int (fun _ _ => rfl)) (pe_ix ix_list (pv 1) pe_int (fun _ _ => rfl))))
      (pss_cons (ps_set (i := 5) sc_row_of.nd rfl (Or.inr rfl) (pe_lst pa_nil))
      (pss_cons (ps_while PassesOwn.never (pt_cmpR op_notIn_seq (pv 4) (pv 5) (by with_unfolding_all rfl)) (pss_cons (ps_expr (pe_bm PySem.F.plainAttrs_list PySem.F.slot_list_append PySem.F.type_list_append mt_append (pv 5) (pa_cons (pv 4) pa_nil)))
      (pss_one (ps_set (i := 4) sc_row_of.nd rfl (Or.inl rfl) (pe_ix ix_list (pv 0) (pv 4) (fun _ _ => rfl))))))
      (pss_one (ps_ret (pe_op op_cat (pv 5) (pe_lc (own := [("record", 6)]) (tt := _) (by rfl) sc_row_of.nd (pi_list (pv 1)) (blkOk_by (own := [("record", 6)]) (N := N_row_of) (sc := defScope s_row_of) (by decide +kernel)) (fun _ _ _ _ _ => (pg_name (i := 6) sc_row_of.nd rfl (Or.inl rfl))) (fun _ _ _ _ _ => (pts_one (pt_cmpR (op_notInK (K := K) rfl) (pv 6) (pv 5) (by with_unfolding_all rfl)))) (fun _ _ _ _ _ => (pv 6))))))))))), ?_⟩
    have hnb := Built.nb hB
    have hlt : ∀ j, j < (grp bs ys.length (mn b.2)).length → (grp bs ys.length (mn b.2)).getD j 0 < ys.length := fun j hj => hB.lt hb ((hB.mem_grp hb).mp (getD_mem hj))
    have hst := hB.start hb hC _ rfl
    have hw := hB.walks hb
    have hleft := hB.left hb
    have hl4 := path_len hB hb
    have hgp := (hB.grp_perm hb).length_eq
    have hgm : ∀ x, x ∈ grp bs ys.length (mn b.2) ↔ x ∈ b.2 := fun x => hB.mem_grp hb
    generalize grp bs ys.length (mn b.2) = gp at *
    refine ⟨_, rfl, g, rfl, ⟨_, hg.sz⟩, fun D hD => lc_list (K := K) (a := g) (xs := nI gp) (fun j H' => Ex H H' ∧ ListN H' D ((gp.take j).map fun y => ys.getD y 0)) ⟨Ex.new hD, upd_same⟩ (fun j H' _ q => (hg.ex q.1).sz) ?_ ?_⟩
    · rintro j y H' hj ⟨e3, hd⟩
      obtain ⟨hj2, rfl⟩ := nat_at hj
      refine ⟨rfl, _, rfl, _, rfl, _, _, _, _, rfl, rfl, (hx.ex e3).sz, atN (hlt j hj2), ?_⟩
      refine ⟨_, hd, small1000 (by rw [nI_len, List.length_map, List.length_take]; omega), ?_⟩
      rw [take_map_succ hj2]
      exact acc_step hD e3
    rintro H1 ⟨e1, h1⟩
    rw [nI_len, List.take_length] at h1
    have hD0 : H D = none := hD
    refine ⟨_, rfl, g, rfl, ⟨_, (hg.ex e1).sz⟩, fun D2 hD2 => lc_list (K := K) (a := g) (xs := nI gp) (fun j H' => Ex H1 H' ∧ ListN H' D2 ((gp.take j).filter fun x => !(gp.map fun y => ys.getD y 0).contains x)) ⟨Ex.new hD2, upd_same⟩ (fun j H' _ q => (hg.ex (e1.trans q.1)).sz) ?_ ?_⟩
    · rintro j y H' hj ⟨e3, hd⟩
      obtain ⟨hj2, rfl⟩ := nat_at hj
      have f1 : ListN H' D (gp.map fun y => ys.getD y 0) := h1.ex e3
      refine ⟨rfl, _, rfl, _, rfl, _, _, rfl, Or.inl (SqL.of f1), rfl, flat_nI _, _, rfl, ?_⟩
      show if (!inV _ _) = true then _ else _
      rw [inV_nI]
      refine ite_b (fun c => ?_) (fun c => ?_)
      · refine ⟨_, rfl, _, hd, small1000 (by rw [nI_len]; have := List.length_filter_le (fun x => !(gp.map fun y => ys.getD y 0).contains x) (gp.take j); rw [List.length_take] at this; omega), ?_⟩
        rw [take_filter_pos hj2 c]
        exact acc_step hD2 e3
      · rw [take_filter_neg hj2 c]
        exact ⟨e3, hd⟩
    rintro H2 ⟨e2, h2⟩
    rw [nI_len, List.take_length] at h2
    generalize hT : (gp.filter fun x => !(gp.map fun y => ys.getD y 0).contains x) = TT at *
    have hh : ∀ {L : List Nat} {v : Nat}, L.head? = some v → atI (nI L) (0 : Int) = some (V.int (v : Int)) := fun {L v} h => by
      cases L with
      | nil => cases h
      | cons x L =>
        injection h with h
        subst h
        exact atN (xs := x :: L) (j := 0) (Nat.succ_pos _)
    have hpl : (path b).length ≤ 4 := Nat.le_trans path_le hl4
    have hp0 : (path b).getD 0 0 = b.2.getD 0 0 := path_zero
    have hplt : ∀ x, x ∈ path b → x < ys.length := fun x h => hB.lt hb (path_mem h)
    have hni := fun j h => Walks.notin hw (j := j) h
    obtain ⟨wpos, wnd, wnext, wback⟩ := hw
    generalize path b = pp at *
    refine ⟨_, rfl, _, Or.inl ⟨_, SqL.of h2, rfl⟩, ite_b (fun c => ⟨_, rfl, _, _, _, _, rfl, rfl, SqL.of h2, hh (hst.2 (fun z => by rw [z] at c; cases c)), ?_⟩) (fun c => ⟨_, rfl, _, _, _, _, rfl, rfl, (hg.ex (e1.trans e2)).sz, hh (hst.1 (by cases TT with | nil => rfl | cons _ _ => cases c)), ?_⟩)⟩
    all_goals
      refine ⟨by decide, fun r hr0 => ?_⟩
      have e3 : Ex H (upd H2 r (.lst [])) := (e1.trans e2).trans (Ex.new hr0)
      have hrn : H r = none := fresh_back (e1.trans e2) hr0
      refine ⟨fun m σ H' => ∃ (j : Nat) (v6 : Option V), j + m = pp.length ∧ σ = [some (.ref a), some (.ref g), some (.ref D), some (.ref D2), some (.int ((if j < pp.length then pp.getD j 0 else ys.getD (pp.getD (pp.length - 1) 0) 0 : Nat) : Int)), some (.ref r), v6] ∧ Ex H H' ∧ ListN H' r (pp.take j), ⟨pp.length, 0, none, by omega, ?_, e3, upd_same⟩, ?_⟩
      · rw [if_pos wpos, hp0]
        rfl
      rintro m σ H' ⟨j, v6, hm, rfl, e, hr⟩
      refine ⟨_, rfl, _, rfl, _, _, rfl, Or.inl (SqL.of hr), rfl, flat_nI _, _, rfl, ?_⟩
      show if (!inV _ _) = true then _ else _
      rw [inV_nI]
      by_cases c : j < pp.length
      · rw [if_pos c]
        rw [hni j c]
        refine ⟨fun σ H' => ∃ (v6 : Option V), σ = [some (.ref a), some (.ref g), some (.ref D), some (.ref D2), some (.int ((if j + 1 < pp.length then pp.getD (j + 1) 0 else ys.getD (pp.getD (pp.length - 1) 0) 0 : Nat) : Int)), some (.ref r), v6] ∧ Ex H H' ∧ ListN H' r (pp.take (j + 1)), fun σ' H' ⟨v6, h1, h2, h3⟩ => ⟨m - 1, by omega, j + 1, v6, by omega, h1, h2, h3⟩, ?_⟩
        have AC := acc_step (v := pp.getD j 0) hrn e (ls := pp.take j)
        refine ⟨_, rfl, Or.inl ⟨rfl, _, SqL.of hr⟩, _, rfl, _, _, _, rfl, rfl, hr, small1000 (by rw [nI_len, List.length_take]; omega), ?_⟩
        refine ⟨_, rfl, _, rfl, _, _, _, _, rfl, rfl, (hx.ex AC.1).sz, atN (hplt _ (getD_mem c)), ?_⟩
        refine ⟨v6, ?_, AC.1, ?_⟩
        · have : ys.getD (pp.getD j 0) 0 = (if j + 1 < pp.length then pp.getD (j + 1) 0 else ys.getD (pp.getD (pp.length - 1) 0) 0) := by
            split
            · exact wnext j (by assumption)
            · rw [show pp.length - 1 = j by omega]
          rw [← this]
          rfl
        · rw [take_succ c]
          exact AC.2
      · have hj : j = pp.length := by omega
        subst hj
        rw [if_neg c, List.take_length, List.contains_iff_mem.mpr wback]
        rw [List.take_length] at hr
        refine ⟨_, rfl, _, rfl, g, rfl, ⟨_, (hg.ex e).sz⟩, fun D3 hD3 => lc_list (K := K) (a := g) (xs := nI gp) (fun j H1 => Ex H' H1 ∧ ListN H1 D3 ((gp.take j).filter fun x => !pp.contains x)) ⟨Ex.new hD3, upd_same⟩ (fun j H1 _ q => (hg.ex (e.trans q.1)).sz) ?_ ?_⟩
        · rintro j y H1 hj ⟨e3, hd⟩
          obtain ⟨hj2, rfl⟩ := nat_at hj
          refine ⟨rfl, _, rfl, _, rfl, _, _, rfl, Or.inl (SqL.of (hr.ex e3)), rfl, flat_nI _, _, rfl, ?_⟩
          show if (!inV _ _) = true then _ else _
          rw [inV_nI]
          refine ite_b (fun c => ?_) (fun c => ?_)
          · refine ⟨_, rfl, _, hd, small1000 (by rw [nI_len]; have := List.length_filter_le (fun x => !pp.contains x) (gp.take j); rw [List.length_take] at this; omega), ?_⟩
            rw [take_filter_pos hj2 c]
            exact acc_step hD3 e3
          · rw [take_filter_neg hj2 c]
            exact ⟨e3, hd⟩
        rintro H4 ⟨e4, h4⟩
        rw [nI_len, List.take_length] at h4
        have hf := List.length_filter_le (fun x => !pp.contains x) gp
        refine ⟨_, _, _, _, rfl, rfl, hr.ex e4, h4, Nat.le_of_lt (small1000 (by rw [nI_len, nI_len]; omega)), fun q hq => k q _ (fresh_back (e.trans e4) hq) ((e.trans e4).trans (Ex.new hq)) ?_⟩
        show upd H4 q _ q = _
        rw [upd_same, ← hleft]
        unfold nI
        rw [List.map_append]

end

section
variable {P : Program} {w : World} {K : PySem.W.Frag} {mg : Str → Option Value} {base : Heap} {A : Ad}
theorem forms_at {w : Nat} (h : w < 8) : formsT[w]? = some (form w, word w) ∧ ∀ (j : Nat) (q : List Nat × Str), j < w → formsT[j]? = some q → q.1 ≠ form w := by
  have e : ∀ w : Nat, w < 8 → formsT[w]? = some (form w, word w) := fun w h => by
    rcases w with _ | _ | _ | _ | _ | _ | _ | _ | w
    all_goals first | rfl | omega
  refine ⟨e w h, fun j q hj hq => ?_⟩
  rw [e j (by omega)] at hq
  injection hq with hq
  subst hq
  have d : ∀ w : Fin 8, ∀ j : Fin 8, j.val < w.val → form j.val ≠ form w.val := by decide
  exact d ⟨w, h⟩ ⟨j, by omega⟩ hj
theorem ok_piece_of (T : Txt K mg A) (hF : TabK P w K A.FORMS formsT) (g_row_of : Okd P w K mg base CX0 1 A.row_of P_row_of spRow) : Okd P w K mg base CX0 2 A.piece_of P_piece_of spPO := by
  obtain ⟨fd, F⟩ := T.d_piece_of
  obtain ⟨fd_row_of, G_row_of, b_row_of⟩ := g_row_of
  refine ⟨fd, F.ok sc_piece_of (fun vs H Q E h => ?_) (fun cdv A' outer s H vs Q E hr h => ?_), F.binds fun _ _ _ _ _ _ us hl => match us, hl with | [_, _], _ => rfl⟩
  · obtain ⟨a, g, ys, bs, b, rfl, _⟩ := h
    rfl
  · obtain ⟨a, g, ys, bs, b, rfl, hx, hl, hB, hb, hC, hg, k⟩ := h
    refine ⟨_, (pss_cons (ps_set (i := 2) sc_piece_of.nd rfl (Or.inr rfl) (pe_call G_row_of (hr.mono (by decide)) (by rfl) T.g_row_of T.k_row_of b_row_of .nil pass0 (pa_cons (pv 0) (pa_cons (pv 1) pa_nil))))
      (pss_cons (ps_set (i := 3) sc_piece_of.nd rfl (Or.inl rfl) (pe_callTy call_tuple_of (by rfl) T.n_tuple (by decide +kernel) (pa_cons (pe_lc (own := [("record", 5)]) (tt := tYes) (by rfl) sc_piece_of.nd (pi_list (pv 2)) (blkOk_by (own := [("record", 5)]) (N := N_piece_of) (sc := defScope s_piece_of) (by decide +kernel)) (fun _ _ _ _ _ => (pg_name (i := 5) sc_piece_of.nd rfl (Or.inl rfl))) (fun _ _ _ _ _ => pts_nil) (fun _ _ _ _ _ => (pe_indexK (K := K) rfl (pe_bm PySem.F.plainAttrs_list PySem.F.slot_list_index PySem.F.type_list_index mt_index (pv 2) (pa_cons (pe_ix (ix_listK (K := K) rfl) (pv 0) (pv 5) (fun _ _ => rfl)) pa_nil))))) pa_nil)))
      (pss_cons (ps_set (i := 4) sc_piece_of.nd rfl (Or.inl rfl) (pe_tabGet hr.units (pe_glob (v := .ref A.FORMS) rfl T.g_FORMS rfl) (pv 3) ⟨rfl, rfl, rfl, rfl⟩))
      (pss_cons (ps_if (pt_cmpR op_isN (pv 4) pe_non (nomark _)) (pss_one (ps_ret pe_non)) pss_nil)
      (pss_one (ps_ret (pe_tup (pa_cons (pv 4) (pa_cons (pe_callTy call_tuple_of (by rfl) T.n_tuple (by decide +kernel) (pa_cons (pv 2) pa_nil)) pa_nil))))))))), ?_⟩
    have hl4 := path_len hB hb
    have hBk := hB.blk b hb
    have hfl : b.2.length = (form b.1).length := hBk.len
    have hbn : b.2.Nodup := nd_of hB.nd hb
    have hlt : ∀ j, j < b.2.length → b.2.getD j 0 < ys.length := fun j hj => hB.lt hb (getD_mem hj)
    refine ⟨_, rfl, _, rfl, a, g, ys, bs, b, rfl, hx, hl, hB, hb, hC, hg, fun p H1 hp e1 h1 => ?_⟩
    refine ⟨_, rfl, p, rfl, ⟨_, h1.sz⟩, fun D hD => lc_list (K := K) (a := p) (xs := nI b.2) (fun j H' => Ex H1 H' ∧ ListN H' D ((form b.1).take j)) ⟨Ex.new hD, upd_same⟩ (fun j H' _ q => (h1.ex q.1).sz) ?_ ?_⟩
    · rintro j y H' hj ⟨e3, hd⟩
      obtain ⟨hj2, rfl⟩ := nat_at hj
      have hfj : (form b.1).getD j 0 < b.2.length := by
        rw [hfl]
        exact form_lt _ _ (by omega)
      refine ⟨rfl, _, rfl, Or.inl ⟨rfl, _, SqL.of (h1.ex e3)⟩, _, rfl, _, rfl, _, _, _, _, rfl, rfl, (hx.ex (e1.trans e3)).sz, atN (hlt j hj2), ?_⟩
      refine ⟨_, nI b.2, _, (form b.1).getD j 0, _, rfl, rfl, SqL.of (h1.ex e3), rfl, flat_nI _, ixN_ hfj, ?_, fun m z' hm hz => ?_, ?_⟩
      · rw [eqV_nat]
        exact (hBk.sh j hj2).symm
      · obtain ⟨hm2, rfl⟩ := nat_at hz
        cases c : eqV (V.int ((b.2.getD m 0 : Nat) : Int)) (V.int ((ys.getD (b.2.getD j 0) 0 : Nat) : Int)) with
        | false => rfl
        | true =>
          rw [eqV_nat, hBk.sh j hj2] at c
          rw [List.getD_eq_getElem?_getD, List.getD_eq_getElem?_getD, List.getElem?_eq_getElem hm2, List.getElem?_eq_getElem hfj] at c
          have := (List.getElem_inj (h₀ := hm2) (h₁ := hfj) hbn).mp c
          omega
      refine ⟨_, hd, small1000 (by rw [nI_len, List.length_take]; omega), ?_⟩
      rw [take_succ (xs := form b.1) (by omega)]
      exact acc_step hD e3
    rintro H2 ⟨e2, h2⟩
    rw [nI_len, hfl, List.take_length] at h2
    have F1 := forms_at hBk.w
    refine ⟨_, _, rfl, Or.inl ⟨SqL.of h2, fun l hl0 => ?_⟩⟩
    have h3 := h1.ex (e2.trans (Ex.new (o := .tup (nI (form b.1))) hl0))
    have e4 := (e1.trans e2).trans (Ex.new (o := .tup (nI (form b.1))) hl0)
    refine ⟨_, formsT, rfl, hF, _, rfl, l, form b.1, word b.1, rfl, upd_same, ⟨b.1, F1⟩, ?_⟩
    generalize L2.upd H2 l _ = H3 at *
    refine ⟨_, rfl, rfl, _, rfl, ?_⟩
    refine ite_b (fun c => absurd (of_decide_eq_true c) (by intro z; cases z)) (fun _ => ?_)
    refine ⟨_, rfl, _, rfl, _, _, rfl, Or.inl ⟨SqL.of h3, fun t ht => ⟨(by show 2 ≤ sizeLine; decide), fun q hq => ?_⟩⟩⟩
    have hqt : q ≠ t := fun z => by
      rw [z, upd_same] at hq
      cases hq
    have e5 := ex_new (ex_new e4 ht) hq (o := .tup [.str (word b.1), .ref t])
    refine k q _ (fresh_back (ex_new e4 ht) hq) e5 ⟨t, upd_same, ?_⟩
    rw [upd_ne hqt.symm, upd_same]

end

section
variable {P : Program} {w : World} {K : PySem.W.Frag} {mg : Str → Option Value} {base : Heap} {A : Ad}
theorem ok_pieces (T : Txt K mg A)  (g_groups : Okd P w K mg base CX0 2 A.groups P_groups spGr) (g_piece_of : Okd P w K mg base CX0 2 A.piece_of P_piece_of spPO) : Okd P w K mg base CX0 3 A.pieces P_pieces spPi := by
  obtain ⟨fd, F⟩ := T.d_pieces
  obtain ⟨fd_groups, G_groups, b_groups⟩ := g_groups
  obtain ⟨fd_piece_of, G_piece_of, b_piece_of⟩ := g_piece_of
  refine ⟨fd, F.ok sc_pieces (fun vs H Q E h => ?_) (fun cdv A' outer s H vs Q E hr h => ?_), F.binds fun _ _ _ _ _ _ us hl => match us, hl with | [_], _ => rfl⟩
  · obtain ⟨a, ys, bs, rfl, _⟩ := h
    rfl
  · obtain ⟨a, ys, bs, rfl, hx, hG, k⟩ := h
    refine ⟨_, (pss_cons (ps_set (i := 1) sc_pieces.nd rfl (Or.inl rfl) (pe_lst pa_nil))
      (pss_cons (ps_for PassesOwn.never rfl (pi_list (pe_call G_groups (hr.mono (by decide)) (by rfl) T.g_groups T.k_groups b_groups .nil pass0 (pa_cons (pv 0) pa_nil))) (pg_name (i := 2) sc_pieces.nd rfl (Or.inl rfl)) (pss_cons (ps_set (i := 3) sc_pieces.nd rfl (Or.inl rfl) (pe_call G_piece_of (hr.mono (by decide)) (by rfl) T.g_piece_of T.k_piece_of b_piece_of .nil pass0 (pa_cons (pv 0) (pa_cons (pv 2) pa_nil))))
      (pss_cons (ps_if (pt_cmpR op_isN (pv 3) pe_non (nomark _)) (pss_one ps_never) pss_nil)
      (pss_one (ps_expr (pe_bm PySem.F.plainAttrs_list PySem.F.slot_list_append PySem.F.type_list_append mt_append (pv 1) (pa_cons (pv 3) pa_nil)))))))
      (pss_one (ps_ret (pv 1))))), ?_⟩
    have hB := hG.built
    have hl := hG.len
    have h64 := hG.few
    refine ⟨by decide, fun f hf => ?_⟩
    have e0 : Ex H (upd H f (.lst [])) := Ex.new hf
    refine ⟨_, rfl, a, ys, bs, rfl, hx.ex e0, hl, hB, fun p gs H1 hp e1 hP hk hgs => ?_⟩
    have hpf : p ≠ f := fun z => by
      rw [z, upd_same] at hp
      cases hp
    have hgf : ∀ x ∈ gs, x.2 ≠ f := fun x h z => by
      have := (hgs x h).1
      rw [z, upd_same] at this
      cases this
    have h0 : H1 f = some (.lst []) := e1 f _ upd_same
    have e01 : Ex H H1 := e0.trans e1
    obtain ⟨hgl, hgm⟩ := hG.gs hk
    have sq : SqL K H1 p (gs.map fun x => V.ref x.2) := SqL.of hP
    refine ⟨p, rfl, ⟨_, sq⟩, for_list (K := K) (a := p) (xs := gs.map fun x => V.ref x.2) (fun i σ H' => ∃ v2 v3 : Option V, σ = [some (.ref a), some (.ref f), v2, v3] ∧ Mut f H1 H' ∧ Some2 PieceAt H' f bs i)
      ⟨none, none, rfl, Mut.refl f H1, .nil h0⟩ (fun i σ H' _ ⟨_, _, _, M, _⟩ => SqL.of (M p _ hpf hP)) ?_ ?_⟩
    · rintro i x σ H' hi ⟨v2, v3, rfl, M, S⟩
      rw [List.getElem?_map] at hi
      cases hgi : gs[i]? with
      | none => rw [hgi] at hi; cases hi
      | some gx =>
      rw [hgi] at hi
      injection hi with hi
      subst hi
      have hil : i < gs.length := (List.getElem?_eq_some_iff.mp hgi).1
      have hib : i < bs.length := by omega
      have hbi : bs[i]? = some bs[i] := List.getElem?_eq_getElem hib
      have hmem : gx ∈ gs := List.mem_of_getElem? hgi
      have hgx := hgm i gx bs[i] hgi hbi
      have hxn := (hgs gx hmem).2.2
      rw [hgx] at hxn
      have ef : Ex H H' := fun b o hb => M b o (fun z => by rw [z, hf] at hb; cases hb) (e01 b o hb)
      refine ⟨_, rfl, _, rfl, a, gx.2, ys, bs, bs[i], rfl, hx.ex ef, hl, hB, List.getElem_mem hib, hG.can _ (List.getElem_mem hib), M _ _ (hgf gx hmem) hxn, fun q H2 hq e2 hA => ?_⟩
      refine ⟨_, rfl, rfl, _, rfl, ?_⟩
      refine ite_b (fun c => absurd (of_decide_eq_true c) (by intro z; cases z)) (fun _ => ?_)
      obtain ⟨qs, h1, h2, h3⟩ := (S.ex e2).more hA hbi
      refine ⟨_, rfl, Or.inl ⟨rfl, _, SqL.of h1⟩, _, rfl, _, _, _, rfl, rfl, h1, small1000 (by rw [List.length_map]; omega), ?_⟩
      exact ⟨_, _, rfl, fun b o hb hv => by rw [upd_ne hb]; exact e2 b o (M b o hb hv), h3⟩
    · rintro σ H' ⟨v2, v3, rfl, M, S⟩
      rw [List.length_map, hgl] at S
      exact ⟨_, rfl, k f H' hf (fun b o hb => M b o (fun z => by rw [z, hf] at hb; cases hb) (e01 b o hb)) S.all⟩

end

section
variable {P : Program} {w : World} {K : PySem.W.Frag} {mg : Str → Option Value} {base : Heap} {A : Ad}
theorem ok_is_repairable (T : Txt K mg A)  (g_groups : Okd P w K mg base CX0 2 A.groups P_groups spGr) (g_piece_of : Okd P w K mg base CX0 2 A.piece_of P_piece_of spPO) : Okd P w K mg base CX0 3 A.is_repairable P_is_repairable spRep := by
  obtain ⟨fd, F⟩ := T.d_is_repairable
  obtain ⟨fd_groups, G_groups, b_groups⟩ := g_groups
  obtain ⟨fd_piece_of, G_piece_of, b_piece_of⟩ := g_piece_of
  refine ⟨fd, F.ok sc_is_repairable (fun vs H Q E h => ?_) (fun cdv A' outer s H vs Q E hr h => ?_), F.binds fun _ _ _ _ _ _ us hl => match us, hl with | [_], _ => rfl⟩
  · obtain ⟨a, ys, bs, rfl, _⟩ := h
    rfl
  · obtain ⟨a, ys, bs, rfl, hx, hG, k⟩ := h
    refine ⟨_, (pss_one (ps_ret (pe_callB (cr_all (by rfl)) (by rfl) T.n_all (by decide +kernel) (pa_cons (pe_lc (own := [("group", 1)]) (tt := tYes) (by rfl) sc_is_repairable.nd (pi_list (pe_call G_groups (hr.mono (by decide)) (by rfl) T.g_groups T.k_groups b_groups .nil pass0 (pa_cons (pv 0) pa_nil))) (blkOk_by (own := [("group", 1)]) (N := N_is_repairable) (sc := defScope s_is_repairable) (by decide +kernel)) (fun _ _ _ _ _ => (pg_name (i := 1) sc_is_repairable.nd rfl (Or.inl rfl))) (fun _ _ _ _ _ => pts_nil) (fun _ _ _ _ _ => (pe_cmpR op_notN (pe_call G_piece_of (hr.mono (by decide)) (by rfl) T.g_piece_of T.k_piece_of b_piece_of .nil pass0 (pa_cons (pv 0) (pa_cons (pv 1) pa_nil))) pe_non (nomark _)))) pa_nil)))), ?_⟩
    have hB := hG.built
    have hl := hG.len
    have h64 := hG.few
    refine ⟨_, rfl, a, ys, bs, rfl, hx, hl, hB, fun p gs H1 hp e1 hP hk hgs => ?_⟩
    obtain ⟨hgl, hgm⟩ := hG.gs hk
    have sq : SqL K H1 p (gs.map fun x => V.ref x.2) := SqL.of hP
    refine ⟨p, rfl, ⟨_, sq⟩, fun D hD => lc_list (K := K) (a := p) (xs := gs.map fun x => V.ref x.2) (fun j H' => Ex H1 H' ∧ H' D = some (.lst ((List.replicate j true).map V.bl))) ⟨Ex.new hD, upd_same⟩ (fun j H' _ q => SqL.of (q.1 p _ hP)) ?_ ?_⟩
    · rintro i y H' hi ⟨ef, hd⟩
      rw [List.getElem?_map] at hi
      cases hgi : gs[i]? with
      | none => rw [hgi] at hi; cases hi
      | some gx =>
      rw [hgi] at hi
      injection hi with hi
      subst hi
      have hil : i < gs.length := (List.getElem?_eq_some_iff.mp hgi).1
      have hib : i < bs.length := by omega
      have hbi : bs[i]? = some bs[i] := List.getElem?_eq_getElem hib
      have hmem : gx ∈ gs := List.mem_of_getElem? hgi
      have hgx := hgm i gx bs[i] hgi hbi
      have hxn := (hgs gx hmem).2.2
      rw [hgx] at hxn
      refine ⟨rfl, _, rfl, _, rfl, a, gx.2, ys, bs, bs[i], rfl, hx.ex (e1.trans ef), hl, hB, List.getElem_mem hib, hG.can _ (List.getElem_mem hib), hxn.ex ef, fun q H2 hq e2 hA => ?_⟩
      refine ⟨rfl, _, e2 D _ hd, small1000 (by rw [List.length_map, List.length_replicate]; omega), fun b o hb => ?_, ?_⟩
      · rw [upd_ne (ne_of_none hb hD)]
        exact e2 b o (ef b o hb)
      · rw [upd_same, List.replicate_succ', List.map_append]
        rfl
    · rintro H' ⟨ef, hd⟩
      refine ⟨D, _, rfl, SqL.of hd, ?_⟩
      rw [show (List.replicate (gs.map fun x => V.ref x.2).length true).all id = true by rw [List.all_replicate]; split <;> rfl]
      exact k H' (e1.trans ef)

end

section
variable {P : Program} {w : World} {K : PySem.W.Frag} {mg : Str → Option Value} {base : Heap} {A : Ad}
theorem ok_census (T : Txt K mg A)  (g_pieces : Okd P w K mg base CX0 3 A.pieces P_pieces spPi) : Okd P w K mg base CX0 4 A.census P_census spCen := by
  obtain ⟨fd, F⟩ := T.d_census
  obtain ⟨fd_pieces, G_pieces, b_pieces⟩ := g_pieces
  refine ⟨fd, F.ok sc_census (fun vs H Q E h => ?_) (fun cdv A' outer s H vs Q E hr h => ?_), F.binds fun _ _ _ _ _ _ us hl => match us, hl with | [_], _ => rfl⟩
  · obtain ⟨a, ys, bs, rfl, _⟩ := h
    rfl
  · obtain ⟨a, ys, bs, rfl, hx, hG, k⟩ := h
    refine ⟨_, (pss_cons (ps_setDc (i := 1) (own := [("word", 2)]) (tt := tYes) (by rfl) sc_census.nd rfl rfl (swd_true rfl rfl rfl (by decide +kernel)) (pi_tup (pe_glob (v := .ref A.WORDS) rfl T.g_WORDS rfl)) (blkOk_by (own := [("word", 2)]) (N := N_census) (sc := defScope s_census) (by decide +kernel)) (fun _ _ _ _ _ => (pg_name (i := 2) sc_census.nd rfl (Or.inl rfl))) (fun _ _ _ _ _ => pts_nil) (fun _ _ _ _ _ => (pv 2)) (fun _ _ _ _ _ => pe_int))
      (pss_cons (ps_for PassesOwn.never rfl (pi_list (pe_call G_pieces (hr.mono (by decide)) (by rfl) T.g_pieces T.k_pieces b_pieces .nil pass0 (pa_cons (pv 0) pa_nil))) (pg_tup (by rfl) (pgs_cons (pg_name (i := 2) sc_census.nd rfl (Or.inl rfl)) (pgs_cons (pg_name (i := 3) sc_census.nd rfl (Or.inl rfl)) pgs_nil))) (pss_one (ps_daug (hu_of hr) (pv 1) (pv 2) pe_int in_add (fun _ _ _ => rfl))))
      (pss_one (ps_ret (pv 1))))), ?_⟩
    have hB := hG.built
    have h64 := hG.few
    refine ⟨A.WORDS, rfl, ⟨_, T.w_WORDS _⟩, fun D hD => dc_tup (K := K) (a := A.WORDS) (xs := wordsV) (fun j H' => Ex H H' ∧ H' D = some (.dK (cenK (cnt []) j))) ⟨Ex.new hD, upd_same⟩ (fun j H' _ q => T.w_WORDS _) ?_ ?_⟩
    · rintro i y H' hi ⟨ef, hd⟩
      obtain ⟨h8, rfl⟩ := words_at hi
      refine ⟨rfl, _, rfl, _, Sum.inr (word i), rfl, hd, small1000 (by unfold cenK; rw [List.length_map, List.length_range]; omega), fun b o hb => ?_, ?_⟩
      · rw [upd_ne (ne_of_none hb hD)]
        exact ef b o hb
      · rw [upd_same]
        exact congrArg (fun z => some (HO.dK z)) (cen_new (f := cnt []) h8)
    rintro H1 ⟨e1, h1⟩
    refine ⟨_, rfl, a, ys, bs, rfl, hx.ex e1, hG, fun p H2 hp e2 ⟨qs, hP, hql, hqa⟩ => ?_⟩
    have hpD : p ≠ D := fun z => by
      rw [z, h1] at hp
      cases hp
    have h2 := e2 D _ h1
    have e12 := e1.trans e2
    refine ⟨p, rfl, ⟨_, SqL.of hP⟩, for_list (K := K) (a := p) (xs := qs.map V.ref) (fun i σ H' => ∃ v2 v3 : Option V, σ = [some (.ref a), some (.ref D), v2, v3] ∧ Mut D H2 H' ∧ H' D = some (.dK (cenK (cnt (bs.take i)) 8)))
      ⟨none, none, rfl, Mut.refl D H2, h2⟩ (fun i σ H' _ ⟨_, _, _, M, _⟩ => SqL.of (M p _ hpD hP)) ?_ ?_⟩
    · rintro i x σ H' hi ⟨v2, v3, rfl, M, hd⟩
      rw [List.getElem?_map] at hi
      cases hgi : qs[i]? with
      | none => rw [hgi] at hi; cases hi
      | some q =>
      rw [hgi] at hi
      injection hi with hi
      subst hi
      have hib : i < bs.length := by rw [← hql]; exact (List.getElem?_eq_some_iff.mp hgi).1
      have hbi : bs[i]? = some bs[i] := List.getElem?_eq_getElem hib
      obtain ⟨t, hq1, hq2⟩ := hqa i q bs[i] hgi hbi
      have hw8 := (hB.blk _ (List.getElem_mem hib)).w
      have hqD : q ≠ D := fun z => by
        rw [z, h2] at hq1
        cases hq1
      refine ⟨q, _, rfl, SqT.of (M q _ hqD hq1), rfl, _, _, rfl, _, _, rfl, rfl, ?_⟩
      have hc := cnt_le (bs := bs.take i) (x := bs[i].1)
      have hd2 : DGet H' D (V.str (word bs[i].1)) (some (V.int (cnt (bs.take i) bs[i].1 : Nat))) := .inl ⟨_, Sum.inr (word bs[i].1), .inl hd, rfl, (cen_val hw8).symm⟩
      refine ⟨_, rfl, _, rfl, D, _, rfl, hd2, _, _, rfl, rfl, ?_⟩
      have e5 : (cnt (bs.take i) bs[i].1 : Int) + 1 = ((cnt (bs.take i) bs[i].1 + 1 : Nat) : Int) := by omega
      rw [e5]
      refine ⟨_, .inl ⟨_, Sum.inr (word bs[i].1), hd, rfl, small1000 (by unfold cenK; rw [List.length_map, List.length_range]; omega), rfl⟩, _, _, rfl, M.upd, ?_⟩
      rw [upd_same, cen_put hw8 (fun x _ => cnt_more hbi x)]
    · rintro σ H' ⟨v2, v3, rfl, M, hd⟩
      rw [List.length_map, hql, List.take_length] at hd
      exact ⟨_, rfl, k D H' hD (fun b o hb => M b o (fun z => by rw [z, hD] at hb; cases hb) (e12 b o hb)) hd⟩

end

section
variable {P : Program} {w : World} {K : PySem.W.Frag} {mg : Str → Option Value} {base : Heap} {A : Ad}
theorem All2.app {H : Hp} {p q : Addr} {cs : List Bk} {b : Bk} (h : All2 PieceAt H p cs) (hq : PieceAt H q b) : ∃ qs : List Addr, H p = some (.lst (qs.map V.ref)) ∧ qs.length = cs.length ∧ All2 PieceAt (upd H p (.lst (qs.map V.ref ++ [V.ref q]))) p (cs ++ [b]) := by
  obtain ⟨qs, h1, h2, h3⟩ := h
  have S : Some2 PieceAt H p (cs ++ [b]) cs.length := ⟨qs, h1, h2, fun j r c hr hc => by
    have hj : j < cs.length := by rw [← h2]; exact (List.getElem?_eq_some_iff.mp hr).1
    rw [List.getElem?_append_left hj] at hc
    exact h3 j r c hr hc⟩
  obtain ⟨qs', g1, g2, g3⟩ := S.more hq (by rw [List.getElem?_append_right (Nat.le_refl _), Nat.sub_self]; rfl)
  refine ⟨qs', g1, g2, ?_⟩
  have := Some2.all (bs := cs ++ [b]) (by rw [List.length_append]; exact g3)
  exact this
theorem All2.ex {H H1 : Hp} {p : Addr} {bs : List Bk} (e : Ex H H1) (h : All2 PieceAt H p bs) : All2 PieceAt H1 p bs := by
  obtain ⟨qs, h1, h2, h3⟩ := h
  exact ⟨qs, e _ _ h1, h2, fun j q b x y => (h3 j q b x y).ex e⟩
theorem takeB {α : Type} {xs : List α} {j : Nat} {b : α} (h : xs[j]? = some b) : xs.take (j + 1) = xs.take j ++ [b] := by
  rw [List.take_add_one, h]
  rfl
theorem takeBq {α : Type} {xs : List α} {j : Nat} {b : α} (h : xs[j]? = some b) (q : α → Bool) : (xs.take (j + 1)).filter q = (xs.take j).filter q ++ (if q b = true then [b] else []) := by
  rw [takeB h, List.filter_append, List.filter_cons]
  rfl
theorem whole_in {w : Nat} (h : w < 8) : (!inV (V.str (word w)) [.str "free", .str "pair"]) = decide (1 < w) := by
  rcases w with _ | _ | _ | _ | _ | _ | _ | _ | w
  all_goals first | decide +kernel | omega
theorem ok_torn_pieces (T : Txt K mg A)  (g_pieces : Okd P w K mg base CX0 3 A.pieces P_pieces spPi) : Okd P w K mg base CX0 4 A.torn_pieces P_torn_pieces spTorn := by
  obtain ⟨fd, F⟩ := T.d_torn_pieces
  obtain ⟨fd_pieces, G_pieces, b_pieces⟩ := g_pieces
  refine ⟨fd, F.ok sc_torn_pieces (fun vs H Q E h => ?_) (fun cdv A' outer s H vs Q E hr h => ?_), F.binds fun _ _ _ _ _ _ us hl => match us, hl with | [_], _ => rfl⟩
  · obtain ⟨a, ys, bs, rfl, _⟩ := h
    rfl
  · obtain ⟨a, ys, bs, rfl, hx, hG, k⟩ := h
    refine ⟨_, (pss_one (ps_ret (pe_lc (own := [("piece", 1)]) (tt := _) (by rfl) sc_torn_pieces.nd (pi_list (pe_call G_pieces (hr.mono (by decide)) (by rfl) T.g_pieces T.k_pieces b_pieces .nil pass0 (pa_cons (pv 0) pa_nil))) (blkOk_by (own := [("piece", 1)]) (N := N_torn_pieces) (sc := defScope s_torn_pieces) (by decide +kernel)) (fun _ _ _ _ _ => (pg_name (i := 1) sc_torn_pieces.nd rfl (Or.inl rfl))) (fun _ _ _ _ _ => (pts_one (pt_cmpR (op_notInK (K := K) rfl) (pe_ix (ix_tupK (K := K) rfl) (pv 1) pe_int (fun _ _ => rfl)) (pe_glob (v := .ref A.WHOLE) rfl T.g_WHOLE rfl) (by with_unfolding_all rfl)))) (fun _ _ _ _ _ => (pv 1))))), ?_⟩
    have hB := hG.built
    have h64 := hG.few
    refine ⟨_, rfl, a, ys, bs, rfl, hx, hG, fun p H1 hp e1 ⟨qs, hP, hql, hqa⟩ => ?_⟩
    refine ⟨p, rfl, ⟨_, SqL.of hP⟩, fun D hD => lc_list (K := K) (a := p) (xs := qs.map V.ref) (fun j H' => Ex H1 H' ∧ All2 PieceAt H' D ((bs.take j).filter fun b => decide (1 < b.1))) ⟨Ex.new hD, ⟨[], upd_same, rfl, fun j q b h => by simp at h⟩⟩ (fun j H' _ q => SqL.of (q.1 p _ hP)) ?_ ?_⟩
    · rintro i y H' hi ⟨ef, hd⟩
      rw [List.getElem?_map] at hi
      cases hgi : qs[i]? with
      | none => rw [hgi] at hi; cases hi
      | some q =>
      rw [hgi] at hi
      injection hi with hi
      subst hi
      have hib : i < bs.length := by rw [← hql]; exact (List.getElem?_eq_some_iff.mp hgi).1
      have hbi : bs[i]? = some bs[i] := List.getElem?_eq_getElem hib
      have hq := (hqa i q bs[i] hgi hbi).ex ef
      have hw8 := (hB.blk _ (List.getElem_mem hib)).w
      obtain ⟨t, hq1, hq2⟩ := hq
      refine ⟨rfl, _, rfl, _, _, _, _, rfl, rfl, SqT.of hq1, rfl, _, _, rfl, Or.inr (T.w_WHOLE _), rfl, rfl, _, rfl, ?_⟩
      show if (!inV _ _) = true then _ else _
      rw [whole_in hw8, takeBq hbi]
      refine ite_b (fun c => ?_) (fun c => ?_)
      · rw [if_pos c]
        obtain ⟨qs', g1, g2, g3⟩ := hd.app (q := q) (b := bs[i]) ⟨t, hq1, hq2⟩
        refine ⟨_, rfl, _, g1, small1000 (by rw [List.length_map, g2]; have := List.length_filter_le (fun b : Bk => decide (1 < b.1)) (bs.take i); rw [List.length_take] at this; omega), fun b o hb => ?_, g3⟩
        rw [upd_ne (ne_of_none hb hD)]
        exact ef b o hb
      · rw [if_neg (by rw [c]; decide), List.append_nil]
        exact ⟨ef, hd⟩
    · rintro H' ⟨ef, hd⟩
      rw [List.length_map, hql, List.take_length] at hd
      exact k D H' (fresh_back e1 hD) (e1.trans ef) hd

end

section
variable {P : Program} {w : World} {K : PySem.W.Frag} {mg : Str → Option Value} {base : Heap} {A : Ad}
theorem ok_law_bag (T : Txt K mg A)   : Okd P w K mg base CX0 1 A.law_bag P_law_bag (spBag K) := by
  obtain ⟨fd, F⟩ := T.d_law_bag

  refine ⟨fd, F.ok sc_law_bag (fun vs H Q E h => ?_) (fun cdv A' outer s H vs Q E hr h => ?_), F.binds fun _ _ _ _ _ _ us hl => match us, hl with | [_], _ => rfl⟩
  · obtain ⟨a, ns, rfl, _⟩ := h
    rfl
  · obtain ⟨a, ns, rfl, hS, k⟩ := h
    refine ⟨_, (pss_cons (ps_set (i := 1) sc_law_bag.nd rfl (Or.inl rfl) pe_int)
      (pss_cons (ps_set (i := 2) sc_law_bag.nd rfl (Or.inl rfl) pe_int)
      (pss_cons (ps_set (i := 3) sc_law_bag.nd rfl (Or.inl rfl) pe_int)
      (pss_cons (ps_for PassesOwn.never rfl (pi_list (pv 0)) (pg_name (i := 4) sc_law_bag.nd rfl (Or.inl rfl)) (pss_cons (ps_if (PW.pt (pw_and (pt_cmpR op_eq (pv 1) pe_int (nomark _)) (pw_and1 (pt_cmpR op_ge (pv 4) (pe_op op_pow pe_int pe_int) (nomark _))))) (pss_one (ps_set (i := 1) sc_law_bag.nd rfl (Or.inl rfl) (pv 4))) pss_nil)
      (pss_cons (ps_set (i := 2) sc_law_bag.nd rfl (Or.inl rfl) (pe_op op_mod (pe_callTy call_int1 (by rfl) T.n_int (by decide +kernel) (pa_cons (pe_op op_add (pe_op op_add (pe_op op_mul (pv 2) pe_int) (pe_op op_mod (pe_callTy call_int1 (by rfl) T.n_int (by decide +kernel) (pa_cons (pv 4) pa_nil)) pe_int)) pe_int) pa_nil)) pe_int))
      (pss_one (ps_set (i := 3) sc_law_bag.nd rfl (Or.inl rfl) (pe_op op_mod (pe_callTy call_int1 (by rfl) T.n_int (by decide +kernel) (pa_cons (pe_op op_add (pe_op op_add (pe_op op_mul (pv 3) pe_int) (pe_op op_mod (pe_callTy call_int1 (by rfl) T.n_int (by decide +kernel) (pa_cons (pv 4) pa_nil)) pe_int)) pe_int) pa_nil)) pe_int))))))
      (pss_one (ps_ret (pe_lst (pa_cons (pv 1) (pa_cons (pv 2) (pa_cons (pv 3) pa_nil)))))))))), ?_⟩
    walk_at "r"
    refine ⟨⟨_, hS⟩, for_list (K := K) (a := a) (xs := ns.map V.int) (fun i σ H' => H' = H ∧ ∃ (g f s : Int) (v : Option V), BagOk g f s ∧ σ = [some (.ref a), some (.int g), some (.int f), some (.int s), v]) ⟨rfl, 0, 5, 157, none, ⟨by decide, by decide, by decide, by decide, by decide⟩, rfl⟩ (fun i σ H' _ ⟨e, _⟩ => e ▸ hS) ?_ ?_⟩
    · rintro i y σ H' hi ⟨rfl, g, f, s', v, B, rfl⟩
      obtain ⟨z, hz, rfl⟩ := int_at hi
      have fin : ∀ g' : Int, 0 ≤ g' → BagOk g' ((f * 48271 + z % 1000003 + 1) % 2147483647) ((s' * 69621 + z % 998244353 + 3) % 2147483629) := fun g' h => ⟨h, by omega, by omega, by omega, by omega⟩
      walk_at "r"
      refine ite_b (fun c => ?_) (fun c => ?_)
      · walk_at "r"
        refine ite_b (fun c2 => ?_) (fun c2 => ?_)
        all_goals
          walk_at "r"
        · exact ⟨_, _, _, _, fin _ (by have q := of_decide_eq_true c2; have e : (10 : Int) ^ Int.toNat 18 = 1000000000000000000 := (by decide); omega), rfl⟩
        · exact ⟨_, _, _, _, fin _ B.g0, rfl⟩
      · refine iteF ?_
        walk_at "r"
        exact ⟨_, _, _, _, fin _ B.g0, rfl⟩
    · rintro σ H' ⟨rfl, g, f, s', v, B, rfl⟩
      walk_at "r"
      exact ⟨by show 3 ≤ sizeLine; decide, fun p hp => k p _ _ _ hp B⟩

end

section
variable {P : Program} {w : World} {K : PySem.W.Frag} {mg : Str → Option Value} {base : Heap} {A : Ad}
theorem ok_law_take (T : Txt K mg A)   : Okd P w K mg base CX0 1 A.law_take P_law_take spTake := by
  obtain ⟨fd, F⟩ := T.d_law_take

  refine ⟨fd, F.ok sc_law_take (fun vs H Q E h => ?_) (fun cdv A' outer s H vs Q E hr h => ?_), F.binds fun _ _ _ _ _ _ us hl => match us, hl with | [_, _], _ => rfl⟩
  · obtain ⟨b, n, rfl, _⟩ := h
    rfl
  · obtain ⟨b, n, rfl, hn, hn2, B, k⟩ := h
    refine ⟨_, (pss_cons (ps_if (pt_cmpR op_gt (pe_ix ix_list (pv 0) pe_int (fun _ _ => rfl)) pe_int (nomark _)) (pss_cons (ps_set (i := 2) sc_law_take.nd rfl (Or.inl rfl) (pe_op op_mod (pe_callTy call_int1 (by rfl) T.n_int (by decide +kernel) (pa_cons (pe_ix ix_list (pv 0) pe_int (fun _ _ => rfl)) pa_nil)) (pv 1)))
      (pss_cons (ps_asg (pe_op op_fdivW (pe_ix ix_list (pv 0) pe_int (fun _ _ => rfl)) (pv 1)) (pg_sub (pv 0) pe_int set_list))
      (pss_one (ps_ret (pv 2))))) pss_nil)
      (pss_cons (ps_asg (pe_op op_mod (pe_callTy call_int1 (by rfl) T.n_int (by decide +kernel) (pa_cons (pe_op op_add (pe_op op_mul (pe_ix ix_list (pv 0) pe_int (fun _ _ => rfl)) pe_int) pe_int) pa_nil)) pe_int) (pg_sub (pv 0) pe_int set_list))
      (pss_cons (ps_asg (pe_op op_mod (pe_callTy call_int1 (by rfl) T.n_int (by decide +kernel) (pa_cons (pe_op op_add (pe_op op_mul (pe_ix ix_list (pv 0) pe_int (fun _ _ => rfl)) pe_int) (pe_ix ix_list (pv 0) pe_int (fun _ _ => rfl))) pa_nil)) pe_int) (pg_sub (pv 0) pe_int set_list))
      (pss_one (ps_ret (pe_op op_mod (pe_callTy call_int1 (by rfl) T.n_int (by decide +kernel) (pa_cons (pe_op op_fdivW (pe_ix ix_list (pv 0) pe_int (fun _ _ => rfl)) pe_int) pa_nil)) (pv 1))))))), ?_⟩
    obtain ⟨g, f, s', hb, B⟩ := B
    have hbs : (bagL g f s').length = 3 := rfl
    walk_at "r"
    refine ite_b (fun c => ?_) (fun c => ?_)
    · walk_at "r"
      have c' := of_decide_eq_true c
      exact k _ _ (Int.emod_nonneg _ (by omega)) (Int.emod_lt_of_pos _ hn) ⟨_, _, _, upd_same, Int.ediv_nonneg B.g0 (by omega), B.f0, B.f1, B.s0, B.s1⟩ (Mut.upd (Mut.refl _ _))
    · walk_at "r"
      exact k _ _ (Int.emod_nonneg _ (by omega)) (Int.emod_lt_of_pos _ hn) ⟨_, _, _, upd_same, B.g0, by omega, by omega, by omega, by omega⟩ (Mut.upd (Mut.upd (Mut.refl _ _)))

end

section
variable {P : Program} {w : World} {K : PySem.W.Frag} {mg : Str → Option Value} {base : Heap} {A : Ad}
def spPerm : Sp := fun vs H Q _ => ∃ (b : Addr) (n : Nat), vs = [.ref b, .int (n : Int)] ∧ n ≤ 64 ∧ Bag H b ∧ ∀ (p : Addr) (ms : List Nat) H', H p = none → p ≠ b → ms.Perm (List.range n) → ListN H' p ms → Bag H' b → Mut b H H' → Q (.ref p) H'
theorem rgN (n : Nat) : rgV 0 (n : Int) = nI (List.range n) := by
  rw [rgV_map, List.map_map]
  rfl
theorem cons_erase : ∀ {l : List Nat} {i : Nat} (h : i < l.length), (l[i] :: l.eraseIdx i).Perm l
  | a :: l, 0, _ => List.Perm.refl _
  | a :: l, i + 1, h => (List.Perm.swap a (l[i]'(by simpa using h)) (l.eraseIdx i)).trans (List.Perm.cons a (cons_erase (by simpa using h)))
theorem nI_erase {xs : List Nat} {j : Nat} : (nI xs).eraseIdx j = nI (xs.eraseIdx j) := map_erase _ xs j
theorem ok_law_order (T : Txt K mg A)  (g_law_take : Okd P w K mg base CX0 1 A.law_take P_law_take spTake) : Okd P w K mg base CX0 3 A.law_order P_law_order spPerm := by
  obtain ⟨fd, F⟩ := T.d_law_order
  obtain ⟨fd_law_take, G_law_take, b_law_take⟩ := g_law_take
  refine ⟨fd, F.ok sc_law_order (fun vs H Q E h => ?_) (fun cdv A' outer s H vs Q E hr h => ?_), F.binds fun _ _ _ _ _ _ us hl => match us, hl with | [_, _], _ => rfl⟩
  · obtain ⟨b, n, rfl, _⟩ := h
    rfl
  · obtain ⟨b, n, rfl, hn2, B, k⟩ := h
    refine ⟨_, (pss_cons (ps_set (i := 2) sc_law_order.nd rfl (Or.inl rfl) (pe_listRg (by rfl) (by rfl) T.n_list (prg_1 (by rfl) T.n_range (pv 1))))
      (pss_cons (ps_set (i := 3) sc_law_order.nd rfl (Or.inl rfl) (pe_lst pa_nil))
      (pss_cons (ps_for PassesOwn.never rfl (pi_range1 (by rfl) T.n_range (pa_cons (pv 1) pa_nil)) (pg_name (i := 4) sc_law_order.nd rfl (Or.inl rfl)) (pss_one (ps_expr (pe_bm PySem.F.plainAttrs_list PySem.F.slot_list_append PySem.F.type_list_append mt_append (pv 3) (pa_cons (pe_bm PySem.F.plainAttrs_list PySem.F.slot_list_pop PySem.F.type_list_pop mt_popAt (pv 2) (pa_cons (pe_call G_law_take (hr.mono (by decide)) (by rfl) T.g_law_take T.k_law_take b_law_take .nil pass0 (pa_cons (pv 0) (pa_cons (pe_op op_sub (pv 1) (pv 4)) pa_nil))) pa_nil)) pa_nil)))))
      (pss_one (ps_ret (pv 3)))))), ?_⟩
    walk_at "r"
    refine ⟨RgOk.of_le (by decide) (by omega) (by decide) (by omega), fun sp hsp => ?_⟩
    walk_at "r"
    refine ⟨by decide, fun od hod => ?_⟩
    have nsb : sp ≠ b := B.ne hsp
    have nos : od ≠ sp := fun e => by rw [e, upd_same] at hod; cases hod
    have hod' : H od = none := by rw [upd_ne nos] at hod; exact hod
    have nob : od ≠ b := B.ne hod'
    walk_at "r"
    have h2 : ListN (upd (upd H sp (.lst (rgV 0 (n : Int)))) od (.lst [])) sp (List.range n) := by
      show (upd (upd H sp _) od _) sp = _
      rw [upd_ne (Ne.symm nos), upd_same, rgN]
    refine ⟨by omega, by omega, for_range (lo := 0) (n := n) (fun i σ H' => ∃ (xs ys : List Nat) (v : Option V), σ = [some (.ref b), some (.int n), some (.ref sp), some (.ref od), v] ∧ ys.length = i ∧ (ys ++ xs).Perm (List.range n) ∧ ListN H' sp xs ∧ ListN H' od ys ∧ Bag H' b ∧ Mut b H H')
      ⟨List.range n, [], none, rfl, rfl, List.Perm.refl _, h2, upd_same, B.keep fun o e => (by rw [upd_ne (Ne.symm nob), upd_ne (Ne.symm nsb)]; exact e), ((Mut.refl _ _).new hsp).new hod⟩ ?_ ?_⟩
    · rintro i σ H' hi ⟨xs, ys, v, rfl, hy, hpm, hx, hyy, B', M'⟩
      have hlen : ys.length + xs.length = n := by
        have := hpm.length_eq
        rw [List.length_append, List.length_range] at this
        exact this
      refine ⟨_, rfl, Or.inl ⟨rfl, _, hyy.sz⟩, _, rfl, Or.inl ⟨rfl, _, hx.sz⟩, _, rfl, _, rfl, _, rfl, _, _, rfl, rfl, b, _, rfl, by omega, by omega, B', fun d H1 h0 h1 B1 M1 => ?_⟩
      obtain ⟨j, rfl⟩ := Int.eq_ofNat_of_zero_le h0
      have hj : j < xs.length := by omega
      have hj2 : j < (nI xs).length := by rw [nI_len]; exact hj
      have hx1 : ListN H1 sp xs := M1 _ _ nsb hx
      have hy1 : ListN H1 od ys := M1 _ _ nob hyy
      refine ⟨_, _, _, j, _, rfl, rfl, hx1, by omega, by omega, (ixN_seq (Evl.ixN_nat hj2)).1, ixN_ hj, ?_⟩
      refine ⟨_, _, _, rfl, rfl, (by rw [upd_ne nos]; exact hy1), small1000 (by rw [nI_len]; omega), ?_⟩
      refine ⟨xs.eraseIdx j, ys ++ [xs.getD j 0], _, rfl, by rw [List.length_append, hy]; rfl, ?_, ?_, ?_, ?_, ?_⟩
      · refine List.Perm.trans ?_ hpm
        rw [List.append_assoc]
        refine List.Perm.append_left ys ?_
        show (xs.getD j 0 :: xs.eraseIdx j).Perm xs
        have e : xs.getD j 0 = xs[j] := by rw [List.getD_eq_getElem?_getD, List.getElem?_eq_getElem hj]; rfl
        rw [e]
        exact cons_erase hj
      · show (upd (upd H1 sp _) od _) sp = _
        rw [upd_ne (Ne.symm nos), upd_same, nI_erase]
      · show (upd (upd H1 sp _) od _) od = _
        rw [upd_same, nI_app]
      · exact B1.keep fun o e => by rw [upd_ne (Ne.symm nob), upd_ne (Ne.symm nsb)]; exact e
      · intro a o ha e
        have e1 := M1 _ _ ha (M' a o ha e)
        rw [upd_ne (ne_of_none e hod'), upd_ne (ne_of_none e hsp)]
        exact e1
    · rintro σ H' ⟨xs, ys, v, rfl, hy, hpm, hx, hyy, B', M'⟩
      walk_at "r"
      have hlen := hpm.length_eq
      rw [List.length_append, List.length_range] at hlen
      have : xs = [] := List.length_eq_zero_iff.mp (by omega)
      subst this
      rw [List.append_nil] at hpm
      exact k _ _ _ hod' nob hpm hyy B' M'

end

section
variable {P : Program} {w : World} {K : PySem.W.Frag} {mg : Str → Option Value} {base : Heap} {A : Ad}
def spWords : Sp := fun vs H Q _ => vs = [] ∧ ∀ p, H p = none → Q (.ref p) (upd H p (.tup wordsV))
theorem ok_law_words (T : Txt K mg A)   : Okd P w K mg base CX0 1 A.law_words P_law_words spWords := by
  obtain ⟨fd, F⟩ := T.d_law_words

  refine ⟨fd, F.ok sc_law_words (fun vs H Q E h => ?_) (fun cdv A' outer s H vs Q E hr h => ?_), F.binds fun _ _ _ _ _ _ us hl => match us, hl with | [], _ => rfl⟩
  · obtain ⟨rfl, _⟩ := h
    rfl
  · obtain ⟨rfl, k⟩ := h
    refine ⟨_, (pss_one (ps_ret (pe_tup (pa_cons pe_str (pa_cons pe_str (pa_cons pe_str (pa_cons pe_str (pa_cons pe_str (pa_cons pe_str (pa_cons pe_str (pa_cons pe_str pa_nil))))))))))), ?_⟩
    exact ⟨(by show 8 ≤ sizeLine; decide), fun p hp => k p hp⟩

end

section
variable {P : Program} {w : World} {K : PySem.W.Frag} {mg : Str → Option Value} {base : Heap} {A : Ad}
def spForm : Sp := fun vs H Q _ => ∃ w : Nat, vs = [.int (w : Int)] ∧ w < 8 ∧ ∀ p H', H p = none → Ex H H' → H' p = some (.tup (nI (form w))) → Q (.ref p) H'
theorem ok_law_pattern (T : Txt K mg A)   : Okd P w K mg base CX0 1 A.law_pattern P_law_pattern spForm := by
  obtain ⟨fd, F⟩ := T.d_law_pattern

  refine ⟨fd, F.ok sc_law_pattern (fun vs H Q E h => ?_) (fun cdv A' outer s H vs Q E hr h => ?_), F.binds fun _ _ _ _ _ _ us hl => match us, hl with | [_], _ => rfl⟩
  · obtain ⟨w, rfl, _⟩ := h
    rfl
  · obtain ⟨w, rfl, hw, k⟩ := h
    refine ⟨_, (pss_cons (ps_set (i := 1) sc_law_pattern.nd rfl (Or.inl rfl) (pe_lst (pa_cons (pe_tup (pa_cons pe_int pa_nil)) (pa_cons (pe_tup (pa_cons pe_int (pa_cons pe_int pa_nil))) (pa_cons (pe_tup (pa_cons pe_int (pa_cons pe_int pa_nil))) (pa_cons (pe_tup (pa_cons pe_int (pa_cons pe_int (pa_cons pe_int pa_nil)))) (pa_cons (pe_tup (pa_cons pe_int (pa_cons pe_int (pa_cons pe_int pa_nil)))) (pa_cons (pe_tup (pa_cons pe_int (pa_cons pe_int (pa_cons pe_int (pa_cons pe_int pa_nil))))) (pa_cons (pe_tup (pa_cons pe_int (pa_cons pe_int (pa_cons pe_int (pa_cons pe_int pa_nil))))) (pa_cons (pe_tup (pa_cons pe_int (pa_cons pe_int (pa_cons pe_int (pa_cons pe_int pa_nil))))) pa_nil))))))))))
      (pss_one (ps_ret (pe_ix ix_list (pv 1) (pv 0) (fun _ _ => rfl))))), ?_⟩
    refine ⟨(by first | (show 1 ≤ sizeLine; decide) | (show 2 ≤ sizeLine; decide) | (show 3 ≤ sizeLine; decide) | (show 4 ≤ sizeLine; decide)), fun p0 h0 => ?_⟩
    refine ⟨(by first | (show 1 ≤ sizeLine; decide) | (show 2 ≤ sizeLine; decide) | (show 3 ≤ sizeLine; decide) | (show 4 ≤ sizeLine; decide)), fun p1 h1 => ?_⟩
    refine ⟨(by first | (show 1 ≤ sizeLine; decide) | (show 2 ≤ sizeLine; decide) | (show 3 ≤ sizeLine; decide) | (show 4 ≤ sizeLine; decide)), fun p2 h2 => ?_⟩
    refine ⟨(by first | (show 1 ≤ sizeLine; decide) | (show 2 ≤ sizeLine; decide) | (show 3 ≤ sizeLine; decide) | (show 4 ≤ sizeLine; decide)), fun p3 h3 => ?_⟩
    refine ⟨(by first | (show 1 ≤ sizeLine; decide) | (show 2 ≤ sizeLine; decide) | (show 3 ≤ sizeLine; decide) | (show 4 ≤ sizeLine; decide)), fun p4 h4 => ?_⟩
    refine ⟨(by first | (show 1 ≤ sizeLine; decide) | (show 2 ≤ sizeLine; decide) | (show 3 ≤ sizeLine; decide) | (show 4 ≤ sizeLine; decide)), fun p5 h5 => ?_⟩
    refine ⟨(by first | (show 1 ≤ sizeLine; decide) | (show 2 ≤ sizeLine; decide) | (show 3 ≤ sizeLine; decide) | (show 4 ≤ sizeLine; decide)), fun p6 h6 => ?_⟩
    refine ⟨(by first | (show 1 ≤ sizeLine; decide) | (show 2 ≤ sizeLine; decide) | (show 3 ≤ sizeLine; decide) | (show 4 ≤ sizeLine; decide)), fun p7 h7 => ?_⟩
    refine ⟨(by show 8 ≤ sizeLine; decide), fun l hl => ?_⟩
    rcases w with _ | _ | _ | _ | _ | _ | _ | _ | w
    · exact ⟨_, rfl, _, rfl, _, _, _, _, rfl, rfl, SqL.of upd_same, rfl, k p0 _ (fresh_back (show Ex H _ from by walk_at "ex") h0) (by walk_at "ex") ((show Ex (upd _ p0 (.tup (nI (form 0)))) _ from by walk_at "ex") _ _ upd_same)⟩
    · exact ⟨_, rfl, _, rfl, _, _, _, _, rfl, rfl, SqL.of upd_same, rfl, k p1 _ (fresh_back (show Ex H _ from by walk_at "ex") h1) (by walk_at "ex") ((show Ex (upd _ p1 (.tup (nI (form 1)))) _ from by walk_at "ex") _ _ upd_same)⟩
    · exact ⟨_, rfl, _, rfl, _, _, _, _, rfl, rfl, SqL.of upd_same, rfl, k p2 _ (fresh_back (show Ex H _ from by walk_at "ex") h2) (by walk_at "ex") ((show Ex (upd _ p2 (.tup (nI (form 2)))) _ from by walk_at "ex") _ _ upd_same)⟩
    · exact ⟨_, rfl, _, rfl, _, _, _, _, rfl, rfl, SqL.of upd_same, rfl, k p3 _ (fresh_back (show Ex H _ from by walk_at "ex") h3) (by walk_at "ex") ((show Ex (upd _ p3 (.tup (nI (form 3)))) _ from by walk_at "ex") _ _ upd_same)⟩
    · exact ⟨_, rfl, _, rfl, _, _, _, _, rfl, rfl, SqL.of upd_same, rfl, k p4 _ (fresh_back (show Ex H _ from by walk_at "ex") h4) (by walk_at "ex") ((show Ex (upd _ p4 (.tup (nI (form 4)))) _ from by walk_at "ex") _ _ upd_same)⟩
    · exact ⟨_, rfl, _, rfl, _, _, _, _, rfl, rfl, SqL.of upd_same, rfl, k p5 _ (fresh_back (show Ex H _ from by walk_at "ex") h5) (by walk_at "ex") ((show Ex (upd _ p5 (.tup (nI (form 5)))) _ from by walk_at "ex") _ _ upd_same)⟩
    · exact ⟨_, rfl, _, rfl, _, _, _, _, rfl, rfl, SqL.of upd_same, rfl, k p6 _ (fresh_back (show Ex H _ from by walk_at "ex") h6) (by walk_at "ex") ((show Ex (upd _ p6 (.tup (nI (form 6)))) _ from by walk_at "ex") _ _ upd_same)⟩
    · exact ⟨_, rfl, _, rfl, _, _, _, _, rfl, rfl, SqL.of upd_same, rfl, k p7 _ (fresh_back (show Ex H _ from by walk_at "ex") h7) (by walk_at "ex") ((show Ex (upd _ p7 (.tup (nI (form 7)))) _ from by walk_at "ex") _ _ upd_same)⟩
    · omega

end

section
variable {P : Program} {w : World} {K : PySem.W.Frag} {mg : Str → Option Value} {base : Heap} {A : Ad}
theorem idx_le : ∀ {l : List Nat} {j x : Nat} (h : j < l.length), l[j] = x → l.idxOf x ≤ j
  | a :: l, 0, x, h, e => by
    have e : a = x := e
    subst e
    rw [List.idxOf_cons_self]
    exact Nat.le_refl _
  | a :: l, j + 1, x, h, e => by
    have e : l[j]'(by simpa using h) = x := e
    have ih := idx_le (by simpa using h) e
    rw [List.idxOf_cons]
    by_cases c : a == x
    · rw [c]
      exact Nat.zero_le _
    · rw [Bool.eq_false_iff.mpr c]
      exact Nat.succ_le_succ ih
def spCanon : Sp := fun vs H Q _ => ∃ (m : Addr) (w : Nat) (ms : List Nat), vs = [.int (w : Int), .ref m] ∧ w < 8 ∧ ListN H m ms ∧ ms.length = (form w).length ∧ ∀ r H', Ex H H' → ListN H' r (canon w ms) → Q (.ref r) H'
theorem ok_law_canonical (T : Txt K mg A)   : Okd P w K mg base CX0 1 A.law_canonical P_law_canonical spCanon := by
  obtain ⟨fd, F⟩ := T.d_law_canonical

  refine ⟨fd, F.ok sc_law_canonical (fun vs H Q E h => ?_) (fun cdv A' outer s H vs Q E hr h => ?_), F.binds fun _ _ _ _ _ _ us hl => match us, hl with | [_, _], _ => rfl⟩
  · obtain ⟨m, u, ms, rfl, _⟩ := h
    rfl
  · obtain ⟨m, u, ms, rfl, hw, hm, hl, k⟩ := h
    refine ⟨_, (pss_cons (ps_if (PW.pt (pw_and (pt_cmpR op_eq (pv 0) pe_int (nomark _)) (pw_and1 (pt_cmpR op_gt (pe_ix ix_list (pv 1) pe_int (fun _ _ => rfl)) (pe_ix ix_list (pv 1) pe_int (fun _ _ => rfl)) (nomark _))))) (pss_one (ps_ret (pe_lst (pa_cons (pe_ix ix_list (pv 1) pe_int (fun _ _ => rfl)) (pa_cons (pe_ix ix_list (pv 1) pe_int (fun _ _ => rfl)) pa_nil))))) pss_nil)
      (pss_cons (ps_if (PW.pt (pw_and (pt_cmpR op_eq (pv 0) pe_int (nomark _)) (pw_and1 (pt_cmpR op_gt (pe_ix ix_list (pv 1) pe_int (fun _ _ => rfl)) (pe_ix ix_list (pv 1) pe_int (fun _ _ => rfl)) (nomark _))))) (pss_one (ps_ret (pe_lst (pa_cons (pe_ix ix_list (pv 1) pe_int (fun _ _ => rfl)) (pa_cons (pe_ix ix_list (pv 1) pe_int (fun _ _ => rfl)) (pa_cons (pe_ix ix_list (pv 1) pe_int (fun _ _ => rfl)) (pa_cons (pe_ix ix_list (pv 1) pe_int (fun _ _ => rfl)) pa_nil))))))) pss_nil)
      (pss_cons (ps_if (pt_cmpR op_eq (pv 0) pe_int (nomark _)) (pss_cons (ps_set (i := 2) sc_law_canonical.nd rfl (Or.inl rfl) (pe_bm PySem.F.plainAttrs_list PySem.F.slot_list_index PySem.F.type_list_index mt_index (pv 1) (pa_cons (pe_callB (cr_min (by rfl)) (by rfl) T.n_min (by decide +kernel) (pa_cons (pv 1) pa_nil)) pa_nil)))
      (pss_one (ps_ret (pe_op op_cat (pe_slice sl_list (pv 1) (po_some (pv 2)) po_none) (pe_slice sl_list (pv 1) po_none (po_some (pv 2))))))) pss_nil)
      (pss_one (ps_ret (pv 1)))))), ?_⟩
    have eq_ : ∀ n : Nat, decide (V.int (u : Int) = V.int (n : Int)) = decide (u = n) := fun n => by
      by_cases z : u = n
      · simp [z]
      · rw [decide_eq_false z, decide_eq_false]
        intro y
        injection y with y
        omega
    have e1 := eq_ 1
    have e5 := eq_ 5
    have e7 := eq_ 7
    walk_at "r"
    refine ite_b (fun c => ?_) (fun c => ?_)
    · rw [show decide (V.int (u : Int) = V.int 1) = _ from e1] at c
      have c := of_decide_eq_true c
      subst c
      obtain ⟨a, b, rfl⟩ := two hl
      have hm' : H m = some (.lst [V.int (a : Int), V.int (b : Int)]) := hm
      walk_at "r"
      refine ite_b (fun c => ?_) (fun c => ?_)
      · have c2 := of_decide_eq_true c
        walk_at "r"
        refine ⟨(by show 2 ≤ sizeLine; decide), fun p hp => ?_⟩
        refine k p _ (Ex.new hp) ?_
        show upd H p _ p = _
        rw [upd_same]
        unfold canon
        rw [if_pos ⟨rfl, (by show b < a; omega)⟩]
        rfl
      · have c2 := of_decide_eq_false c
        walk_at "r"
        refine k m H (Ex.refl H) ?_
        show H m = _
        rw [hm']
        unfold canon
        rw [if_neg (fun z => c2 (by have := z.2; show (b : Int) < a; exact Int.ofNat_lt.mpr this))]
        rfl
    · rw [show decide (V.int (u : Int) = V.int 1) = _ from e1] at c
      have n1 := of_decide_eq_false c
      refine iteF ?_
      walk_at "r"
      refine ite_b (fun c => ?_) (fun c => ?_)
      · rw [show decide (V.int (u : Int) = V.int 5) = _ from e5] at c
        have c := of_decide_eq_true c
        subst c
        obtain ⟨a, b, x, d, rfl⟩ := four hl
        have hm' : H m = some (.lst [V.int (a : Int), V.int (b : Int), V.int (x : Int), V.int (d : Int)]) := hm
        walk_at "r"
        refine ite_b (fun c => ?_) (fun c => ?_)
        · have c2 := of_decide_eq_true c
          walk_at "r"
          refine ⟨(by show 4 ≤ sizeLine; decide), fun p hp => ?_⟩
          refine k p _ (Ex.new hp) ?_
          show upd H p _ p = _
          rw [upd_same]
          unfold canon
          rw [if_neg (fun z => absurd z.1 (by decide)), if_pos ⟨rfl, (by show d < a; omega)⟩]
          rfl
        · have c2 := of_decide_eq_false c
          walk_at "r"
          refine k m H (Ex.refl H) ?_
          show H m = _
          rw [hm']
          unfold canon
          rw [if_neg (fun z => absurd z.1 (by decide)), if_neg (fun z => c2 (by have := z.2; show (d : Int) < a; exact Int.ofNat_lt.mpr this))]
          rfl
      · rw [show decide (V.int (u : Int) = V.int 5) = _ from e5] at c
        have n5 := of_decide_eq_false c
        refine iteF ?_
        walk_at "r"
        refine ite_b (fun c => ?_) (fun c => ?_)
        · rw [show decide (V.int (u : Int) = V.int 7) = _ from e7] at c
          have c := of_decide_eq_true c
          subst c
          have hms : ms ≠ [] := fun z => by subst z; cases hl
          have hmm := mn_mem hms
          have hi := List.idxOf_lt_length_of_mem hmm
          have hil := hl
          have hns : nI ms = (ms.map fun x : Nat => (x : Int)).map V.int := by rw [List.map_map]; rfl
          refine ⟨_, rfl, Or.inl ⟨rfl, _, hm.sz⟩, _, rfl, m, ms.map fun x : Nat => (x : Int), rfl, hns ▸ hm.sz, (by rw [List.length_map]; omega), fun mm h1 h2 => ?_⟩
          have hmm2 : mm = ((mn ms : Nat) : Int) := by
            obtain ⟨x, hx, rfl⟩ := List.mem_map.mp h1
            have a1 := mn_le hx
            have a2 := h2 _ (List.mem_map.mpr ⟨_, hmm, rfl⟩)
            omega
          subst hmm2
          refine ⟨m, nI ms, _, ms.idxOf (mn ms), _, rfl, rfl, hm.sz, rfl, flat_nI _, ixN_ hi, ?_, fun j z hj hz => ?_, ?_⟩
          · rw [eqV_nat, List.getD_eq_getElem?_getD, List.getElem?_eq_getElem hi]
            exact List.getElem_idxOf hi
          · obtain ⟨hj2, rfl⟩ := nat_at hz
            cases q : eqV (V.int ((ms.getD j 0 : Nat) : Int)) (V.int ((mn ms : Nat) : Int)) with
            | false => rfl
            | true =>
              rw [eqV_nat, List.getD_eq_getElem?_getD, List.getElem?_eq_getElem hj2] at q
              have q2 : ms[j] = mn ms := q
              have := idx_le hj2 q2
              omega
          generalize hat : ms.idxOf (mn ms) = at_ at *
          have cut1 : cutV (nI ms) (some (at_ : Int)) none = nI (ms.drop at_) := by
            unfold cutV HT.sIx nI
            simp only [if_neg (show ¬ ((at_ : Int) < 0) by omega), List.length_map, Int.toNat_natCast, Nat.min_eq_left (Nat.le_of_lt hi)]
            rw [List.take_of_length_le (by rw [List.length_drop, List.length_map]; omega), List.map_drop]
          have cut2 : cutV (nI ms) none (some (at_ : Int)) = nI (ms.take at_) := by
            unfold cutV HT.sIx nI
            simp only [if_neg (show ¬ ((at_ : Int) < 0) by omega), List.length_map, Int.toNat_natCast, Nat.min_eq_left (Nat.le_of_lt hi), List.drop_zero, Nat.sub_zero]
            rw [List.map_take]
          refine ⟨_, rfl, _, rfl, at_, rfl, ?_⟩
          have hl4 : ms.length = 4 := hl
          refine ⟨m, nI ms, rfl, hm.sz, fun p1 hp1 => ?_⟩
          rw [cut1]
          have x1 := Ex.new (o := .lst (nI (ms.drop at_))) hp1
          refine ⟨_, rfl, _, rfl, at_, rfl, m, nI ms, rfl, (hm.ex x1).sz, fun p2 hp2 => ?_⟩
          rw [cut2]
          have x2 := Ex.new (o := .lst (nI (ms.take at_))) hp2
          refine ⟨p1, p2, _, _, rfl, rfl, x2 _ _ upd_same, upd_same, (by rw [nI_len, nI_len, List.length_drop, List.length_take]; exact Nat.le_of_lt (small1000 (by omega))), fun p3 hp3 => ?_⟩
          refine k p3 _ ((x1.trans x2).trans (Ex.new hp3)) ?_
          show upd _ p3 _ p3 = _
          rw [upd_same]
          unfold canon
          rw [if_neg (fun z => n1 z.1), if_neg (fun z => n5 z.1), if_pos rfl, hat]
          unfold nI
          rw [List.map_append]
        · rw [show decide (V.int (u : Int) = V.int 7) = _ from e7] at c
          have n7 := of_decide_eq_false c
          walk_at "r"
          refine k m H (Ex.refl H) ?_
          unfold canon
          rw [if_neg (fun z => n1 z.1), if_neg (fun z => n5 z.1), if_neg n7]
          exact hm

end

section
variable {P : Program} {w : World} {K : PySem.W.Frag} {mg : Str → Option Value} {base : Heap} {A : Ad}
theorem RowAt.updL {H : Hp} {q f : Addr} {b : Bk} {xs : List V} {o : HO} (h : RowAt H q b) (hf : H f = some (.lst xs)) : RowAt (upd H f o) q b := by
  obtain ⟨t, h1, h2⟩ := h
  refine ⟨t, ?_, ?_⟩
  · rw [upd_ne (fun z => by rw [z, hf] at h1; cases h1)]
    exact h1
  · rw [upd_ne (fun z => by rw [z, hf] at h2; cases h2)]
    exact h2
def spBuild : Sp := fun vs H Q _ => ∃ (b : Addr) (n : Nat), vs = [.ref b, .int (n : Int)] ∧ n ≤ 64 ∧ Bag H b ∧ ∀ (p q r : Addr) (ys : List Nat) (bs : List Bk) H', H' p = some (.lst [.ref q, .ref r]) → ListN H' q ys → All2 RowAt H' r bs → Good ys bs → Q (.ref p) H'
theorem ok_law_build (T : Txt K mg A)  (g_law_take : Okd P w K mg base CX0 1 A.law_take P_law_take spTake) (g_law_pattern : Okd P w K mg base CX0 1 A.law_pattern P_law_pattern spForm) (g_law_order : Okd P w K mg base CX0 3 A.law_order P_law_order spPerm) (g_law_canonical : Okd P w K mg base CX0 1 A.law_canonical P_law_canonical spCanon) : Okd P w K mg base CX0 4 A.law_build P_law_build spBuild := by
  obtain ⟨fd, F⟩ := T.d_law_build
  obtain ⟨fd_law_take, G_law_take, b_law_take⟩ := g_law_take
  obtain ⟨fd_law_pattern, G_law_pattern, b_law_pattern⟩ := g_law_pattern
  obtain ⟨fd_law_order, G_law_order, b_law_order⟩ := g_law_order
  obtain ⟨fd_law_canonical, G_law_canonical, b_law_canonical⟩ := g_law_canonical
  refine ⟨fd, F.ok sc_law_build (fun vs H Q E h => ?_) (fun cdv A' outer s H vs Q E hr h => ?_), F.binds fun _ _ _ _ _ _ us hl => match us, hl with | [_, _], _ => rfl⟩
  · obtain ⟨b, n, rfl, _⟩ := h
    rfl
  · obtain ⟨b, n, rfl, hn, B, k⟩ := h
    refine ⟨_, (pss_cons (ps_set (i := 2) sc_law_build.nd rfl (Or.inl rfl) (pe_lst pa_nil))
      (pss_cons (ps_set (i := 3) sc_law_build.nd rfl (Or.inl rfl) pe_int)
      (pss_cons (ps_for PassesOwn.never rfl (pi_range1 (by rfl) T.n_range (pa_cons (pe_call G_law_take (hr.mono (by decide)) (by rfl) T.g_law_take T.k_law_take b_law_take .nil pass0 (pa_cons (pv 0) (pa_cons (pe_op op_add (pv 1) pe_int) pa_nil))) pa_nil)) (pg_name (i := 4) sc_law_build.nd rfl (Or.inl rfl)) (pss_cons (ps_set (i := 5) sc_law_build.nd rfl (Or.inl rfl) (pe_call G_law_take (hr.mono (by decide)) (by rfl) T.g_law_take T.k_law_take b_law_take .nil pass0 (pa_cons (pv 0) (pa_cons pe_int pa_nil))))
      (pss_one (ps_if (pt_cmpR op_le (pe_op op_add (pv 3) (pe_callB call_len_seq (by rfl) T.n_len PySem.boot_len (pa_cons (pe_call G_law_pattern (hr.mono (by decide)) (by rfl) T.g_law_pattern T.k_law_pattern b_law_pattern .nil pass0 (pa_cons (pv 5) pa_nil)) pa_nil))) pe_int (nomark _)) (pss_cons (ps_expr (pe_bm PySem.F.plainAttrs_list PySem.F.slot_list_append PySem.F.type_list_append mt_append (pv 2) (pa_cons (pv 5) pa_nil)))
      (pss_one (ps_set (i := 3) sc_law_build.nd rfl (Or.inl rfl) (pe_op op_add (pv 3) (pe_callB call_len_seq (by rfl) T.n_len PySem.boot_len (pa_cons (pe_call G_law_pattern (hr.mono (by decide)) (by rfl) T.g_law_pattern T.k_law_pattern b_law_pattern .nil pass0 (pa_cons (pv 5) pa_nil)) pa_nil)))))) pss_nil))))
      (pss_cons (ps_set (i := 6) sc_law_build.nd rfl (Or.inl rfl) (pe_call G_law_order (hr.mono (by decide)) (by rfl) T.g_law_order T.k_law_order b_law_order .nil pass0 (pa_cons (pv 0) (pa_cons (pv 3) pa_nil))))
      (pss_cons (ps_set (i := 7) sc_law_build.nd rfl (Or.inl rfl) (pe_op op_rep (pe_lst (pa_cons pe_int pa_nil)) (pv 3)))
      (pss_cons (ps_set (i := 8) sc_law_build.nd rfl (Or.inl rfl) (pe_lst pa_nil))
      (pss_cons (ps_set (i := 3) sc_law_build.nd rfl (Or.inl rfl) pe_int)
      (pss_cons (ps_for PassesOwn.never rfl (pi_list (pv 2)) (pg_name (i := 5) sc_law_build.nd rfl (Or.inl rfl)) (pss_cons (ps_set (i := 9) sc_law_build.nd rfl (Or.inl rfl) (pe_call G_law_pattern (hr.mono (by decide)) (by rfl) T.g_law_pattern T.k_law_pattern b_law_pattern .nil pass0 (pa_cons (pv 5) pa_nil)))
      (pss_cons (ps_set (i := 10) sc_law_build.nd rfl (Or.inl rfl) (pe_slice sl_list (pv 6) (po_some (pv 3)) (po_some (pe_op op_add (pv 3) (pe_callB call_len_seq (by rfl) T.n_len PySem.boot_len (pa_cons (pv 9) pa_nil))))))
      (pss_cons (ps_set (i := 3) sc_law_build.nd rfl (Or.inl rfl) (pe_op op_add (pv 3) (pe_callB call_len_seq (by rfl) T.n_len PySem.boot_len (pa_cons (pv 9) pa_nil))))
      (pss_cons (ps_for PassesOwn.never rfl (pi_range1 (by rfl) T.n_range (pa_cons (pe_callB call_len_seq (by rfl) T.n_len PySem.boot_len (pa_cons (pv 9) pa_nil)) pa_nil)) (pg_name (i := 4) sc_law_build.nd rfl (Or.inl rfl)) (pss_one (ps_asg (pe_ix ix_list (pv 10) (pe_ix ix_tup (pv 9) (pv 4) (fun _ _ => rfl)) (fun _ _ => rfl)) (pg_sub (pv 7) (pe_ix ix_list (pv 10) (pv 4) (fun _ _ => rfl)) set_list))))
      (pss_one (ps_expr (pe_bm PySem.F.plainAttrs_list PySem.F.slot_list_append PySem.F.type_list_append mt_append (pv 8) (pa_cons (pe_tup (pa_cons (pe_callB (cr_min (by rfl)) (by rfl) T.n_min (by decide +kernel) (pa_cons (pv 10) pa_nil)) (pa_cons (pv 5) (pa_cons (pe_callTy call_tuple_of (by rfl) T.n_tuple (by decide +kernel) (pa_cons (pe_call G_law_canonical (hr.mono (by decide)) (by rfl) T.g_law_canonical T.k_law_canonical b_law_canonical .nil pass0 (pa_cons (pv 5) (pa_cons (pv 10) pa_nil))) pa_nil)) pa_nil)))) pa_nil)))))))))
      (pss_one (ps_ret (pe_lst (pa_cons (pv 7) (pa_cons (pe_callB cr_sortedR (by rfl) T.n_sorted (by decide +kernel) (pa_cons (pv 8) pa_nil)) pa_nil))))))))))))), ?_⟩
    refine ⟨by decide, fun c hc => ?_⟩
    have ncb : c ≠ b := B.ne hc
    walk_at "r"
    refine ⟨b, _, rfl, by omega, by omega, B.keep (fun o e => by rw [upd_ne (Ne.symm ncb)]; exact e), fun d H1 h0 h1 B1 M1 => ?_⟩
    obtain ⟨n1, rfl⟩ := Int.eq_ofNat_of_zero_le h0
    have hc1 : ListN H1 c [] := M1 c _ ncb upd_same
    refine ⟨_, rfl, by omega, by omega, for_range (lo := 0) (n := n1) (fun i σ H' => ∃ (ws : List Nat) (v4 v5 : Option V), σ = [some (.ref b), some (.int n), some (.ref c), some (.int (tot ws : Nat)), v4, v5, none, none, none, none, none] ∧ tot ws ≤ 64 ∧ (∀ w ∈ ws, w < 8) ∧ ws.length ≤ i ∧ ListN H' c ws ∧ Bag H' b)
      ⟨[], none, none, rfl, by decide, (fun _ h => nomatch h), Nat.le_refl _, hc1, B1⟩ ?_ ?_⟩
    · rintro i σ H' hi ⟨ws, v4, v5, rfl, ht, h8, hwl, hcw, B'⟩
      walk_at "r"
      refine ⟨b, 8, rfl, by decide, by decide, B', fun d H2 g0 g1 B2 M2 => ?_⟩
      obtain ⟨u, rfl⟩ := Int.eq_ofNat_of_zero_le g0
      have hu : u < 8 := by omega
      have hcw2 : ListN H2 c ws := M2 c _ ncb hcw
      refine ⟨_, rfl, _, rfl, u, rfl, hu, fun p H3 hp e3 hf => ?_⟩
      have hcw3 : ListN H3 c ws := hcw2.ex e3
      have B3 : Bag H3 b := B2.keep (fun o e => e3 _ _ e)
      have hfl : (nI (form u)).length = fl u := nI_len _
      refine ⟨p, _, rfl, Or.inr (SqT.of hf), _, _, rfl, rfl, _, _, rfl, rfl, _, rfl, ?_⟩
      rw [hfl]
      refine ite_b (fun q => ?_) (fun q => ?_)
      · have q := of_decide_eq_true q
        refine ⟨_, rfl, Or.inl ⟨rfl, _, hcw3.sz⟩, _, rfl, _, _, _, rfl, rfl, hcw3, small1000 (by rw [nI_len]; omega), ?_⟩
        have hcw4 : ListN (upd H3 c (.lst (nI ws ++ [V.int (u : Int)]))) c (ws ++ [u]) := by
          show upd _ c _ c = _
          rw [upd_same, nI_app]
        have B4 : Bag (upd H3 c (.lst (nI ws ++ [V.int (u : Int)]))) b := B3.keep (fun o e => by rw [upd_ne (Ne.symm ncb)]; exact e)
        generalize upd H3 c (.lst (nI ws ++ [V.int (u : Int)])) = H4 at *
        refine ⟨_, rfl, _, rfl, u, rfl, hu, fun p5 H5 hp5 e5 hf5 => ⟨p5, _, rfl, Or.inr (SqT.of hf5), _, _, rfl, rfl, ws ++ [u], some (.int (0 + (i : Int))), some (.int (u : Int)), ?_, ?_, ?_, ?_, hcw4.ex e5, B4.keep (fun o e => e5 _ _ e)⟩⟩
        · rw [hfl]
          have e : (tot ws : Int) + (fl u : Int) = ((tot (ws ++ [u]) : Nat) : Int) := by
            rw [tot_app]
            show _ = ((tot ws + (fl u + 0) : Nat) : Int)
            omega
          rw [← e]
          rfl
        · rw [tot_app]
          show tot ws + (fl u + 0) ≤ 64
          omega
        · intro x hx
          rcases List.mem_append.mp hx with hx | hx
          · exact h8 x hx
          · rw [List.mem_singleton.mp hx]
            exact hu
        · rw [List.length_append]
          exact Nat.succ_le_succ hwl
      · exact ⟨ws, _, _, rfl, ht, h8, Nat.le_succ_of_le hwl, hcw3, B3⟩
    · rintro σ H' ⟨ws, v4, v5, rfl, ht, h8, hwl, hcw, B'⟩
      refine ⟨_, rfl, _, rfl, b, tot ws, rfl, ht, B', fun o ms H2 ho nob hpm hms B2 M2 => ?_⟩
      have hcw2 : ListN H2 c ws := M2 c _ ncb hcw
      refine ⟨by decide, fun z hz => ⟨_, rfl, z, _, _, rfl, rfl, upd_same, by omega, by omega, (by show 1 * _ ≤ sizeLine; rw [Nat.one_mul, Int.toNat_natCast]; exact Nat.le_of_lt (small1000 (by omega))), fun s hs => ?_⟩⟩
      have hrep : (List.replicate ((tot ws : Nat) : Int).toNat [V.int 0]).flatten = nI (List.replicate (tot ws) 0) := by
        rw [Int.toNat_natCast]
        generalize tot ws = t
        induction t with
        | zero => rfl
        | succ t ih =>
          rw [List.replicate_succ, List.replicate_succ, List.flatten_cons, ih]
          rfl
      rw [hrep]
      refine ⟨by decide, fun r hr0 => ?_⟩
      have c1 : ListN (upd H2 z (.lst [V.int 0])) c ws := hcw2.ex (Ex.new hz)
      have o1 : ListN (upd H2 z (.lst [V.int 0])) o ms := hms.ex (Ex.new hz)
      have ncs : c ≠ s := ne_of_none c1 hs
      have nos : o ≠ s := ne_of_none o1 hs
      have c2 := c1.ex (Ex.new (o := .lst (nI (List.replicate (tot ws) 0))) hs)
      have o2 := o1.ex (Ex.new (o := .lst (nI (List.replicate (tot ws) 0))) hs)
      have s2 : ListN (upd (upd H2 z (.lst [V.int 0])) s (.lst (nI (List.replicate (tot ws) 0)))) s (List.replicate (tot ws) 0) := upd_same
      have ncr : c ≠ r := ne_of_none c2 hr0
      have nor : o ≠ r := ne_of_none o2 hr0
      have nsr : s ≠ r := ne_of_none s2 hr0
      have c3 := c2.ex (Ex.new (o := .lst []) hr0)
      have o3 := o2.ex (Ex.new (o := .lst []) hr0)
      have s3 := s2.ex (Ex.new (o := .lst []) hr0)
      have r3 : upd (upd (upd H2 z (.lst [V.int 0])) s (.lst (nI (List.replicate (tot ws) 0)))) r (.lst []) r = some (.lst []) := upd_same
      generalize upd (upd (upd H2 z (.lst [V.int 0])) s (.lst (nI (List.replicate (tot ws) 0)))) r (.lst []) = H3 at *
      have hml : ms.length = tot ws := by rw [hpm.length_eq, List.length_range]
      have hcf : (cuts ws ms).flatMap (·.2) = ms := by
        rw [cuts_flat, ← hml, List.take_length]
      have hmn : ms.Nodup := hpm.nodup_iff.mpr List.nodup_range
      have hmlt : ∀ x ∈ ms, x < tot ws := fun x hx => List.mem_range.mp (hpm.mem_iff.mp hx)
      refine ⟨_, rfl, c, rfl, ⟨_, c3.sz⟩, for_list (K := K) (a := c) (xs := nI ws) (fun i σ H' => ∃ (ys : List Nat) (rs : List Addr) (v4 v5 v9 v10 : Option V), σ = [some (.ref b), some (.int n), some (.ref c), some (.int (tot (ws.take i) : Nat)), v4, v5, some (.ref o), some (.ref s), some (.ref r), v9, v10] ∧ ListN H' c ws ∧ ListN H' o ms ∧ ListN H' s ys ∧ ys.length = tot ws ∧ (∀ (j : Nat) (b : Bk), j < i → (cuts ws ms)[j]? = some b → Blk ys b) ∧ H' r = some (.lst (rs.map V.ref)) ∧ rs.length = i ∧ ∀ (j : Nat) (q : Addr) (b : Bk), rs[j]? = some q → (cuts ws ms)[j]? = some b → RowAt H' q (canB b))
        ⟨List.replicate (tot ws) 0, [], _, _, none, none, rfl, c3, o3, s3, List.length_replicate, (fun j b hj => absurd hj (Nat.not_lt_zero _)), r3, rfl, (fun j q b h => by simp at h)⟩ (fun i σ H' _ ⟨_, _, _, _, _, _, _, h, _⟩ => h.sz) ?_ ?_⟩
      · rintro i x σ H' hi ⟨ys, rs, v4, v5, v9, v10, rfl, hc4, ho4, hs4, hyl, hbk, hr4, hrl, hra⟩
        obtain ⟨hi2, rfl⟩ := nat_at hi
        have hwi : ws[i]? = some (ws.getD i 0) := by rw [List.getD_eq_getElem?_getD, List.getElem?_eq_getElem hi2]; rfl
        have hu : ws.getD i 0 < 8 := h8 _ (getD_mem hi2)
        have hcut := cuts_at (ms := ms) hwi
        have htt := tot_take hwi
        have htl := tot_le (ws := ws) (i := i + 1)
        generalize ws.getD i 0 = u at *
        generalize hseg : (ms.drop (tot (ws.take i))).take (fl u) = seg at *
        have hsl : seg.length = fl u := by
          rw [← hseg, List.length_take, List.length_drop]
          omega
        have hmem : (u, seg) ∈ cuts ws ms := List.mem_of_getElem? hcut
        have hsm : ∀ x ∈ seg, x ∈ ms := fun x hx => by
          rw [← hcf]
          exact List.mem_flatMap.mpr ⟨_, hmem, hx⟩
        have hsn : seg.Nodup := nd_of (bs := cuts ws ms) (by rw [hcf]; exact hmn) hmem
        have hslt : ∀ x ∈ seg, x < ys.length := fun x hx => by
          rw [hyl]
          exact hmlt x (hsm x hx)
        have hfn : (nI (form u)).length = fl u := nI_len _
        refine ⟨_, rfl, u, rfl, hu, fun p H4 hp e4 hf => ?_⟩
        have hcutV : cutV (nI ms) (some (tot (ws.take i) : Nat)) (some ((tot (ws.take i) : Int) + (fl u : Int))) = nI seg := by
          rw [← hseg]
          unfold cutV HT.sIx nI
          simp only [if_neg (show ¬ ((tot (ws.take i) : Int) < 0) by omega), if_neg (show ¬ ((tot (ws.take i) : Int) + (fl u : Int) < 0) by omega), List.length_map]
          rw [show ((tot (ws.take i) : Nat) : Int).toNat = tot (ws.take i) from Int.toNat_natCast _, show ((tot (ws.take i) : Int) + (fl u : Int)).toNat = tot (ws.take i) + fl u by omega, Nat.min_eq_left (by omega), Nat.min_eq_left (by omega), Nat.add_sub_cancel_left, List.map_take, List.map_drop]
        refine ⟨_, rfl, _, rfl, _, rfl, _, rfl, _, rfl, p, _, rfl, Or.inr (SqT.of hf), _, _, rfl, rfl, _, rfl, o, nI ms, rfl, (ho4.ex e4).sz, fun mm hmm => ?_⟩
        have hcv : cutV (nI ms) (some (tot (ws.take i) : Nat)) (some ((tot (ws.take i) : Int) + ((nI (form u)).length : Int))) = nI seg := by
          rw [hfn]
          exact hcutV
        have e5 : Ex H' (upd H4 mm (.lst (nI seg))) := ex_new e4 hmm
        have mm5 : ListN (upd H4 mm (.lst (nI seg))) mm seg := upd_same
        have hf5 : upd H4 mm (.lst (nI seg)) p = some (.tup (nI (form u))) := Ex.new (o := .lst (nI seg)) hmm _ _ hf
        have nms : mm ≠ s := fun z => by
          have := e4 s _ hs4
          rw [← z, hmm] at this
          cases this
        have nmr : mm ≠ r := fun z => by
          have := e4 r _ hr4
          rw [← z, hmm] at this
          cases this
        have npr : p ≠ r := fun z => by
          rw [← z, hp] at hr4
          cases hr4
        have nps : p ≠ s := fun z => by
          have hs4 : H' s = _ := hs4
          rw [← z, hp] at hs4
          cases hs4
        rw [show cutV (nI ms) (some (tot (ws.take i) : Nat)) (some ((tot (ws.take i) : Int) + ((nI (form u)).length : Int))) = nI seg from hcv]
        generalize upd H4 mm (.lst (nI seg)) = H5 at *
        refine ⟨_, rfl, _, rfl, p, _, rfl, Or.inr (SqT.of hf5), _, _, rfl, rfl, ?_⟩
        refine ⟨_, rfl, p, _, rfl, Or.inr (SqT.of hf5), _, rfl, (by rw [hfn]; have := fl_le (w := u); omega), (by rw [hfn]; have := fl_le (w := u); omega), ?_⟩
        rw [hfn]
        refine for_range (lo := 0) (n := fl u) (fun k σ G => ∃ v4 : Option V, σ = [some (.ref b), some (.int n), some (.ref c), some (.int ((tot (ws.take i) : Int) + (fl u : Int))), v4, some (.int (u : Int)), some (.ref o), some (.ref s), some (.ref r), some (.ref p), some (.ref mm)] ∧ Mut s H5 G ∧ ListN G s (fill ys seg (form u) k))
          ⟨_, rfl, Mut.refl s H5, hs4.ex e5⟩ ?_ ?_
        · rintro k σ G hk ⟨v4, rfl, M, hG⟩
          have hk2 : k < (form u).length := hk
          have hfk := form_lt u k hk2
          have hks : k < seg.length := by rw [hsl]; exact hk
          have hfs : (form u).getD k 0 < seg.length := by rw [hsl]; exact hfk
          have hsx : seg.getD k 0 < ys.length := hslt _ (getD_mem hks)
          have k0 : (0 : Int) + (k : Int) = ((k : Nat) : Int) := by omega
          refine ⟨_, rfl, _, rfl, _, rfl, p, nI (form u), _, _, rfl, rfl, SqT.of (M p _ nps hf5), at_of k0 (ixN_ hk2), mm, nI seg, _, _, rfl, rfl, SqL.of (M mm _ nms mm5), atN hfs, ?_⟩
          refine ⟨_, rfl, _, rfl, _, rfl, mm, nI seg, _, _, rfl, rfl, SqL.of (M mm _ nms mm5), at_of k0 (ixN_ hks), ?_⟩
          refine ⟨s, _, _, seg.getD k 0, rfl, rfl, hG, Evl.ixN_nat (by rw [nI_len, fill_len]; exact hsx), ?_⟩
          refine ⟨_, rfl, fun a o h e => ?_, ?_⟩
          · rw [upd_ne h]
            exact M a o h e
          · show upd G s _ s = _
            rw [upd_same]
            exact congrArg (fun z => some (HO.lst z)) List.map_set.symm
        · rintro σ G ⟨v4, rfl, M, hG⟩
          have hns : nI seg = (seg.map fun x : Nat => (x : Int)).map V.int := by rw [List.map_map]; rfl
          have hmG : ListN G mm seg := M mm _ nms mm5
          have hrG := M r _ (Ne.symm nsr) (e5 r _ hr4)
          have hs0 : seg ≠ [] := fun z => by
            rw [z] at hsl
            have := form_len u
            have hsl : 0 = (form u).length := hsl
            omega
          have hmm := mn_mem hs0
          refine ⟨_, rfl, Or.inl ⟨rfl, _, SqL.of hrG⟩, _, rfl, mm, seg.map fun x : Nat => (x : Int), rfl, hns ▸ hmG.sz, (by rw [List.length_map]; exact List.length_pos_iff.mpr hs0), fun mv h1 h2 => ?_⟩
          have hmv : mv = ((mn seg : Nat) : Int) := by
            obtain ⟨x, hx, rfl⟩ := List.mem_map.mp h1
            have a1 := mn_le hx
            have a2 := h2 _ (List.mem_map.mpr ⟨_, hmm, rfl⟩)
            omega
          subst hmv
          refine ⟨_, rfl, _, rfl, _, rfl, mm, u, seg, rfl, hu, hmG, hsl, fun cr H6 e6 hcr => ?_⟩
          refine ⟨cr, _, rfl, Or.inl ⟨hcr.sz, fun t ht => ⟨(by show 3 ≤ sizeLine; decide), fun q hq => ?_⟩⟩⟩
          have e7 := ex_new (ex_new e6 ht (o := .tup (nI (canon u seg)))) hq (o := .tup [.int ((mn seg : Nat) : Int), .int (u : Int), .ref t])
          have hqt : t ≠ q := ne_of_none upd_same hq
          have hrow : RowAt (upd (upd H6 t (.tup (nI (canon u seg)))) q (.tup [.int ((mn seg : Nat) : Int), .int (u : Int), .ref t])) q (canB (u, seg)) := by
            refine ⟨t, ?_, ?_⟩
            · rw [upd_same]
              show some (HO.tup [V.int ((mn seg : Nat) : Int), _, _]) = some (HO.tup [V.int ((mn (canon u seg) : Nat) : Int), _, _])
              rw [mn_perm (canon_perm hsl)]
              rfl
            · rw [upd_ne hqt, upd_same]
              rfl
          have hr7 := e7 r _ hrG
          have hs7 := hG.ex e7
          have hc7 : ListN _ c ws := (show ListN G c ws from M c _ ncs (hc4.ex e5)).ex e7
          have ho7 : ListN _ o ms := (show ListN G o ms from M o _ nos (ho4.ex e5)).ex e7
          have hra7 : ∀ (j : Nat) (q' : Addr) (b : Bk), rs[j]? = some q' → (cuts ws ms)[j]? = some b → RowAt (upd (upd H6 t (.tup (nI (canon u seg)))) q (.tup [.int ((mn seg : Nat) : Int), .int (u : Int), .ref t])) q' (canB b) := fun j q' b hj hb => by
            obtain ⟨t', g1, g2⟩ := (hra j q' b hj hb).ex e5
            have n1 : q' ≠ s := fun z => by
              have x1 := hs4.ex e5
              have x1 : H5 s = _ := x1
              rw [z, x1] at g1
              cases g1
            have n2 : t' ≠ s := fun z => by
              have x1 := hs4.ex e5
              have x1 : H5 s = _ := x1
              rw [z, x1] at g2
              cases g2
            exact RowAt.ex e7 ⟨t', M _ _ n1 g1, M _ _ n2 g2⟩
          generalize upd (upd H6 t (.tup (nI (canon u seg)))) q (.tup [.int ((mn seg : Nat) : Int), .int (u : Int), .ref t]) = H7 at *
          refine ⟨_, _, _, rfl, rfl, hr7, small1000 (by rw [List.length_map, hrl]; omega), ?_⟩
          refine ⟨fill ys seg (form u) (fl u), rs ++ [q], v4, some (.int (u : Int)), some (.ref p), some (.ref mm), ?_, ?_, ?_, ?_, ?_, ?_, ?_, ?_, ?_⟩
          · have e : ((tot (ws.take (i + 1)) : Nat) : Int) = (tot (ws.take i) : Int) + (fl u : Int) := by
              rw [htt]
              omega
            rw [e]
          · show upd H7 r _ c = _
            rw [upd_ne ncr]
            exact hc7
          · show upd H7 r _ o = _
            rw [upd_ne nor]
            exact ho7
          · show upd H7 r _ s = _
            rw [upd_ne nsr]
            exact hs7
          · rw [fill_len]
            exact hyl
          · intro j b' hj hb'
            rcases Nat.lt_succ_iff_lt_or_eq.mp hj with hj | hj
            · have hd := disj_of (bs := cuts ws ms) (by rw [hcf]; exact hmn)
              obtain ⟨l1, g1⟩ := List.getElem?_eq_some_iff.mp hb'
              obtain ⟨l2, g2⟩ := List.getElem?_eq_some_iff.mp hcut
              have dj := List.pairwise_iff_getElem.mp hd j i l1 l2 hj
              rw [g1, g2] at dj
              exact blk_out (hbk j b' hj hb') (fun x hx hx' => dj x hx x hx' rfl) (by rw [hsl]; exact Nat.le_refl _)
            · subst hj
              rw [hcut] at hb'
              injection hb' with hb'
              subst hb'
              exact blk_in hu hsn hslt hsl
          · rw [upd_same, List.map_append]
            rfl
          · rw [List.length_append, hrl]
            rfl
          · intro j q' b' hj hb'
            rcases Nat.lt_or_ge j rs.length with hlt | hge
            · rw [List.getElem?_append_left hlt] at hj
              exact (hra7 j q' b' hj hb').updL hr7
            · rw [List.getElem?_append_right hge] at hj
              have hz : j - rs.length = 0 := by
                by_cases z : j - rs.length = 0
                · exact z
                · rw [List.getElem?_eq_none (by simp; omega)] at hj
                  cases hj
              rw [hz] at hj
              injection hj with hj
              subst hj
              have : j = i := by omega
              subst this
              rw [hcut] at hb'
              injection hb' with hb'
              subst hb'
              exact hrow.updL hr7
      · rintro σ H' ⟨ys, rs, v4, v5, v9, v10, rfl, hc4, ho4, hs4, hyl, hbk, hr4, hrl, hra⟩
        rw [nI_len] at hbk hrl
        have hcl : (cuts ws ms).length = ws.length := cuts_len
        have hd := disj_of (bs := cuts ws ms) (by rw [hcf]; exact hmn)
        have hB : Bt ys (cuts ws ms) := by
          refine ⟨fun b' hb' => ?_, ?_, by omega⟩
          · obtain ⟨j, hj, e⟩ := List.getElem_of_mem hb'
            exact hbk j b' (by omega) (by rw [List.getElem?_eq_getElem hj, e])
          · rw [hcf, hyl]
            exact hpm
        have hne : ∀ j (hj : j < (cuts ws ms).length), (cuts ws ms)[j].2 ≠ [] := fun j hj z => by
          have q := (hB.blk _ (List.getElem_mem hj)).len
          rw [z] at q
          have := form_len (cuts ws ms)[j].1
          have q : 0 = _ := q
          omega
        have hmne : ∀ i j (hi : i < (cuts ws ms).length) (hj : j < (cuts ws ms).length), mn (cuts ws ms)[i].2 = mn (cuts ws ms)[j].2 → i = j := fun i j hi hj e => by
          rcases Nat.lt_trichotomy i j with h | h | h
          · exact absurd e (List.pairwise_iff_getElem.mp hd i j hi hj h _ (mn_mem (hne i hi)) _ (mn_mem (hne j hj)))
          · exact h
          · exact absurd e.symm (List.pairwise_iff_getElem.mp hd j i hj hi h _ (mn_mem (hne j hj)) _ (mn_mem (hne i hi)))
        have hmc : ∀ c' ∈ cuts ws ms, mn (canB c').2 = mn c'.2 := fun c' hc' => mn_perm (canon_perm (hB.blk c' hc').len)
        have row : ∀ j (hj : j < rs.length), RowAt H' rs[j] (canB ((cuts ws ms)[j]'(by omega))) := fun j hj => hra j _ _ (List.getElem?_eq_getElem hj) (List.getElem?_eq_getElem _)
        have hrn : rs.Nodup := by
          refine List.pairwise_iff_getElem.mpr fun i j hi hj hlt e => ?_
          obtain ⟨t1, f1, _⟩ := row i hi
          obtain ⟨t2, f2, _⟩ := row j hj
          rw [e, f2] at f1
          have f3 := Option.some.inj f1
          injection f3 with f3
          injection f3 with f3
          injection f3 with f3
          rw [hmc _ (List.getElem_mem _), hmc _ (List.getElem_mem _)] at f3
          have := hmne j i (by omega) (by omega) (by omega)
          omega
        have hg : ∀ j (hj : j < rs.length), canB ((cuts ws ms).getD (rs.idxOf rs[j]) (0, [])) = canB ((cuts ws ms)[j]'(by omega)) := fun j hj => by
          rw [List.Nodup.idxOf_getElem hrn, List.getD_eq_getElem?_getD, List.getElem?_eq_getElem (by omega)]
          rfl
        generalize hG : (fun a : Addr => canB ((cuts ws ms).getD (rs.idxOf a) (0, []))) = g
        have hg : ∀ j (hj : j < rs.length), g rs[j] = canB ((cuts ws ms)[j]'(by omega)) := fun j hj => by
          rw [← hG]
          exact hg j hj
        have hrg : ∀ a ∈ rs, RowAt H' a (g a) := fun a ha => by
          obtain ⟨j, hj, rfl⟩ := List.getElem_of_mem ha
          rw [hg j hj]
          exact row j hj
        refine ⟨_, rfl, _, rfl, r, rs, (fun a => ((mn (g a).2 : Nat) : Int)), rfl, SqL.of hr4, (fun a ha => ?_), (fun a ha a' ha' e => ?_), fun rs' pr hperm hpw hpr => ⟨(by show 2 ≤ sizeLine; decide), fun p hp => ?_⟩⟩
        · obtain ⟨t, f1, _⟩ := hrg a ha
          exact ⟨_, t, f1⟩
        · obtain ⟨i, hi, rfl⟩ := List.getElem_of_mem ha
          obtain ⟨j, hj, rfl⟩ := List.getElem_of_mem ha'
          dsimp only at e
          rw [hg i hi, hg j hj, hmc _ (List.getElem_mem _), hmc _ (List.getElem_mem _)] at e
          have := hmne i j (by omega) (by omega) (by omega)
          subst this
          rfl
        have hmap : rs.map g = (cuts ws ms).map canB := by
          refine List.ext_getElem (by rw [List.length_map, List.length_map]; omega) fun j h1 h2 => ?_
          rw [List.getElem_map, List.getElem_map]
          exact hg j (by rw [List.length_map] at h1; exact h1)
        have hgood : Good ys (rs'.map g) := hB.good (by rw [← hmap]; exact hperm.map g) (by
          rw [List.pairwise_map]
          exact hpw.imp fun {a b} h => (by have h : ((mn (g a).2 : Nat) : Int) ≤ ((mn (g b).2 : Nat) : Int) := h; omega))
        have x1 := Ex.new (o := .lst (rs'.map V.ref)) hpr
        have x2 := Ex.new (o := .lst [V.ref s, V.ref pr]) hp
        refine k p s pr ys (rs'.map g) _ upd_same ((hs4.ex x1).ex x2) ⟨rs', x2 _ _ upd_same, (List.length_map ..).symm, fun i q b' hq hb' => ?_⟩ hgood
        rw [List.getElem?_map, hq] at hb'
        injection hb' with hb'
        subst hb'
        exact RowAt.ex x2 (RowAt.ex x1 (hrg q (hperm.mem_iff.mp (List.mem_of_getElem? hq))))

end

section
variable {P : Program} {w : World} {K : PySem.W.Frag} {mg : Str → Option Value} {base : Heap} {A : Ad}
def SqN (K : PySem.W.Frag) (H : Hp) (p : Addr) (xs : List Nat) : Prop := SqL K H p (nI xs) ∨ SqT K H p (nI xs)
theorem ixS {K : PySem.W.Frag} {H : Hp} {p : Addr} {xs : List Nat} {i : Int} {v : V} {Q : VK} (h : SqN K H p xs) (e : atI (nI xs) i = some v) (q : Q v H) : rIx K (.ref p) (.int i) H Q := by
  rcases h with h | h
  · exact Or.inl ⟨_, _, _, _, rfl, rfl, h, e, q⟩
  · exact Or.inr (Or.inl ⟨_, _, _, _, rfl, rfl, h, e, q⟩)
theorem ne_self (v : V) : (!decide (v = v)) = false := by simp
def spRM (K : PySem.W.Frag) : Sp := fun vs H Q _ => ∃ (t d : Addr) (xs : List Nat), vs = [.ref t, .ref d] ∧ SqN K H t xs ∧ SqN K H d xs ∧ xs.length ≤ 64 ∧ Q (.bl true) H
theorem ok_law_row_meets (T : Txt K mg A)   : Okd P w K mg base CX0 1 A.law_row_meets P_law_row_meets (spRM K) := by
  obtain ⟨fd, F⟩ := T.d_law_row_meets

  refine ⟨fd, F.ok sc_law_row_meets (fun vs H Q E h => ?_) (fun cdv A' outer s H vs Q E hr h => ?_), F.binds fun _ _ _ _ _ _ us hl => match us, hl with | [_, _], _ => rfl⟩
  · obtain ⟨t, d, xs, rfl, _⟩ := h
    rfl
  · obtain ⟨t, d, xs, rfl, ht, hd, hl, k⟩ := h
    refine ⟨_, (pss_cons (ps_if (pt_cmpR op_ne (pe_callB call_len_seq (by rfl) T.n_len PySem.boot_len (pa_cons (pv 0) pa_nil)) (pe_callB call_len_seq (by rfl) T.n_len PySem.boot_len (pa_cons (pv 1) pa_nil)) (nomark _)) (pss_one (ps_ret pe_bl)) pss_nil)
      (pss_cons (ps_for PassesOwn.never rfl (pi_range1 (by rfl) T.n_range (pa_cons (pe_callB call_len_seq (by rfl) T.n_len PySem.boot_len (pa_cons (pv 1) pa_nil)) pa_nil)) (pg_name (i := 2) sc_law_row_meets.nd rfl (Or.inl rfl)) (pss_one (ps_if (PW.pt (pw_or (pt_not (pt_val (pe_callB call_isi (by rfl) T.n_isinstance (by decide +kernel) (pa_cons (pe_ix ix_seq (pv 0) (pv 2) (fun _ _ => rfl)) (pa_cons (pe_bltn (v := .ty "int") (u := .type "int") (by rfl) T.n_int (by decide +kernel) rfl) pa_nil))))) (pw_or (pt_val (pe_callB call_isi (by rfl) T.n_isinstance (by decide +kernel) (pa_cons (pe_ix ix_seq (pv 0) (pv 2) (fun _ _ => rfl)) (pa_cons (pe_bltn (v := .ty "bool") (u := .type "bool") (by rfl) T.n_bool (by decide +kernel) rfl) pa_nil)))) (pw_or1 (pt_cmpR op_ne (pe_ix ix_seq (pv 0) (pv 2) (fun _ _ => rfl)) (pe_ix ix_seq (pv 1) (pv 2) (fun _ _ => rfl)) (nomark _)))))) (pss_one (ps_ret pe_bl)) pss_nil)))
      (pss_one (ps_ret pe_bl)))), ?_⟩
    refine ⟨_, rfl, t, nI xs, rfl, ht, _, rfl, d, nI xs, rfl, hd, rfl, _, rfl, ?_⟩
    refine ite_b (fun c => absurd (ne_self _) (by rw [c]; decide)) (fun _ => ?_)
    refine ⟨_, rfl, d, nI xs, rfl, hd, _, rfl, (by rw [nI_len]; omega), (by rw [nI_len]; omega), ?_⟩
    rw [nI_len]
    refine for_range (lo := 0) (n := xs.length) (fun i σ H' => ∃ v2, σ = [some (.ref t), some (.ref d), v2] ∧ H' = H) ⟨none, rfl, rfl⟩ ?_ ?_
    · rintro i σ H' hi ⟨v2, rfl, rfl⟩
      have k0 : (0 : Int) + (i : Int) = ((i : Nat) : Int) := by omega
      have at_ := at_of k0 (ixN_ hi)
      refine ⟨_, rfl, _, rfl, ixS ht at_ ⟨_, _, _, _, true, rfl, ClsV.ty "int", TyX.base (TyOf.int _), kit_ty (by decide +kernel), _, rfl, ?_⟩⟩
      refine ⟨_, rfl, _, rfl, ixS ht at_ ⟨_, _, _, _, false, rfl, ClsV.ty "bool", TyX.base (TyOf.int _), kit_ty (by decide +kernel), _, rfl, ?_⟩⟩
      refine ⟨_, rfl, _, rfl, ixS ht at_ ⟨_, rfl, _, rfl, ixS hd at_ ⟨rfl, _, rfl, ?_⟩⟩⟩
      refine ite_b (fun c => absurd (ne_self _) (by rw [c]; decide)) (fun _ => ?_)
      exact ⟨_, rfl, rfl⟩
    · rintro σ H' ⟨v2, rfl, rfl⟩
      exact k

end

section
variable {P : Program} {w : World} {K : PySem.W.Frag} {mg : Str → Option Value} {base : Heap} {A : Ad}
def GrpAt (bs : List Bk) (n : Nat) : Hp → Addr → Bk → Prop := fun H q b => ListN H q (grp bs n (mn b.2))
def spGM : Sp := fun vs H Q _ => ∃ (g r : Addr) (ys : List Nat) (bs : List Bk), vs = [.ref g, .ref r] ∧ Good ys bs ∧ All2 (GrpAt bs ys.length) H g bs ∧ All2 RowAt H r bs ∧ ∀ H', Ex H H' → Q (.bl true) H'
theorem map_int {xs ys : List Nat} (h : xs.map (fun x : Nat => (x : Int)) = ys.map fun x : Nat => (x : Int)) : xs = ys := by
  induction xs generalizing ys with
  | nil => cases ys with
    | nil => rfl
    | cons _ _ => cases h
  | cons x xs ih => cases ys with
    | nil => cases h
    | cons y ys =>
      rw [List.map_cons, List.map_cons] at h
      injection h with h1 h2
      rw [ih h2, show x = y by omega]
theorem sorted_one : ∀ {xs ys : List Int}, xs.Perm ys → xs.Pairwise (· ≤ ·) → ys.Pairwise (· ≤ ·) → xs = ys
  | [], ys, h, _, _ => (List.nil_perm.mp h).symm
  | x :: xs, [], h, _, _ => absurd (List.perm_nil.mp h) (by simp)
  | x :: xs, y :: ys, h, h1, h2 => by
    have a1 : x = y := by
      have m1 := h.mem_iff.mp (List.mem_cons_self ..)
      have m2 := h.mem_iff.mpr (List.mem_cons_self (a := y) (l := ys))
      rcases List.mem_cons.mp m1 with e | m1
      · exact e
      · rcases List.mem_cons.mp m2 with e | m2
        · exact e.symm
        · have q1 := List.rel_of_pairwise_cons h1 m2
          have q2 := List.rel_of_pairwise_cons h2 m1
          omega
    subst a1
    rw [sorted_one (List.Perm.cons_inv h) (List.Pairwise.of_cons h1) (List.Pairwise.of_cons h2)]
theorem all_at {F : Hp → Addr → Bk → Prop} {H : Hp} {qs : List Addr} {bs : List Bk} {i : Nat} (hl : qs.length = bs.length) (h : i < bs.length) : qs[i]? = some (qs[i]'(by omega)) ∧ (qs.map V.ref)[i]? = some (V.ref (qs[i]'(by omega))) := by
  refine ⟨List.getElem?_eq_getElem _, ?_⟩
  rw [List.getElem?_map, List.getElem?_eq_getElem (by omega)]
  rfl
theorem ok_law_groups_meet (T : Txt K mg A)  (g_law_row_meets : Okd P w K mg base CX0 1 A.law_row_meets P_law_row_meets (spRM K)) : Okd P w K mg base CX0 2 A.law_groups_meet P_law_groups_meet spGM := by
  obtain ⟨fd, F⟩ := T.d_law_groups_meet
  obtain ⟨fd_law_row_meets, G_law_row_meets, b_law_row_meets⟩ := g_law_row_meets
  refine ⟨fd, F.ok sc_law_groups_meet (fun vs H Q E h => ?_) (fun cdv A' outer s H vs Q E hr h => ?_), F.binds fun _ _ _ _ _ _ us hl => match us, hl with | [_, _], _ => rfl⟩
  · obtain ⟨g, r, ys, bs, rfl, _⟩ := h
    rfl
  · obtain ⟨g, r, ys, bs, rfl, hG, hg, hr_, k⟩ := h
    refine ⟨_, (pss_cons (ps_if (PW.pt (pw_or (pt_not (pt_val (pe_callB call_isi (by rfl) T.n_isinstance (by decide +kernel) (pa_cons (pv 0) (pa_cons (pe_bltn (v := .ty "list") (u := .type "list") (by rfl) T.n_list (by decide +kernel) rfl) pa_nil))))) (pw_or1 (pt_cmpR op_ne (pe_callB call_len_seq (by rfl) T.n_len PySem.boot_len (pa_cons (pv 0) pa_nil)) (pe_callB call_len_seq (by rfl) T.n_len PySem.boot_len (pa_cons (pv 1) pa_nil)) (nomark _))))) (pss_one (ps_ret pe_bl)) pss_nil)
      (pss_cons (ps_for PassesOwn.never rfl (pi_range1 (by rfl) T.n_range (pa_cons (pe_callB call_len_seq (by rfl) T.n_len PySem.boot_len (pa_cons (pv 1) pa_nil)) pa_nil)) (pg_name (i := 2) sc_law_groups_meet.nd rfl (Or.inl rfl)) (pss_one (ps_if (PW.pt (pw_or (pt_not (pt_val (pe_callB call_isi (by rfl) T.n_isinstance (by decide +kernel) (pa_cons (pe_ix ix_list (pv 0) (pv 2) (fun _ _ => rfl)) (pa_cons (pe_bltn (v := .ty "list") (u := .type "list") (by rfl) T.n_list (by decide +kernel) rfl) pa_nil))))) (pw_or1 (pt_not (pt_val (pe_call G_law_row_meets (hr.mono (by decide)) (by rfl) T.g_law_row_meets T.k_law_row_meets b_law_row_meets .nil pass0 (pa_cons (pe_ix ix_list (pv 0) (pv 2) (fun _ _ => rfl)) (pa_cons (pe_callB cr_sortedTI (by rfl) T.n_sorted (by decide +kernel) (pa_cons (pe_ix ix_tup (pe_ix ix_list (pv 1) (pv 2) (fun _ _ => rfl)) pe_int (fun _ _ => rfl)) pa_nil)) pa_nil)))))))) (pss_one (ps_ret pe_bl)) pss_nil)))
      (pss_one (ps_ret pe_bl)))), ?_⟩
    obtain ⟨qs, hg1, hg2, hg3⟩ := hg
    obtain ⟨rs, hr1, hr2, hr3⟩ := hr_
    have h64 := hG.few
    have hB := hG.built
    refine ⟨_, rfl, _, _, _, _, true, rfl, ClsV.ty "list", TyX.base (TyOf.lst hg1), kit_ty (by decide +kernel), _, rfl, ?_⟩
    refine ⟨_, rfl, g, _, rfl, Or.inl (SqL.of hg1), _, rfl, r, _, rfl, Or.inl (SqL.of hr1), rfl, _, rfl, ?_⟩
    rw [show (qs.map V.ref).length = (rs.map V.ref).length by rw [List.length_map, List.length_map]; omega]
    refine ite_b (fun c => absurd (ne_self _) (by rw [c]; decide)) (fun _ => ?_)
    refine ⟨_, rfl, r, _, rfl, Or.inl (SqL.of hr1), _, rfl, (by rw [List.length_map]; omega), (by rw [List.length_map]; omega), ?_⟩
    rw [List.length_map, hr2]
    refine for_range (lo := 0) (n := bs.length) (fun i σ H' => ∃ v2, σ = [some (.ref g), some (.ref r), v2] ∧ Ex H H') ⟨none, rfl, Ex.refl H⟩ ?_ ?_
    · rintro i σ H' hi ⟨v2, rfl, e⟩
      have k0 : (0 : Int) + (i : Int) = ((i : Nat) : Int) := by omega
      obtain ⟨q1, q2⟩ := all_at (F := RowAt) (H := H) hg2 hi
      obtain ⟨r1, r2⟩ := all_at (F := RowAt) (H := H) hr2 hi
      have atq := at_of k0 q2
      have atr := at_of k0 r2
      have hbi : bs[i]? = some bs[i] := List.getElem?_eq_getElem hi
      have hq := (hg3 i _ bs[i] q1 hbi)
      obtain ⟨t, hr4, hr5⟩ := hr3 i _ bs[i] r1 hbi
      generalize qs[i]'(by omega) = q at *
      generalize rs[i]'(by omega) = row at *
      have hq' := e _ _ hq
      refine ⟨_, rfl, _, rfl, _, _, _, _, rfl, rfl, SqL.of (e _ _ hg1), atq, _, _, _, _, true, rfl, ClsV.ty "list", TyX.base (TyOf.lst hq'), kit_ty (by decide +kernel), _, rfl, ?_⟩
      have hns : nI bs[i].2 = (bs[i].2.map fun x : Nat => (x : Int)).map V.int := by rw [List.map_map]; rfl
      have ht := e _ _ hr5
      rw [hns] at ht
      refine ⟨_, rfl, _, rfl, _, _, _, _, rfl, rfl, SqL.of (e _ _ hg1), atq, _, rfl, _, rfl, _, _, _, _, rfl, rfl, SqL.of (e _ _ hr1), atr, _, _, _, _, rfl, rfl, SqT.of (e _ _ hr4), rfl, t, _, rfl, SqT.of ht, fun ns' p p1 p2 hp => ?_⟩
      have heq : ns' = (grp bs ys.length (mn bs[i].2)).map fun x : Nat => (x : Int) := by
        refine sorted_one (p1.trans ((hB.grp_perm (List.getElem_mem hi)).symm.map _)) p2 ?_
        rw [List.pairwise_map]
        exact grp_lt.imp fun {a b} h => by omega
      have hnI : ns'.map V.int = nI (grp bs ys.length (mn bs[i].2)) := by
        rw [heq, List.map_map]
        rfl
      rw [hnI]
      have hgl : (grp bs ys.length (mn bs[i].2)).length ≤ 64 := by
        have := List.length_filter_le (fun x => decide (beta bs x = mn bs[i].2)) (List.range ys.length)
        rw [List.length_range] at this
        have h2 := hG.len
        unfold grp
        omega
      have e2 := ex_new (o := .lst (nI (grp bs ys.length (mn bs[i].2)))) e hp
      exact ⟨q, p, _, rfl, Or.inl (SqL.of (Ex.new hp _ _ hq')), Or.inl (SqL.of upd_same), hgl, _, rfl, _, rfl, e2⟩
    · rintro σ H' ⟨v2, rfl, e⟩
      exact k H' e

end

section
variable {P : Program} {w : World} {K : PySem.W.Frag} {mg : Str → Option Value} {base : Heap} {A : Ad}
def spPM : Sp := fun vs H Q _ => ∃ (g r : Addr) (bs : List Bk), vs = [.ref g, .ref r] ∧ bs.length ≤ 64 ∧ (∀ b ∈ bs, b.1 < 8 ∧ b.2.length ≤ 64) ∧ All2 PieceAt H g bs ∧ All2 RowAt H r bs ∧ ∀ H', Ex H H' → Q (.bl true) H'
theorem ok_law_pieces_meet (T : Txt K mg A)  (g_law_words : Okd P w K mg base CX0 1 A.law_words P_law_words spWords) (g_law_row_meets : Okd P w K mg base CX0 1 A.law_row_meets P_law_row_meets (spRM K)) : Okd P w K mg base CX0 2 A.law_pieces_meet P_law_pieces_meet spPM := by
  obtain ⟨fd, F⟩ := T.d_law_pieces_meet
  obtain ⟨fd_law_words, G_law_words, b_law_words⟩ := g_law_words
  obtain ⟨fd_law_row_meets, G_law_row_meets, b_law_row_meets⟩ := g_law_row_meets
  refine ⟨fd, F.ok sc_law_pieces_meet (fun vs H Q E h => ?_) (fun cdv A' outer s H vs Q E hr h => ?_), F.binds fun _ _ _ _ _ _ us hl => match us, hl with | [_, _], _ => rfl⟩
  · obtain ⟨g, r, bs, rfl, _⟩ := h
    rfl
  · obtain ⟨g, r, bs, rfl, h64, h8, hg, hr_, k⟩ := h
    refine ⟨_, (pss_cons (ps_if (PW.pt (pw_or (pt_not (pt_val (pe_callB call_isi (by rfl) T.n_isinstance (by decide +kernel) (pa_cons (pv 0) (pa_cons (pe_bltn (v := .ty "list") (u := .type "list") (by rfl) T.n_list (by decide +kernel) rfl) pa_nil))))) (pw_or1 (pt_cmpR op_ne (pe_callB call_len_seq (by rfl) T.n_len PySem.boot_len (pa_cons (pv 0) pa_nil)) (pe_callB call_len_seq (by rfl) T.n_len PySem.boot_len (pa_cons (pv 1) pa_nil)) (nomark _))))) (pss_one (ps_ret pe_bl)) pss_nil)
      (pss_cons (ps_for PassesOwn.never rfl (pi_range1 (by rfl) T.n_range (pa_cons (pe_callB call_len_seq (by rfl) T.n_len PySem.boot_len (pa_cons (pv 1) pa_nil)) pa_nil)) (pg_name (i := 2) sc_law_pieces_meet.nd rfl (Or.inl rfl)) (pss_cons (ps_if (PW.pt (pw_or (pt_not (pt_val (pe_callB call_isi (by rfl) T.n_isinstance (by decide +kernel) (pa_cons (pe_ix ix_list (pv 0) (pv 2) (fun _ _ => rfl)) (pa_cons (pe_bltn (v := .ty "tuple") (u := .type "tuple") (by rfl) T.n_tuple (by decide +kernel) rfl) pa_nil))))) (pw_or1 (pt_cmpR op_ne (pe_callB call_len_seq (by rfl) T.n_len PySem.boot_len (pa_cons (pe_ix ix_list (pv 0) (pv 2) (fun _ _ => rfl)) pa_nil)) pe_int (nomark _))))) (pss_one (ps_ret pe_bl)) pss_nil)
      (pss_cons (ps_if (PW.pt (pw_or (pt_not (pt_val (pe_callB call_isi (by rfl) T.n_isinstance (by decide +kernel) (pa_cons (pe_ix ix_tup (pe_ix ix_list (pv 0) (pv 2) (fun _ _ => rfl)) pe_int (fun _ _ => rfl)) (pa_cons (pe_bltn (v := .ty "str") (u := .type "str") (by rfl) T.n_str (by decide +kernel) rfl) pa_nil))))) (pw_or1 (pt_cmpR op_ne (pe_ix ix_tup (pe_ix ix_list (pv 0) (pv 2) (fun _ _ => rfl)) pe_int (fun _ _ => rfl)) (pe_ix ix_tup (pe_call0 G_law_words (hr.mono (by decide)) (by rfl) T.g_law_words T.k_law_words b_law_words .nil pass0) (pe_ix ix_tup (pe_ix ix_list (pv 1) (pv 2) (fun _ _ => rfl)) pe_int (fun _ _ => rfl)) (fun _ _ => rfl)) (nomark _))))) (pss_one (ps_ret pe_bl)) pss_nil)
      (pss_one (ps_if (PW.pt (pw_or (pt_not (pt_val (pe_callB call_isi (by rfl) T.n_isinstance (by decide +kernel) (pa_cons (pe_ix ix_tup (pe_ix ix_list (pv 0) (pv 2) (fun _ _ => rfl)) pe_int (fun _ _ => rfl)) (pa_cons (pe_bltn (v := .ty "tuple") (u := .type "tuple") (by rfl) T.n_tuple (by decide +kernel) rfl) pa_nil))))) (pw_or1 (pt_not (pt_val (pe_call G_law_row_meets (hr.mono (by decide)) (by rfl) T.g_law_row_meets T.k_law_row_meets b_law_row_meets .nil pass0 (pa_cons (pe_ix ix_tup (pe_ix ix_list (pv 0) (pv 2) (fun _ _ => rfl)) pe_int (fun _ _ => rfl)) (pa_cons (pe_ix ix_tup (pe_ix ix_list (pv 1) (pv 2) (fun _ _ => rfl)) pe_int (fun _ _ => rfl)) pa_nil)))))))) (pss_one (ps_ret pe_bl)) pss_nil)))))
      (pss_one (ps_ret pe_bl)))), ?_⟩
    obtain ⟨qs, hg1, hg2, hg3⟩ := hg
    obtain ⟨rs, hr1, hr2, hr3⟩ := hr_
    refine ⟨_, rfl, _, _, _, _, true, rfl, ClsV.ty "list", TyX.base (TyOf.lst hg1), kit_ty (by decide +kernel), _, rfl, ?_⟩
    refine ⟨_, rfl, g, _, rfl, Or.inl (SqL.of hg1), _, rfl, r, _, rfl, Or.inl (SqL.of hr1), rfl, _, rfl, ?_⟩
    rw [show (qs.map V.ref).length = (rs.map V.ref).length by rw [List.length_map, List.length_map]; omega]
    refine ite_b (fun c => absurd (ne_self _) (by rw [c]; decide)) (fun _ => ?_)
    refine ⟨_, rfl, r, _, rfl, Or.inl (SqL.of hr1), _, rfl, (by rw [List.length_map]; omega), (by rw [List.length_map]; omega), ?_⟩
    rw [List.length_map, hr2]
    refine for_range (lo := 0) (n := bs.length) (fun i σ H' => ∃ v2, σ = [some (.ref g), some (.ref r), v2] ∧ Ex H H') ⟨none, rfl, Ex.refl H⟩ ?_ ?_
    · rintro i σ H' hi ⟨v2, rfl, e⟩
      have k0 : (0 : Int) + (i : Int) = ((i : Nat) : Int) := by omega
      obtain ⟨q1, q2⟩ := all_at (F := RowAt) (H := H) hg2 hi
      obtain ⟨r1, r2⟩ := all_at (F := RowAt) (H := H) hr2 hi
      have atq := at_of k0 q2
      have atr := at_of k0 r2
      have hbi : bs[i]? = some bs[i] := List.getElem?_eq_getElem hi
      obtain ⟨hw8, hl64⟩ := h8 _ (List.getElem_mem hi)
      obtain ⟨t2, hq1, hq2⟩ := hg3 i _ bs[i] q1 hbi
      obtain ⟨t, hr4, hr5⟩ := hr3 i _ bs[i] r1 hbi
      generalize qs[i]'(by omega) = q at *
      generalize rs[i]'(by omega) = row at *
      generalize bs[i] = b at *
      have hq1' := e _ _ hq1
      refine ⟨_, rfl, _, rfl, _, _, _, _, rfl, rfl, SqL.of (e _ _ hg1), atq, _, _, _, _, true, rfl, ClsV.ty "tuple", TyX.base (TyOf.tup hq1'), kit_ty (by decide +kernel), _, rfl, ?_⟩
      refine ⟨_, rfl, _, rfl, _, _, _, _, rfl, rfl, SqL.of (e _ _ hg1), atq, q, _, rfl, Or.inr (SqT.of hq1'), rfl, _, rfl, ?_⟩
      refine ite_b (fun c => absurd (ne_self (V.int 2)) (by rw [show (!decide (V.int 2 = V.int 2)) = true from c]; decide)) (fun _ => ?_)
      refine ⟨_, rfl, _, rfl, _, _, _, _, rfl, rfl, SqL.of (e _ _ hg1), atq, _, _, _, _, rfl, rfl, SqT.of hq1', rfl, _, _, _, _, true, rfl, ClsV.ty "str", TyX.base (TyOf.str _), kit_ty (by decide +kernel), _, rfl, ?_⟩
      refine ⟨_, rfl, _, rfl, _, _, _, _, rfl, rfl, SqL.of (e _ _ hg1), atq, _, _, _, _, rfl, rfl, SqT.of hq1', rfl, rfl, fun p hp => ?_⟩
      have e2 := ex_new (o := .tup wordsV) e hp
      have hp2 : upd H' p (.tup wordsV) p = some (.tup wordsV) := upd_same
      generalize upd H' p (.tup wordsV) = H2 at *
      refine ⟨_, rfl, _, rfl, _, _, _, _, rfl, rfl, SqL.of (e2 _ _ hr1), atr, _, _, _, _, rfl, rfl, SqT.of (e2 _ _ hr4), rfl, p, wordsV, _, _, rfl, rfl, SqT.of hp2, atI_nat (words_ix hw8), rfl, _, rfl, ?_⟩
      refine ite_b (fun c => absurd (ne_self _) (by rw [c]; decide)) (fun _ => ?_)
      refine ⟨_, rfl, _, rfl, _, _, _, _, rfl, rfl, SqL.of (e2 _ _ hg1), atq, _, _, _, _, rfl, rfl, SqT.of (e2 _ _ hq1), rfl, _, _, _, _, true, rfl, ClsV.ty "tuple", TyX.base (TyOf.tup (e2 _ _ hq2)), kit_ty (by decide +kernel), _, rfl, ?_⟩
      refine ⟨_, rfl, _, rfl, _, _, _, _, rfl, rfl, SqL.of (e2 _ _ hg1), atq, _, _, _, _, rfl, rfl, SqT.of (e2 _ _ hq1), rfl, _, rfl, _, rfl, _, _, _, _, rfl, rfl, SqL.of (e2 _ _ hr1), atr, _, _, _, _, rfl, rfl, SqT.of (e2 _ _ hr4), rfl, ?_⟩
      exact ⟨t2, t, _, rfl, Or.inr (SqT.of (e2 _ _ hq2)), Or.inr (SqT.of (e2 _ _ hr5)), hl64, _, rfl, _, rfl, e2⟩
    · rintro σ H' ⟨v2, rfl, e⟩
      exact k H' e

end

section
variable {P : Program} {w : World} {K : PySem.W.Frag} {mg : Str → Option Value} {base : Heap} {A : Ad}
def spCM : Sp := fun vs H Q _ => ∃ (g r : Addr) (bs : List Bk), vs = [.ref g, .ref r] ∧ bs.length ≤ 64 ∧ (∀ b ∈ bs, b.1 < 8) ∧ H g = some (.dK (cenK (cnt bs) 8)) ∧ All2 RowAt H r bs ∧ ∀ H', Ex H H' → Q (.bl true) H'
def wordsD : List PyData := [.str "free", .str "pair", .str "claim", .str "hook", .str "relay", .str "clamp", .str "trail", .str "wheel"]
theorem dp_words {K : PySem.W.Frag} {H : Hp} : DpAll K H wordsV wordsD := .cons (.str _) (.cons (.str _) (.cons (.str _) (.cons (.str _) (.cons (.str _) (.cons (.str _) (.cons (.str _) (.cons (.str _) .nil)))))))
theorem takeQ {bs : List Bk} {j : Nat} {b : Bk} (h : bs[j]? = some b) (q : Bk → Bool) : (bs.take (j + 1)).filter q = (bs.take j).filter q ++ (if q b = true then [b] else []) := by
  rw [List.take_add_one, h]
  show ((bs.take j ++ [b]).filter q) = _
  rw [List.filter_append, List.filter_cons]
  rfl
theorem cen_keys (f : Nat → Nat) : (cenK f 8).map (fun kv => kV kv.1) = wordsV := by
  unfold cenK
  rw [List.map_map]
  rfl
theorem ok_law_census_meets (T : Txt K mg A)  (g_law_words : Okd P w K mg base CX0 1 A.law_words P_law_words spWords) : Okd P w K mg base CX0 2 A.law_census_meets P_law_census_meets spCM := by
  obtain ⟨fd, F⟩ := T.d_law_census_meets
  obtain ⟨fd_law_words, G_law_words, b_law_words⟩ := g_law_words
  refine ⟨fd, F.ok sc_law_census_meets (fun vs H Q E h => ?_) (fun cdv A' outer s H vs Q E hr h => ?_), F.binds fun _ _ _ _ _ _ us hl => match us, hl with | [_, _], _ => rfl⟩
  · obtain ⟨g, r, bs, rfl, _⟩ := h
    rfl
  · obtain ⟨g, r, bs, rfl, h64, h8, hg, hr_, k⟩ := h
    refine ⟨_, (pss_cons (ps_set (i := 2) sc_law_census_meets.nd rfl (Or.inl rfl) (pe_call0 G_law_words (hr.mono (by decide)) (by rfl) T.g_law_words T.k_law_words b_law_words .nil pass0))
      (pss_cons (ps_if (PW.pt (pw_or (pt_not (pt_val (pe_callB call_isi (by rfl) T.n_isinstance (by decide +kernel) (pa_cons (pv 0) (pa_cons (pe_bltn (v := .ty "dict") (u := .type "dict") (by rfl) T.n_dict (by decide +kernel) rfl) pa_nil))))) (pw_or1 (pt_cmpR (op_neD hr.units) (pe_listKeys (by rfl) (pv 0) (by rfl) T.n_list) (pe_callTy call_list_of (by rfl) T.n_list (by decide +kernel) (pa_cons (pv 2) pa_nil)) (nomark _))))) (pss_one (ps_ret pe_bl)) pss_nil)
      (pss_cons (ps_for PassesOwn.never rfl (pi_range1 (by rfl) T.n_range (pa_cons pe_int pa_nil)) (pg_name (i := 3) sc_law_census_meets.nd rfl (Or.inr rfl)) (pss_cons (ps_set (i := 4) sc_law_census_meets.nd rfl (Or.inl rfl) (pe_dget (hu_of hr) (pv 0) (pe_ix ix_tup (pv 2) (pv 3) (fun _ _ => rfl)) (fun _ _ => rfl)))
      (pss_cons (ps_if (PW.pt (pw_or (pt_not (pt_val (pe_callB call_isi (by rfl) T.n_isinstance (by decide +kernel) (pa_cons (pv 4) (pa_cons (pe_bltn (v := .ty "int") (u := .type "int") (by rfl) T.n_int (by decide +kernel) rfl) pa_nil))))) (pw_or1 (pt_val (pe_callB call_isi (by rfl) T.n_isinstance (by decide +kernel) (pa_cons (pv 4) (pa_cons (pe_bltn (v := .ty "bool") (u := .type "bool") (by rfl) T.n_bool (by decide +kernel) rfl) pa_nil))))))) (pss_one (ps_ret pe_bl)) pss_nil)
      (pss_one (ps_if (pt_cmpR op_ne (pv 4) (pe_callB call_len_seq (by rfl) T.n_len PySem.boot_len (pa_cons (pe_lc (own := [("row", 5)]) (tt := _) (by rfl) sc_law_census_meets.nd (pi_list (pv 1)) (blkOk_by (own := [("row", 5)]) (N := N_law_census_meets) (sc := defScope s_law_census_meets) (by decide +kernel)) (fun _ _ _ _ _ => (pg_name (i := 5) sc_law_census_meets.nd rfl (Or.inl rfl))) (fun _ _ _ _ _ => (pts_one (pt_cmpR op_eq (pe_ix (ix_tupK (K := K) rfl) (pv 5) pe_int (fun _ _ => rfl)) (pv 3) (nomark _)))) (fun _ _ _ _ _ => (pv 5))) pa_nil)) (nomark _)) (pss_one (ps_ret pe_bl)) pss_nil)))))
      (pss_one (ps_ret pe_bl))))), ?_⟩
    obtain ⟨rs, hr1, hr2, hr3⟩ := hr_
    refine ⟨rfl, fun p hp => ?_⟩
    have e1 : Ex H (upd H p (.tup wordsV)) := Ex.new hp
    have hp1 : upd H p (.tup wordsV) p = some (.tup wordsV) := upd_same
    generalize upd H p (.tup wordsV) = H1 at *
    refine ⟨_, rfl, _, _, _, _, true, rfl, ClsV.ty "dict", TyX.base (TyOf.dK (e1 _ _ hg)), kit_ty (by decide +kernel), _, rfl, ?_⟩
    refine ⟨_, rfl, g, _, rfl, e1 _ _ hg, fun l1 hl1 => ?_⟩
    rw [cen_keys]
    have e2 := ex_new (o := .lst wordsV) e1 hl1
    have hp2 := Ex.new (o := .lst wordsV) hl1 _ _ hp1
    have hl2 : upd H1 l1 (.lst wordsV) l1 = some (.lst wordsV) := upd_same
    generalize upd H1 l1 (.lst wordsV) = H2 at *
    refine ⟨_, rfl, p, _, rfl, Or.inr (SqT.of hp2), fun l3 hl3 => ?_⟩
    have e3 := ex_new (o := .lst wordsV) e2 hl3
    have hp3 := Ex.new (o := .lst wordsV) hl3 _ _ hp2
    have hl4 := Ex.new (o := .lst wordsV) hl3 _ _ hl2
    have hl5 : upd H2 l3 (.lst wordsV) l3 = some (.lst wordsV) := upd_same
    generalize upd H2 l3 (.lst wordsV) = H3 at *
    refine ⟨.list wordsD, .list wordsD, .lst (SqL.of hl4) dp_words, .lst (SqL.of hl5) dp_words, (by decide +kernel), (by decide +kernel), _, rfl, ?_⟩
    rw [SeqAt.eqv_refl _ (by decide +kernel)]
    refine ⟨_, rfl, by decide, by decide, ?_⟩
    refine for_range (lo := 0) (n := 8) (fun i σ H' => ∃ v3 v4 v5, σ = [some (.ref g), some (.ref r), some (.ref p), v3, v4, v5] ∧ Ex H3 H') ⟨none, none, none, rfl, Ex.refl H3⟩ ?_ ?_
    · rintro i σ H' hi ⟨v3, v4, v5, rfl, e⟩
      have k0 : (0 : Int) + (i : Int) = ((i : Nat) : Int) := by omega
      have atw := at_of k0 (words_ix hi)
      have hg' := e _ _ (e3 _ _ hg)
      have hr' := e _ _ (e3 _ _ hr1)
      have hd2 : DGet H' g (V.str (word i)) (some (V.int (cnt bs i : Nat))) := .inl ⟨_, Sum.inr (word i), .inl hg', rfl, (cen_val hi).symm⟩
      refine ⟨_, rfl, _, rfl, _, rfl, p, wordsV, _, _, rfl, rfl, SqT.of (e _ _ hp3), atw, g, _, rfl, hd2, ?_⟩
      refine ⟨_, rfl, _, _, _, _, true, rfl, ClsV.ty "int", TyX.base (TyOf.int _), kit_ty (by decide +kernel), _, rfl, ?_⟩
      refine ⟨_, rfl, _, _, _, _, false, rfl, ClsV.ty "bool", TyX.base (TyOf.int _), kit_ty (by decide +kernel), _, rfl, ?_⟩
      refine iteF ?_
      refine ⟨_, rfl, _, rfl, r, rfl, ⟨_, SqL.of hr'⟩, fun D hD => lc_list (K := K) (a := r) (xs := rs.map V.ref) (fun j G => Ex H' G ∧ ∃ xs : List V, G D = some (.lst xs) ∧ xs.length = ((bs.take j).filter fun b => decide (b.1 = i)).length) ⟨Ex.new hD, [], upd_same, rfl⟩ (fun j G _ q => SqL.of (q.1 _ _ hr')) ?_ ?_⟩
      · rintro j y G hj ⟨ef, xs, hxs, hxl⟩
        rw [List.getElem?_map] at hj
        cases hrj : rs[j]? with
        | none => rw [hrj] at hj; cases hj
        | some q =>
        rw [hrj] at hj
        injection hj with hj
        subst hj
        have hjb : j < bs.length := by rw [← hr2]; exact (List.getElem?_eq_some_iff.mp hrj).1
        have hbj : bs[j]? = some bs[j] := List.getElem?_eq_getElem hjb
        obtain ⟨t, hq1, hq2⟩ := hr3 j q bs[j] hrj hbj
        refine ⟨rfl, _, rfl, _, _, _, _, rfl, rfl, SqT.of (ef _ _ (e _ _ (e3 _ _ hq1))), rfl, _, rfl, rfl, _, rfl, ?_⟩
        have hdec : decide (V.int ((bs[j].1 : Nat) : Int) = V.int (0 + (i : Int))) = decide (bs[j].1 = i) := by
          by_cases z : bs[j].1 = i
          · rw [decide_eq_true z, decide_eq_true]
            rw [z, k0]
          · rw [decide_eq_false z, decide_eq_false]
            intro y
            injection y with y
            omega
        rw [hdec, takeQ hbj]
        refine ite_b (fun c => ?_) (fun c => ?_)
        · rw [if_pos c]
          refine ⟨_, rfl, xs, hxs, small1000 ?_, fun b o hb => ?_, _, upd_same, ?_⟩
          · have := List.length_filter_le (fun b : Bk => decide (b.1 = i)) (bs.take j)
            rw [List.length_take] at this
            omega
          · rw [upd_ne (ne_of_none hb hD)]
            exact ef b o hb
          · rw [List.length_append, List.length_append, hxl]
            rfl
        · rw [if_neg (by rw [c]; decide), List.append_nil]
          exact ⟨ef, xs, hxs, hxl⟩
      · rintro G ⟨ef, xs, hxs, hxl⟩
        rw [List.length_map, hr2, List.take_length] at hxl
        refine ⟨D, xs, rfl, Or.inl (SqL.of hxs), rfl, _, rfl, ?_⟩
        rw [hxl]
        refine ite_b (fun c => absurd (ne_self (V.int (cnt bs i : Nat))) (by rw [show (!decide (V.int (cnt bs i : Nat) = V.int (cnt bs i : Nat))) = true from c]; decide)) (fun _ => ?_)
        exact ⟨_, _, _, rfl, e.trans ef⟩
    · rintro σ H' ⟨v3, v4, v5, rfl, e⟩
      exact k H' (e3.trans e)

end

section
variable {P : Program} {w : World} {K : PySem.W.Frag} {mg : Str → Option Value} {base : Heap} {A : Ad}
def spWM : Sp := fun vs H Q _ => vs = [] ∧ ∀ H', Ex H H' → Q (.bl true) H'
theorem ok_law_words_meet (T : Txt K mg A) (hW : ∃ o, List.lookup A.WORDS K = some o ∧ o.cls = Value.type "tuple") (g_law_words : Okd P w K mg base CX0 1 A.law_words P_law_words spWords) : Okd P w K mg base CX0 2 A.law_words_meet P_law_words_meet spWM := by
  obtain ⟨fd, F⟩ := T.d_law_words_meet
  obtain ⟨fd_law_words, G_law_words, b_law_words⟩ := g_law_words
  refine ⟨fd, F.ok sc_law_words_meet (fun vs H Q E h => ?_) (fun cdv A' outer s H vs Q E hr h => ?_), F.binds fun _ _ _ _ _ _ us hl => match us, hl with | [], _ => rfl⟩
  · obtain ⟨rfl, _⟩ := h
    rfl
  · obtain ⟨rfl, k⟩ := h
    refine ⟨_, (pss_cons (ps_if (PW.pt (pw_or (pt_not (pt_val (pe_callB call_isi (by rfl) T.n_isinstance (by decide +kernel) (pa_cons (pe_glob (v := .ref A.WORDS) rfl T.g_WORDS rfl) (pa_cons (pe_bltn (v := .ty "tuple") (u := .type "tuple") (by rfl) T.n_tuple (by decide +kernel) rfl) pa_nil))))) (pw_or1 (pt_cmpR op_ne (pe_callB call_len_seq (by rfl) T.n_len PySem.boot_len (pa_cons (pe_glob (v := .ref A.WORDS) rfl T.g_WORDS rfl) pa_nil)) pe_int (nomark _))))) (pss_one (ps_ret pe_bl)) pss_nil)
      (pss_cons (ps_for PassesOwn.never rfl (pi_range1 (by rfl) T.n_range (pa_cons pe_int pa_nil)) (pg_name (i := 0) sc_law_words_meet.nd rfl (Or.inl rfl)) (pss_one (ps_if (PW.pt (pw_or (pt_not (pt_val (pe_callB call_isi (by rfl) T.n_isinstance (by decide +kernel) (pa_cons (pe_ix ix_tup (pe_glob (v := .ref A.WORDS) rfl T.g_WORDS rfl) (pv 0) (fun _ _ => rfl)) (pa_cons (pe_bltn (v := .ty "str") (u := .type "str") (by rfl) T.n_str (by decide +kernel) rfl) pa_nil))))) (pw_or1 (pt_cmpR op_ne (pe_ix ix_tup (pe_glob (v := .ref A.WORDS) rfl T.g_WORDS rfl) (pv 0) (fun _ _ => rfl)) (pe_ix ix_tup (pe_call0 G_law_words (hr.mono (by decide)) (by rfl) T.g_law_words T.k_law_words b_law_words .nil pass0) (pv 0) (fun _ _ => rfl)) (nomark _))))) (pss_one (ps_ret pe_bl)) pss_nil)))
      (pss_one (ps_ret pe_bl)))), ?_⟩
    obtain ⟨ow, hw1, hw2⟩ := hW
    refine ⟨_, _, _, _, true, rfl, ClsV.ty "tuple", TyX.kTuple hw1 hw2, kit_ty (by decide +kernel), _, rfl, ?_⟩
    refine ⟨A.WORDS, _, rfl, Or.inr (T.w_WORDS _), rfl, _, rfl, ?_⟩
    refine ite_b (fun c => absurd (ne_self (V.int 8)) (by rw [show (!decide (V.int 8 = V.int 8)) = true from c]; decide)) (fun _ => ?_)
    refine ⟨_, rfl, by decide, by decide, ?_⟩
    refine for_range (lo := 0) (n := 8) (fun i σ H' => ∃ v, σ = [v] ∧ Ex H H') ⟨none, rfl, Ex.refl H⟩ ?_ ?_
    · rintro i σ H' hi ⟨v, rfl, e⟩
      have k0 : (0 : Int) + (i : Int) = ((i : Nat) : Int) := by omega
      have at_ := at_of k0 (words_ix hi)
      refine ⟨_, rfl, A.WORDS, wordsV, _, _, rfl, rfl, T.w_WORDS _, at_, _, _, _, _, true, rfl, ClsV.ty "str", TyX.base (TyOf.str _), kit_ty (by decide +kernel), _, rfl, ?_⟩
      refine ⟨_, rfl, A.WORDS, wordsV, _, _, rfl, rfl, T.w_WORDS _, at_, rfl, fun p hp => ?_⟩
      refine ⟨_, rfl, p, wordsV, _, _, rfl, rfl, SqT.of upd_same, at_, rfl, _, rfl, ?_⟩
      refine ite_b (fun c => absurd (ne_self _) (by rw [c]; decide)) (fun _ => ?_)
      exact ⟨_, rfl, ex_new e hp⟩
    · rintro σ H' ⟨v, rfl, e⟩
      exact k H' e

end

section
variable {P : Program} {w : World} {K : PySem.W.Frag} {mg : Str → Option Value} {base : Heap} {A : Ad}
def spGS : Sp := fun vs H Q _ => ∃ (h r : Addr) (ys : List Nat) (bs : List Bk), vs = [.ref h, .ref r] ∧ ListN H h ys ∧ Good ys bs ∧ All2 RowAt H r bs ∧ ∀ H', Ex H H' → Q (.bl true) H'
theorem All2.exR {H H1 : Hp} {p : Addr} {bs : List Bk} (e : Ex H H1) (h : All2 RowAt H p bs) : All2 RowAt H1 p bs := by
  obtain ⟨qs, h1, h2, h3⟩ := h
  exact ⟨qs, e _ _ h1, h2, fun j q b x y => (h3 j q b x y).ex e⟩
theorem Good.grps {H H1 : Hp} {ys : List Nat} {bs : List Bk} (G : Good ys bs) {p : Addr} {gs : List (Nat × Addr)} (hP : H1 p = some (.lst (gs.map fun x => V.ref x.2))) (hk : gs.map (·.1) = roots bs ys.length) (hg : ∀ x ∈ gs, H x.2 = none ∧ x.2 ≠ p ∧ ListN H1 x.2 (grp bs ys.length x.1)) : All2 (GrpAt bs ys.length) H1 p bs := by
  obtain ⟨h1, h2⟩ := G.gs hk
  refine ⟨gs.map (·.2), ?_, by rw [List.length_map]; exact h1, fun i q b hq hb => ?_⟩
  · rw [hP, List.map_map]
    rfl
  · rw [List.getElem?_map] at hq
    cases e : gs[i]? with
    | none => rw [e] at hq; cases hq
    | some x =>
      rw [e] at hq
      injection hq with hq
      subst hq
      have := (hg x (List.mem_of_getElem? e)).2.2
      rw [h2 i x b e hb] at this
      exact this
theorem ok_law_groups_stand (T : Txt K mg A)  (g_groups : Okd P w K mg base CX0 2 A.groups P_groups spGr) (g_law_groups_meet : Okd P w K mg base CX0 2 A.law_groups_meet P_law_groups_meet spGM) : Okd P w K mg base CX0 3 A.law_groups_stand P_law_groups_stand spGS := by
  obtain ⟨fd, F⟩ := T.d_law_groups_stand
  obtain ⟨fd_groups, G_groups, b_groups⟩ := g_groups
  obtain ⟨fd_law_groups_meet, G_law_groups_meet, b_law_groups_meet⟩ := g_law_groups_meet
  refine ⟨fd, F.ok sc_law_groups_stand (fun vs H Q E h => ?_) (fun cdv A' outer s H vs Q E hr h => ?_), F.binds fun _ _ _ _ _ _ us hl => match us, hl with | [_, _], _ => rfl⟩
  · obtain ⟨h, r, ys, bs, rfl, _⟩ := h
    rfl
  · obtain ⟨h, r, ys, bs, rfl, hh, hG, hr_, k⟩ := h
    refine ⟨_, (pss_cons (ps_set (i := 2) sc_law_groups_stand.nd rfl (Or.inl rfl) (pe_call G_groups (hr.mono (by decide)) (by rfl) T.g_groups T.k_groups b_groups .nil pass0 (pa_cons (pv 0) pa_nil)))
      (pss_cons (ps_if (pt_not (pt_val (pe_call G_law_groups_meet (hr.mono (by decide)) (by rfl) T.g_law_groups_meet T.k_law_groups_meet b_law_groups_meet .nil pass0 (pa_cons (pv 2) (pa_cons (pv 1) pa_nil))))) (pss_one (ps_ret pe_bl)) pss_nil)
      (pss_cons (ps_if (pt_cmpR op_gt (pe_callB call_len_seq (by rfl) T.n_len PySem.boot_len (pa_cons (pv 2) pa_nil)) pe_int (nomark _)) (pss_cons (ps_set (i := 3) sc_law_groups_stand.nd rfl (Or.inl rfl) (pe_ix ix_list (pv 2) (pe_op op_sub (pe_callB call_len_seq (by rfl) T.n_len PySem.boot_len (pa_cons (pv 2) pa_nil)) pe_int) (fun _ _ => rfl)))
      (pss_one (ps_expr (pe_bm PySem.F.plainAttrs_list PySem.F.slot_list_append PySem.F.type_list_append mt_append (pv 3) (pa_cons pe_int pa_nil))))) pss_nil)
      (pss_cons (ps_expr (pe_bm PySem.F.plainAttrs_list PySem.F.slot_list_append PySem.F.type_list_append mt_append (pv 2) (pa_cons (pe_lst (pa_cons pe_int pa_nil)) pa_nil)))
      (pss_one (ps_ret (pe_call G_law_groups_meet (hr.mono (by decide)) (by rfl) T.g_law_groups_meet T.k_law_groups_meet b_law_groups_meet .nil pass0 (pa_cons (pe_call G_groups (hr.mono (by decide)) (by rfl) T.g_groups T.k_groups b_groups .nil pass0 (pa_cons (pv 0) pa_nil)) (pa_cons (pv 1) pa_nil))))))))), ?_⟩
    have hB := hG.built
    have hl := hG.len
    have h64 := hG.few
    refine ⟨_, rfl, h, ys, bs, rfl, hh, hl, hB, fun p gs H1 hp e1 hP hk hgs => ?_⟩
    refine ⟨_, rfl, _, rfl, p, r, ys, bs, rfl, hG, hG.grps hP hk hgs, hr_.exR e1, fun H2 e2 => ⟨_, rfl, ?_⟩⟩
    obtain ⟨hgl, _⟩ := hG.gs hk
    have hP2 := e2 _ _ hP
    have e02 := e1.trans e2
    have fin : ∀ (G : Hp) (v3 : Option V), Ex H G → G p = some (.lst (gs.map fun x => V.ref x.2)) → ∀ z, G z = none → ∀ G2, G2 = upd (upd G z (.lst [V.int 78])) p (.lst ((gs.map fun x => V.ref x.2) ++ [V.ref z])) → Ex H G2 := fun G v3 e hGp z hz G2 eq => by
      subst eq
      intro b o hb
      have n1 : b ≠ p := fun q => by
        rw [q, hp] at hb
        cases hb
      rw [upd_ne n1]
      exact Ex.new hz _ _ (e b o hb)
    refine ⟨_, rfl, p, _, rfl, Or.inl (SqL.of hP2), _, _, rfl, rfl, _, rfl, ?_⟩
    refine ite_b (fun c => ?_) (fun c => ?_)
    · have c := of_decide_eq_true c
      rw [List.length_map] at c
      have hpos : gs.length - 1 < gs.length := by omega
      have hix : (gs.map fun x => V.ref x.2)[gs.length - 1]? = some (V.ref (gs[gs.length - 1]'hpos).2) := by
        rw [List.getElem?_map, List.getElem?_eq_getElem hpos]
        rfl
      obtain ⟨f1, f2, f3⟩ := hgs _ (List.getElem_mem hpos)
      generalize (gs[gs.length - 1]'hpos) = last at *
      have hL2 := e2 _ _ f3
      have hgl2 := List.length_filter_le (fun x => decide (beta bs x = last.1)) (List.range ys.length)
      rw [List.length_range] at hgl2
      refine ⟨_, rfl, _, rfl, p, _, rfl, Or.inl (SqL.of hP2), _, _, rfl, rfl, _, _, _, _, rfl, rfl, SqL.of hP2, at_of (j := gs.length - 1) (by rw [List.length_map]; omega) hix, ?_⟩
      refine ⟨_, rfl, Or.inl ⟨rfl, _, SqL.of hL2⟩, _, _, _, rfl, rfl, hL2, small1000 (by rw [nI_len]; unfold grp; omega), ?_⟩
      have e03 : Ex H (upd H2 last.2 (.lst (nI (grp bs ys.length last.1) ++ [V.int 77]))) := fun b o hb => by
        rw [upd_ne (fun q => by rw [q, f1] at hb; cases hb)]
        exact e02 b o hb
      have hP3 : upd H2 last.2 (.lst (nI (grp bs ys.length last.1) ++ [V.int 77])) p = some (.lst (gs.map fun x => V.ref x.2)) := by
        rw [upd_ne (Ne.symm f2)]
        exact hP2
      generalize upd H2 last.2 (.lst (nI (grp bs ys.length last.1) ++ [V.int 77])) = H3 at *
      refine ⟨_, rfl, Or.inl ⟨rfl, _, SqL.of hP3⟩, by decide, fun z hz => ⟨p, gs.map (fun x => V.ref x.2), _, rfl, rfl, ?_, small1000 (by rw [List.length_map]; omega), ?_⟩⟩
      · exact Ex.new hz _ _ hP3
      have e04 := fin H3 none e03 hP3 z hz _ rfl
      generalize upd (upd H3 z (.lst [V.int 78])) p _ = H4 at *
      refine ⟨_, rfl, h, ys, bs, rfl, hh.ex e04, hl, hB, fun p2 gs2 H5 hp2 e5 hP5 hk5 hgs5 => ⟨_, rfl, p2, r, ys, bs, rfl, hG, hG.grps hP5 hk5 hgs5, hr_.exR (e04.trans e5), fun H6 e6 => k H6 ((e04.trans e5).trans e6)⟩⟩
    · refine ⟨_, rfl, Or.inl ⟨rfl, _, SqL.of hP2⟩, by decide, fun z hz => ⟨p, gs.map (fun x => V.ref x.2), _, rfl, rfl, ?_, small1000 (by rw [List.length_map]; omega), ?_⟩⟩
      · exact Ex.new hz _ _ hP2
      have e04 := fin H2 none e02 hP2 z hz _ rfl
      generalize upd (upd H2 z (.lst [V.int 78])) p _ = H4 at *
      refine ⟨_, rfl, h, ys, bs, rfl, hh.ex e04, hl, hB, fun p2 gs2 H5 hp2 e5 hP5 hk5 hgs5 => ⟨_, rfl, p2, r, ys, bs, rfl, hG, hG.grps hP5 hk5 hgs5, hr_.exR (e04.trans e5), fun H6 e6 => k H6 ((e04.trans e5).trans e6)⟩⟩

end

section
variable {P : Program} {w : World} {K : PySem.W.Frag} {mg : Str → Option Value} {base : Heap} {A : Ad}
def torn (bs : List Bk) : List Bk := bs.filter fun b => decide (1 < b.1)
def spPS : Sp := fun vs H Q _ => ∃ (h r : Addr) (ys : List Nat) (bs : List Bk), vs = [.ref h, .ref r] ∧ ListN H h ys ∧ Good ys bs ∧ All2 RowAt H r bs ∧ ∀ H', Ex H H' → Q (.bl true) H'
theorem All2.exR2 {H H1 : Hp} {p : Addr} {bs : List Bk} (e : Ex H H1) (h : All2 RowAt H p bs) : All2 RowAt H1 p bs := by
  obtain ⟨qs, h1, h2, h3⟩ := h
  exact ⟨qs, e _ _ h1, h2, fun j q b x y => (h3 j q b x y).ex e⟩
theorem appR {H : Hp} {p q : Addr} {cs : List Bk} {b : Bk} (h : All2 RowAt H p cs) (hq : RowAt H q b) : ∃ qs : List Addr, H p = some (.lst (qs.map V.ref)) ∧ qs.length = cs.length ∧ All2 RowAt (upd H p (.lst (qs.map V.ref ++ [V.ref q]))) p (cs ++ [b]) := by
  obtain ⟨qs, h1, h2, h3⟩ := h
  refine ⟨qs, h1, h2, qs ++ [q], by rw [upd_same, List.map_append]; rfl, by rw [List.length_append, List.length_append, h2]; rfl, fun j r c hr hc => ?_⟩
  rcases Nat.lt_or_ge j qs.length with hj | hj
  · rw [List.getElem?_append_left hj] at hr
    rw [List.getElem?_append_left (by omega)] at hc
    exact (h3 j r c hr hc).updL h1
  · rw [List.getElem?_append_right hj] at hr
    rw [List.getElem?_append_right (by omega)] at hc
    have z : j - qs.length = 0 := by
      by_cases z : j - qs.length = 0
      · exact z
      · rw [List.getElem?_eq_none (by simp; omega)] at hr
        cases hr
    rw [z] at hr
    rw [show j - cs.length = 0 by omega] at hc
    injection hr with hr
    injection hc with hc
    subst hr
    subst hc
    exact hq.updL h1
theorem ok_law_pieces_stand (T : Txt K mg A)  (g_pieces : Okd P w K mg base CX0 3 A.pieces P_pieces spPi) (g_torn_pieces : Okd P w K mg base CX0 4 A.torn_pieces P_torn_pieces spTorn) (g_law_pieces_meet : Okd P w K mg base CX0 2 A.law_pieces_meet P_law_pieces_meet spPM) : Okd P w K mg base CX0 5 A.law_pieces_stand P_law_pieces_stand spPS := by
  obtain ⟨fd, F⟩ := T.d_law_pieces_stand
  obtain ⟨fd_pieces, G_pieces, b_pieces⟩ := g_pieces
  obtain ⟨fd_torn_pieces, G_torn_pieces, b_torn_pieces⟩ := g_torn_pieces
  obtain ⟨fd_law_pieces_meet, G_law_pieces_meet, b_law_pieces_meet⟩ := g_law_pieces_meet
  refine ⟨fd, F.ok sc_law_pieces_stand (fun vs H Q E h => ?_) (fun cdv A' outer s H vs Q E hr h => ?_), F.binds fun _ _ _ _ _ _ us hl => match us, hl with | [_, _], _ => rfl⟩
  · obtain ⟨h, r, ys, bs, rfl, _⟩ := h
    rfl
  · obtain ⟨h, r, ys, bs, rfl, hh, hG, hr_, k⟩ := h
    refine ⟨_, (pss_cons (ps_setLc (i := 2) (own := [("row", 5)]) (tt := _) (by rfl) sc_law_pieces_stand.nd rfl rfl (sw_true rfl rfl rfl (by decide +kernel)) (pi_list (pv 1)) (blkOk_by (own := [("row", 5)]) (N := N_law_pieces_stand) (sc := defScope s_law_pieces_stand) (by decide +kernel)) (fun _ _ _ _ _ => (pg_name (i := 5) sc_law_pieces_stand.nd rfl (Or.inl rfl))) (fun _ _ _ _ _ => (pts_one (pt_cmpR op_gt (pe_ix (ix_tupK (K := K) rfl) (pv 5) pe_int (fun _ _ => rfl)) pe_int (nomark _)))) (fun _ _ _ _ _ => (pv 5)))
      (pss_cons (ps_set (i := 3) sc_law_pieces_stand.nd rfl (Or.inl rfl) (pe_call G_pieces (hr.mono (by decide)) (by rfl) T.g_pieces T.k_pieces b_pieces .nil pass0 (pa_cons (pv 0) pa_nil)))
      (pss_cons (ps_set (i := 4) sc_law_pieces_stand.nd rfl (Or.inl rfl) (pe_call G_torn_pieces (hr.mono (by decide)) (by rfl) T.g_torn_pieces T.k_torn_pieces b_torn_pieces .nil pass0 (pa_cons (pv 0) pa_nil)))
      (pss_cons (ps_if (PW.pt (pw_or (pt_not (pt_val (pe_call G_law_pieces_meet (hr.mono (by decide)) (by rfl) T.g_law_pieces_meet T.k_law_pieces_meet b_law_pieces_meet .nil pass0 (pa_cons (pv 3) (pa_cons (pv 1) pa_nil))))) (pw_or1 (pt_not (pt_val (pe_call G_law_pieces_meet (hr.mono (by decide)) (by rfl) T.g_law_pieces_meet T.k_law_pieces_meet b_law_pieces_meet .nil pass0 (pa_cons (pv 4) (pa_cons (pv 2) pa_nil)))))))) (pss_one (ps_ret pe_bl)) pss_nil)
      (pss_cons (ps_expr (pe_bm PySem.F.plainAttrs_list PySem.F.slot_list_append PySem.F.type_list_append mt_append (pv 3) (pa_cons (pe_tup (pa_cons pe_str (pa_cons (pe_tup (pa_cons pe_int pa_nil)) pa_nil))) pa_nil)))
      (pss_cons (ps_expr (pe_bm PySem.F.plainAttrs_list PySem.F.slot_list_append PySem.F.type_list_append mt_append (pv 4) (pa_cons (pe_tup (pa_cons pe_str (pa_cons (pe_tup (pa_cons pe_int (pa_cons pe_int pa_nil))) pa_nil))) pa_nil)))
      (pss_one (ps_ret (pe_and (pe_call G_law_pieces_meet (hr.mono (by decide)) (by rfl) T.g_law_pieces_meet T.k_law_pieces_meet b_law_pieces_meet .nil pass0 (pa_cons (pe_call G_torn_pieces (hr.mono (by decide)) (by rfl) T.g_torn_pieces T.k_torn_pieces b_torn_pieces .nil pass0 (pa_cons (pv 0) pa_nil)) (pa_cons (pv 2) pa_nil))) (pe_one (pe_call G_law_pieces_meet (hr.mono (by decide)) (by rfl) T.g_law_pieces_meet T.k_law_pieces_meet b_law_pieces_meet .nil pass0 (pa_cons (pe_call G_pieces (hr.mono (by decide)) (by rfl) T.g_pieces T.k_pieces b_pieces .nil pass0 (pa_cons (pv 0) pa_nil)) (pa_cons (pv 1) pa_nil))))))))))))), ?_⟩
    have hB := hG.built
    have hl := hG.len
    have h64 := hG.few
    have h8 : ∀ b ∈ bs, b.1 < 8 ∧ b.2.length ≤ 64 := fun b hb => ⟨(hB.blk b hb).w, Nat.le_trans (path_len hB hb) (by decide)⟩
    have h8t : ∀ b ∈ torn bs, b.1 < 8 ∧ b.2.length ≤ 64 := fun b hb => h8 b (List.mem_filter.mp hb).1
    have h64t : (torn bs).length ≤ 64 := Nat.le_trans (List.length_filter_le ..) h64
    obtain ⟨rs, hr1, hr2, hr3⟩ := id hr_
    refine ⟨_, rfl, r, rfl, ⟨_, SqL.of hr1⟩, fun D hD => lc_list (K := K) (a := r) (xs := rs.map V.ref) (fun j G => Ex H G ∧ All2 RowAt G D (torn (bs.take j))) ⟨Ex.new hD, [], upd_same, rfl, fun j q b h => by simp at h⟩ (fun j G _ q => SqL.of (q.1 _ _ hr1)) ?_ ?_⟩
    · rintro j y G hj ⟨ef, hd⟩
      rw [List.getElem?_map] at hj
      cases hrj : rs[j]? with
      | none => rw [hrj] at hj; cases hj
      | some q =>
      rw [hrj] at hj
      injection hj with hj
      subst hj
      have hjb : j < bs.length := by rw [← hr2]; exact (List.getElem?_eq_some_iff.mp hrj).1
      have hbj : bs[j]? = some bs[j] := List.getElem?_eq_getElem hjb
      have hrow := (hr3 j q bs[j] hrj hbj).ex ef
      obtain ⟨t, hq1, hq2⟩ := hrow
      refine ⟨rfl, _, rfl, _, _, _, _, rfl, rfl, SqT.of hq1, rfl, _, _, rfl, rfl, _, rfl, ?_⟩
      have hdec : decide ((bs[j].1 : Int) > 1) = decide (1 < bs[j].1) := by
        by_cases z : 1 < bs[j].1
        · rw [decide_eq_true z, decide_eq_true (by omega)]
        · rw [decide_eq_false z, decide_eq_false (by omega)]
      have ht := takeQ hbj (fun b => decide (1 < b.1))
      rw [hdec]
      unfold torn
      rw [ht]
      refine ite_b (fun c => ?_) (fun c => ?_)
      · rw [if_pos c]
        obtain ⟨qs', g1, g2, g3⟩ := appR hd (q := q) (b := bs[j]) ⟨t, hq1, hq2⟩
        refine ⟨_, rfl, _, g1, small1000 (by rw [List.length_map, g2]; have := List.length_filter_le (fun b : Bk => decide (1 < b.1)) (bs.take j); rw [List.length_take] at this; unfold torn; omega), fun b o hb => ?_, g3⟩
        rw [upd_ne (ne_of_none hb hD)]
        exact ef b o hb
      · rw [if_neg (by rw [c]; decide), List.append_nil]
        exact ⟨ef, hd⟩
    rintro H1 ⟨e1, hd1⟩
    rw [List.length_map, hr2, List.take_length] at hd1
    refine ⟨_, rfl, h, ys, bs, rfl, hh.ex e1, hG, fun p H2 hp e2 hP => ?_⟩
    have e02 := e1.trans e2
    refine ⟨_, rfl, h, ys, bs, rfl, hh.ex e02, hG, fun f H3 hf e3 hF => ?_⟩
    have e03 := e02.trans e3
    have hP3 := hP.ex e3
    refine ⟨_, rfl, _, rfl, p, r, bs, rfl, h64, h8, hP3, hr_.exR2 e03, fun H4 e4 => ⟨_, rfl, ?_⟩⟩
    have e04 := e03.trans e4
    refine ⟨_, rfl, _, rfl, f, D, torn bs, rfl, h64t, h8t, hF.ex e4, (hd1.exR2 (e2.trans (e3.trans e4))), fun H5 e5 => ⟨_, rfl, ?_⟩⟩
    have e15 : Ex H1 H5 := (e2.trans e3).trans (e4.trans e5)
    obtain ⟨ps, hp1, hp2, _⟩ := hP3.ex (e4.trans e5)
    obtain ⟨fs, hf1, hf2, _⟩ := hF.ex (e4.trans e5)
    have hf2 : fs.length = (torn bs).length := hf2
    have npf : f ≠ p := fun z => by
      obtain ⟨x, hx, _⟩ := hP
      rw [z, hx] at hf
      cases hf
    have hf0 : H1 f = none := fresh_back e2 hf
    refine ⟨_, rfl, Or.inl ⟨rfl, _, SqL.of hp1⟩, (by show 1 ≤ sizeLine; decide), fun t1 ht1 => ⟨(by show 2 ≤ sizeLine; decide), fun t2 ht2 => ?_⟩⟩
    have x2 := ex_new (Ex.new (o := .tup [V.int 77]) ht1) ht2 (o := .tup [V.str "free", V.ref t1])
    refine ⟨_, _, _, rfl, rfl, x2 _ _ hp1, small1000 (by rw [List.length_map]; omega), ?_⟩
    have e16 : Ex H1 (upd (upd (upd H5 t1 (.tup [V.int 77])) t2 (.tup [V.str "free", V.ref t1])) p (.lst (ps.map V.ref ++ [V.ref t2]))) := fun b o hb => by
      rw [upd_ne (fun z => by rw [z, hp] at hb; cases hb)]
      exact x2 _ _ (e15 b o hb)
    have hf6 : upd (upd (upd H5 t1 (.tup [V.int 77])) t2 (.tup [V.str "free", V.ref t1])) p (.lst (ps.map V.ref ++ [V.ref t2])) f = some (.lst (fs.map V.ref)) := by
      rw [upd_ne npf]
      exact x2 _ _ hf1
    generalize upd (upd (upd H5 t1 (.tup [V.int 77])) t2 (.tup [V.str "free", V.ref t1])) p (.lst (ps.map V.ref ++ [V.ref t2])) = H6 at *
    refine ⟨_, rfl, Or.inl ⟨rfl, _, SqL.of hf6⟩, (by show 2 ≤ sizeLine; decide), fun t3 ht3 => ⟨(by show 2 ≤ sizeLine; decide), fun t4 ht4 => ?_⟩⟩
    have x3 := ex_new (Ex.new (o := .tup [V.int 77, V.int 78]) ht3) ht4 (o := .tup [V.str "claim", V.ref t3])
    refine ⟨_, _, _, rfl, rfl, x3 _ _ hf6, small1000 (by rw [List.length_map]; omega), ?_⟩
    have e17 : Ex H1 (upd (upd (upd H6 t3 (.tup [V.int 77, V.int 78])) t4 (.tup [V.str "claim", V.ref t3])) f (.lst (fs.map V.ref ++ [V.ref t4]))) := fun b o hb => by
      rw [upd_ne (fun z => by rw [z, hf0] at hb; cases hb)]
      exact x3 _ _ (e16 b o hb)
    generalize upd (upd (upd H6 t3 (.tup [V.int 77, V.int 78])) t4 (.tup [V.str "claim", V.ref t3])) f (.lst (fs.map V.ref ++ [V.ref t4])) = H7 at *
    have e07 := e1.trans e17
    refine ⟨_, rfl, h, ys, bs, rfl, hh.ex e07, hG, fun q H8 hq e8 hQ => ?_⟩
    refine ⟨_, rfl, q, D, torn bs, rfl, h64t, h8t, hQ, hd1.exR2 (e17.trans e8), fun H9 e9 => ?_⟩
    refine ⟨true, rfl, ?_⟩
    rw [if_pos rfl]
    have e09 := (e07.trans e8).trans e9
    exact ⟨_, rfl, h, ys, bs, rfl, hh.ex e09, hG, fun q2 Ha hq2 ea hQ2 => ⟨_, rfl, q2, r, bs, rfl, h64, h8, hQ2, hr_.exR2 (e09.trans ea), fun Hb eb => k Hb ((e09.trans ea).trans eb)⟩⟩

end

section
variable {P : Program} {w : World} {K : PySem.W.Frag} {mg : Str → Option Value} {base : Heap} {A : Ad}
def spLaw (K : PySem.W.Frag) : Sp := fun vs H Q _ => ∃ (a : Addr) (ns : List Int), vs = [.ref a] ∧ SqL K H a (ns.map V.int) ∧ ns.length ≤ 63 ∧ ∀ H', Q (.bl true) H'
def dI (xs : List Int) : PyData := .list (xs.map PyData.int)
theorem dpAll_I {K : PySem.W.Frag} {H : Hp} : ∀ xs : List Int, DpAll K H (xs.map V.int) (xs.map PyData.int)
  | [] => .nil
  | x :: xs => .cons (.int x) (dpAll_I xs)
theorem dp_I {K : PySem.W.Frag} {H : Hp} {a : Addr} {xs : List Int} (h : ListI H a xs) : Dp K H (.ref a) (dI xs) := .lst h.sz (dpAll_I xs)
theorem lay_I : ∀ xs : List Int, PyData.canLayAll0 (xs.map PyData.int) = true
  | [] => by simp [PyData.canLayAll0]
  | x :: xs => by
    simp only [List.map_cons, PyData.canLayAll0, PyData.canLay0, lay_I xs]
    rfl
theorem deep_I : ∀ xs : List Int, PyData.depthAll (xs.map PyData.int) ≤ 1
  | [] => by simp [PyData.depthAll]
  | x :: xs => by
    have := deep_I xs
    simp only [List.map_cons, PyData.depthAll, PyData.depth]
    omega
theorem canLay_I (xs : List Int) : PyData.canLay0 (dI xs) = true := by
  unfold dI
  simp only [PyData.canLay0]
  exact lay_I xs
theorem shaped_I (xs : List Int) : SeqAt.shaped (dI xs) = true := by
  have h2 : PyData.depth (dI xs) ≤ 64 := by
    have := deep_I xs
    unfold dI
    simp only [PyData.depth]
    omega
  unfold SeqAt.shaped
  rw [canLay_I, decide_eq_true h2]
  rfl
theorem eqv_I (xs : List Int) : PyData.eqv (dI xs) (dI xs) = true := SeqAt.eqv_refl _ (canLay_I xs)
theorem nI_int (ys : List Nat) : nI ys = (ys.map fun x : Nat => (x : Int)).map V.int := by
  rw [List.map_map]
  rfl
theorem ok_law {fd : FuncData} (T : Txt K mg A) (F : Fun K "law" "law" s_law A.law fd) (g_law_bag : Okd P w K mg base CX0 1 A.law_bag P_law_bag (spBag K)) (g_law_take : Okd P w K mg base CX0 1 A.law_take P_law_take spTake) (g_law_build : Okd P w K mg base CX0 4 A.law_build P_law_build spBuild) (g_law_words_meet : Okd P w K mg base CX0 2 A.law_words_meet P_law_words_meet spWM) (g_law_groups_stand : Okd P w K mg base CX0 3 A.law_groups_stand P_law_groups_stand spGS) (g_law_pieces_stand : Okd P w K mg base CX0 5 A.law_pieces_stand P_law_pieces_stand spPS) (g_census : Okd P w K mg base CX0 4 A.census P_census spCen) (g_law_census_meets : Okd P w K mg base CX0 2 A.law_census_meets P_law_census_meets spCM) (g_is_repairable : Okd P w K mg base CX0 3 A.is_repairable P_is_repairable spRep) : FnOk P w K mg base CX0 6 A.law fd P_law (spLaw K) := by
  obtain ⟨fd_law_bag, G_law_bag, b_law_bag⟩ := g_law_bag
  obtain ⟨fd_law_take, G_law_take, b_law_take⟩ := g_law_take
  obtain ⟨fd_law_build, G_law_build, b_law_build⟩ := g_law_build
  obtain ⟨fd_law_words_meet, G_law_words_meet, b_law_words_meet⟩ := g_law_words_meet
  obtain ⟨fd_law_groups_stand, G_law_groups_stand, b_law_groups_stand⟩ := g_law_groups_stand
  obtain ⟨fd_law_pieces_stand, G_law_pieces_stand, b_law_pieces_stand⟩ := g_law_pieces_stand
  obtain ⟨fd_census, G_census, b_census⟩ := g_census
  obtain ⟨fd_law_census_meets, G_law_census_meets, b_law_census_meets⟩ := g_law_census_meets
  obtain ⟨fd_is_repairable, G_is_repairable, b_is_repairable⟩ := g_is_repairable
  refine F.ok sc_law (fun vs H Q E h => ?_) (fun cdv A' outer s H vs Q E hr h => ?_)
  · obtain ⟨a, ns, rfl, _⟩ := h
    rfl
  · obtain ⟨a, ns, rfl, hS, hlen, k⟩ := h
    refine ⟨_, (pss_cons (ps_set (i := 1) sc_law.nd rfl (Or.inl rfl) (pe_call G_law_bag (hr.mono (by decide)) (by rfl) T.g_law_bag T.k_law_bag b_law_bag .nil pass0 (pa_cons (pv 0) pa_nil)))
      (pss_cons (ps_set (i := 2) sc_law.nd rfl (Or.inl rfl) pe_int)
      (pss_cut (ps_if (pt_cmpR op_eq (pe_call G_law_take (hr.mono (by decide)) (by rfl) T.g_law_take T.k_law_take b_law_take .nil pass0 (pa_cons (pv 1) (pa_cons pe_int pa_nil))) pe_int (nomark _)) (pss_one (ps_set (i := 2) sc_law.nd rfl (Or.inl rfl) pe_int)) pss_nil)
      (pss_cons (ps_set (i := 3) sc_law.nd rfl (Or.inl rfl) (pe_call G_law_build (hr.mono (by decide)) (by rfl) T.g_law_build T.k_law_build b_law_build .nil pass0 (pa_cons (pv 1) (pa_cons (pv 2) pa_nil))))
      (pss_cons (ps_set (i := 4) sc_law.nd rfl (Or.inl rfl) (pe_ix ix_list (pv 3) pe_int (fun _ _ => rfl)))
      (pss_cons (ps_set (i := 5) sc_law.nd rfl (Or.inl rfl) (pe_ix ix_list (pv 3) pe_int (fun _ _ => rfl)))
      (pss_cons (ps_set (i := 6) sc_law.nd rfl (Or.inl rfl) (pe_callTy call_list_of (by rfl) T.n_list (by decide +kernel) (pa_cons (pv 4) pa_nil)))
      (pss_cons (ps_if (PW.pt (pw_or (pt_not (pt_val (pe_call0 G_law_words_meet (hr.mono (by decide)) (by rfl) T.g_law_words_meet T.k_law_words_meet b_law_words_meet .nil pass0))) (pw_or (pt_not (pt_val (pe_call G_law_groups_stand (hr.mono (by decide)) (by rfl) T.g_law_groups_stand T.k_law_groups_stand b_law_groups_stand .nil pass0 (pa_cons (pv 6) (pa_cons (pv 5) pa_nil))))) (pw_or1 (pt_not (pt_val (pe_call G_law_pieces_stand (hr.mono (by decide)) (by rfl) T.g_law_pieces_stand T.k_law_pieces_stand b_law_pieces_stand .nil pass0 (pa_cons (pv 6) (pa_cons (pv 5) pa_nil))))))))) (pss_one (ps_ret pe_bl)) pss_nil)
      (pss_cons (ps_if (pt_not (pt_val (pe_call G_law_census_meets (hr.mono (by decide)) (by rfl) T.g_law_census_meets T.k_law_census_meets b_law_census_meets .nil pass0 (pa_cons (pe_call G_census (hr.mono (by decide)) (by rfl) T.g_census T.k_census b_census .nil pass0 (pa_cons (pv 6) pa_nil)) (pa_cons (pv 5) pa_nil))))) (pss_one (ps_ret pe_bl)) pss_nil)
      (pss_cons (ps_set (i := 7) sc_law.nd rfl (Or.inl rfl) (pe_call G_is_repairable (hr.mono (by decide)) (by rfl) T.g_is_repairable T.k_is_repairable b_is_repairable .nil pass0 (pa_cons (pv 6) pa_nil)))
      (pss_one (ps_ret (pe_and (pe_callB call_isi (by rfl) T.n_isinstance (by decide +kernel) (pa_cons (pv 7) (pa_cons (pe_bltn (v := .ty "bool") (u := .type "bool") (by rfl) T.n_bool (by decide +kernel) rfl) pa_nil))) (pe_and (pv 7) (pe_one (pe_cmpR (op_eqD hr.units) (pv 6) (pv 4) (nomark _))))))))))))))))), ?_⟩
    refine ⟨_, rfl, a, ns, rfl, hS, fun b g f s0 hb B => ?_⟩
    have B1 : Bag (upd H b (.lst (bagL g f s0))) b := ⟨g, f, s0, upd_same, B⟩
    generalize L2.upd H b _ = H1 at *
    refine ⟨fun σ G => ∃ n : Nat, n ≤ 64 ∧ σ = [some (.ref a), some (.ref b), some (.int (n : Int)), none, none, none, none, none] ∧ Bag G b, ?_, ?_⟩
    · refine ⟨_, rfl, b, 8, rfl, by decide, by decide, B1, fun d H3 _ _ B3 M3 => ?_⟩
      refine ⟨rfl, _, rfl, ?_⟩
      refine ite_b (fun c => ?_) (fun c => ?_)
      · exact ⟨64, by decide, rfl, B3⟩
      · exact ⟨6, by decide, rfl, B3⟩
    rintro σ G ⟨n, hn, rfl, B3⟩
    refine ⟨_, rfl, _, rfl, b, n, rfl, hn, B3, fun p q r ys bs H2 hp hq hr_ hG => ?_⟩
    refine ⟨_, rfl, _, _, _, _, rfl, rfl, SqL.of hp, rfl, ?_⟩
    refine ⟨_, rfl, _, _, _, _, rfl, rfl, SqL.of hp, rfl, ?_⟩
    refine ⟨_, rfl, q, _, rfl, Or.inl hq.sz, fun h hh => ?_⟩
    have e1 : Ex H2 (upd H2 h (.lst (nI ys))) := Ex.new hh
    have hh1 : ListN (upd H2 h (.lst (nI ys))) h ys := upd_same
    have hq1 := hq.ex e1
    have hr1 := hr_.exR e1
    generalize upd H2 h (.lst (nI ys)) = H3 at *
    have h64 := hG.few
    refine ⟨rfl, fun H4 e4 => ⟨_, rfl, ?_⟩⟩
    refine ⟨_, rfl, _, rfl, h, r, ys, bs, rfl, hh1.ex e4, hG, hr1.exR e4, fun H5 e5 => ⟨_, rfl, ?_⟩⟩
    have x5 := e4.trans e5
    refine ⟨_, rfl, _, rfl, h, r, ys, bs, rfl, hh1.ex x5, hG, hr1.exR x5, fun H6 e6 => ⟨_, rfl, ?_⟩⟩
    have x6 := x5.trans e6
    refine ⟨_, rfl, h, ys, bs, rfl, hh1.ex x6, hG, fun c H7 hc e7 hcen => ?_⟩
    have x7 := x6.trans e7
    refine ⟨_, rfl, c, r, bs, rfl, h64, fun b' hb' => (hG.built.blk b' hb').w, hcen, hr1.exR x7, fun H8 e8 => ⟨_, rfl, ?_⟩⟩
    have x8 := x7.trans e8
    refine ⟨_, rfl, h, ys, bs, rfl, hh1.ex x8, hG, fun H9 e9 => ?_⟩
    have x9 := x8.trans e9
    refine ⟨_, rfl, _, _, _, _, true, rfl, ClsV.ty "bool", TyX.base (TyOf.bl _), kit_ty (by decide +kernel), true, rfl, ?_⟩
    rw [if_pos rfl]
    refine ⟨_, rfl, true, rfl, ?_⟩
    rw [if_pos rfl]
    have hh9 : ListI H9 h (ys.map fun x : Nat => (x : Int)) := by
      show H9 h = _
      rw [← nI_int]
      exact hh1.ex x9
    have hq9 : ListI H9 q (ys.map fun x : Nat => (x : Int)) := by
      show H9 q = _
      rw [← nI_int]
      exact hq1.ex x9
    refine ⟨_, rfl, _, rfl, dI (ys.map fun x : Nat => (x : Int)), dI (ys.map fun x : Nat => (x : Int)), dp_I hh9, dp_I hq9, shaped_I _, shaped_I _, ?_⟩
    rw [eqv_I]
    exact k H9

end
end Pv
namespace Pv
open PySem L2 Evl Pm
theorem all_mk {l : PySem.W.OpenLaw} {w : World} {K : PySem.W.Frag} {h : Heap} {mg : Str → Option Value} {fa f_own f_check_image f_groups f_least_records f_pieces f_is_repairable f_census f_torn_pieces f_piece_of f_row_of f_law_bag f_law_take f_law_order f_law_words f_law_pattern f_law_canonical f_law_build f_law_row_meets f_law_groups_meet f_law_pieces_meet f_law_census_meets f_law_words_meet f_law_groups_stand f_law_pieces_stand f_law c_WORDS c_WHOLE c_FORMS kk0 kk1 kk2 kk3 kk4 kk5 kk6 kk7 : Addr}
    {od_own an_own od_check_image an_check_image od_groups an_groups od_least_records an_least_records od_pieces an_pieces od_is_repairable an_is_repairable od_census an_census od_torn_pieces an_torn_pieces od_piece_of an_piece_of od_row_of an_row_of od_law_bag an_law_bag od_law_take an_law_take od_law_order an_law_order od_law_words an_law_words od_law_pattern an_law_pattern od_law_canonical an_law_canonical od_law_build an_law_build od_law_row_meets an_law_row_meets od_law_groups_meet an_law_groups_meet od_law_pieces_meet an_law_pieces_meet od_law_census_meets an_law_census_meets od_law_words_meet an_law_words_meet od_law_groups_stand an_law_groups_stand od_law_pieces_stand an_law_pieces_stand od_law an_law odc_WORDS odc_WHOLE odF0 odF1 odF2 odF3 odF4 odF5 odF6 odF7 : Option Addr}
    {sl_own sl_check_image sl_groups sl_least_records sl_pieces sl_is_repairable sl_census sl_torn_pieces sl_piece_of sl_row_of sl_law_bag sl_law_take sl_law_order sl_law_words sl_law_pattern sl_law_canonical sl_law_build sl_law_row_meets sl_law_groups_meet sl_law_pieces_meet sl_law_census_meets sl_law_words_meet sl_law_groups_stand sl_law_pieces_stand sl_law slc_WORDS slc_WHOLE slF0 slF1 slF2 slF3 slF4 slF5 slF6 slF7 : Array (Option Value)}
    {oc_own kV_own doc_own pm_own cd_own ct_own oc_check_image kV_check_image doc_check_image pm_check_image cd_check_image ct_check_image oc_groups kV_groups doc_groups pm_groups cd_groups ct_groups oc_least_records kV_least_records doc_least_records pm_least_records cd_least_records ct_least_records oc_pieces kV_pieces doc_pieces pm_pieces cd_pieces ct_pieces oc_is_repairable kV_is_repairable doc_is_repairable pm_is_repairable cd_is_repairable ct_is_repairable oc_census kV_census doc_census pm_census cd_census ct_census oc_torn_pieces kV_torn_pieces doc_torn_pieces pm_torn_pieces cd_torn_pieces ct_torn_pieces oc_piece_of kV_piece_of doc_piece_of pm_piece_of cd_piece_of ct_piece_of oc_row_of kV_row_of doc_row_of pm_row_of cd_row_of ct_row_of oc_law_bag kV_law_bag doc_law_bag pm_law_bag cd_law_bag ct_law_bag oc_law_take kV_law_take doc_law_take pm_law_take cd_law_take ct_law_take oc_law_order kV_law_order doc_law_order pm_law_order cd_law_order ct_law_order oc_law_words kV_law_words doc_law_words pm_law_words cd_law_words ct_law_words oc_law_pattern kV_law_pattern doc_law_pattern pm_law_pattern cd_law_pattern ct_law_pattern oc_law_canonical kV_law_canonical doc_law_canonical pm_law_canonical cd_law_canonical ct_law_canonical oc_law_build kV_law_build doc_law_build pm_law_build cd_law_build ct_law_build oc_law_row_meets kV_law_row_meets doc_law_row_meets pm_law_row_meets cd_law_row_meets ct_law_row_meets oc_law_groups_meet kV_law_groups_meet doc_law_groups_meet pm_law_groups_meet cd_law_groups_meet ct_law_groups_meet oc_law_pieces_meet kV_law_pieces_meet doc_law_pieces_meet pm_law_pieces_meet cd_law_pieces_meet ct_law_pieces_meet oc_law_census_meets kV_law_census_meets doc_law_census_meets pm_law_census_meets cd_law_census_meets ct_law_census_meets oc_law_words_meet kV_law_words_meet doc_law_words_meet pm_law_words_meet cd_law_words_meet ct_law_words_meet oc_law_groups_stand kV_law_groups_stand doc_law_groups_stand pm_law_groups_stand cd_law_groups_stand ct_law_groups_stand oc_law_pieces_stand kV_law_pieces_stand doc_law_pieces_stand pm_law_pieces_stand cd_law_pieces_stand ct_law_pieces_stand oc_law kV_law doc_law pm_law cd_law ct_law : Value}
    {tWORDS_0 tWORDS_1 tWORDS_2 tWORDS_3 tWORDS_4 tWORDS_5 tWORDS_6 tWORDS_7 tWHOLE_0 tWHOLE_1 tF0 tF1 tF2 tF3 tF4 tF5 tF6 tF7 aF0_0 aF1_0 aF1_1 aF2_0 aF2_1 aF3_0 aF3_1 aF3_2 aF4_0 aF4_1 aF4_2 aF5_0 aF5_1 aF5_2 aF5_3 aF6_0 aF6_1 aF6_2 aF6_3 aF7_0 aF7_1 aF7_2 aF7_3 : Tok}
    {nc_WORDS nc_WHOLE epF nF0 nF1 nF2 nF3 nF4 nF5 nF6 nF7 : Nat}
    (X : K.In h) (G : h.Ns mainGlobals mg) (hfa : mg "law" = some (.ref fa))
    (a_own : PySem.W.nsIn K mainGlobals "_own" = some (some (.ref f_own)))
    (l_own : K.lookup f_own = some ⟨oc_own, od_own, .func (PySem.W.fnOf "_own" "_own" (defArgs s_own) (defBody s_own) (defScope s_own) .none kV_own doc_own pm_own an_own cd_own ct_own), sl_own⟩)
    (cd_is_own : PySem.W.codeIn K cd_own "_own" = true)
    (k_own : PySem.W.keepIn K (.ref f_own) = true)
    (a_check_image : PySem.W.nsIn K mainGlobals "check_image" = some (some (.ref f_check_image)))
    (l_check_image : K.lookup f_check_image = some ⟨oc_check_image, od_check_image, .func (PySem.W.fnOf "check_image" "check_image" (defArgs s_check_image) (defBody s_check_image) (defScope s_check_image) .none kV_check_image doc_check_image pm_check_image an_check_image cd_check_image ct_check_image), sl_check_image⟩)
    (cd_is_check_image : PySem.W.codeIn K cd_check_image "check_image" = true)
    (k_check_image : PySem.W.keepIn K (.ref f_check_image) = true)
    (a_groups : PySem.W.nsIn K mainGlobals "groups" = some (some (.ref f_groups)))
    (l_groups : K.lookup f_groups = some ⟨oc_groups, od_groups, .func (PySem.W.fnOf "groups" "groups" (defArgs s_groups) (defBody s_groups) (defScope s_groups) .none kV_groups doc_groups pm_groups an_groups cd_groups ct_groups), sl_groups⟩)
    (cd_is_groups : PySem.W.codeIn K cd_groups "groups" = true)
    (k_groups : PySem.W.keepIn K (.ref f_groups) = true)
    (a_least_records : PySem.W.nsIn K mainGlobals "_least_records" = some (some (.ref f_least_records)))
    (l_least_records : K.lookup f_least_records = some ⟨oc_least_records, od_least_records, .func (PySem.W.fnOf "_least_records" "_least_records" (defArgs s_least_records) (defBody s_least_records) (defScope s_least_records) .none kV_least_records doc_least_records pm_least_records an_least_records cd_least_records ct_least_records), sl_least_records⟩)
    (cd_is_least_records : PySem.W.codeIn K cd_least_records "_least_records" = true)
    (k_least_records : PySem.W.keepIn K (.ref f_least_records) = true)
    (a_pieces : PySem.W.nsIn K mainGlobals "pieces" = some (some (.ref f_pieces)))
    (l_pieces : K.lookup f_pieces = some ⟨oc_pieces, od_pieces, .func (PySem.W.fnOf "pieces" "pieces" (defArgs s_pieces) (defBody s_pieces) (defScope s_pieces) .none kV_pieces doc_pieces pm_pieces an_pieces cd_pieces ct_pieces), sl_pieces⟩)
    (cd_is_pieces : PySem.W.codeIn K cd_pieces "pieces" = true)
    (k_pieces : PySem.W.keepIn K (.ref f_pieces) = true)
    (a_is_repairable : PySem.W.nsIn K mainGlobals "is_repairable" = some (some (.ref f_is_repairable)))
    (l_is_repairable : K.lookup f_is_repairable = some ⟨oc_is_repairable, od_is_repairable, .func (PySem.W.fnOf "is_repairable" "is_repairable" (defArgs s_is_repairable) (defBody s_is_repairable) (defScope s_is_repairable) .none kV_is_repairable doc_is_repairable pm_is_repairable an_is_repairable cd_is_repairable ct_is_repairable), sl_is_repairable⟩)
    (cd_is_is_repairable : PySem.W.codeIn K cd_is_repairable "is_repairable" = true)
    (k_is_repairable : PySem.W.keepIn K (.ref f_is_repairable) = true)
    (a_census : PySem.W.nsIn K mainGlobals "census" = some (some (.ref f_census)))
    (l_census : K.lookup f_census = some ⟨oc_census, od_census, .func (PySem.W.fnOf "census" "census" (defArgs s_census) (defBody s_census) (defScope s_census) .none kV_census doc_census pm_census an_census cd_census ct_census), sl_census⟩)
    (cd_is_census : PySem.W.codeIn K cd_census "census" = true)
    (k_census : PySem.W.keepIn K (.ref f_census) = true)
    (a_torn_pieces : PySem.W.nsIn K mainGlobals "torn_pieces" = some (some (.ref f_torn_pieces)))
    (l_torn_pieces : K.lookup f_torn_pieces = some ⟨oc_torn_pieces, od_torn_pieces, .func (PySem.W.fnOf "torn_pieces" "torn_pieces" (defArgs s_torn_pieces) (defBody s_torn_pieces) (defScope s_torn_pieces) .none kV_torn_pieces doc_torn_pieces pm_torn_pieces an_torn_pieces cd_torn_pieces ct_torn_pieces), sl_torn_pieces⟩)
    (cd_is_torn_pieces : PySem.W.codeIn K cd_torn_pieces "torn_pieces" = true)
    (k_torn_pieces : PySem.W.keepIn K (.ref f_torn_pieces) = true)
    (a_piece_of : PySem.W.nsIn K mainGlobals "_piece_of" = some (some (.ref f_piece_of)))
    (l_piece_of : K.lookup f_piece_of = some ⟨oc_piece_of, od_piece_of, .func (PySem.W.fnOf "_piece_of" "_piece_of" (defArgs s_piece_of) (defBody s_piece_of) (defScope s_piece_of) .none kV_piece_of doc_piece_of pm_piece_of an_piece_of cd_piece_of ct_piece_of), sl_piece_of⟩)
    (cd_is_piece_of : PySem.W.codeIn K cd_piece_of "_piece_of" = true)
    (k_piece_of : PySem.W.keepIn K (.ref f_piece_of) = true)
    (a_row_of : PySem.W.nsIn K mainGlobals "_row_of" = some (some (.ref f_row_of)))
    (l_row_of : K.lookup f_row_of = some ⟨oc_row_of, od_row_of, .func (PySem.W.fnOf "_row_of" "_row_of" (defArgs s_row_of) (defBody s_row_of) (defScope s_row_of) .none kV_row_of doc_row_of pm_row_of an_row_of cd_row_of ct_row_of), sl_row_of⟩)
    (cd_is_row_of : PySem.W.codeIn K cd_row_of "_row_of" = true)
    (k_row_of : PySem.W.keepIn K (.ref f_row_of) = true)
    (a_law_bag : PySem.W.nsIn K mainGlobals "_law_bag" = some (some (.ref f_law_bag)))
    (l_law_bag : K.lookup f_law_bag = some ⟨oc_law_bag, od_law_bag, .func (PySem.W.fnOf "_law_bag" "_law_bag" (defArgs s_law_bag) (defBody s_law_bag) (defScope s_law_bag) .none kV_law_bag doc_law_bag pm_law_bag an_law_bag cd_law_bag ct_law_bag), sl_law_bag⟩)
    (cd_is_law_bag : PySem.W.codeIn K cd_law_bag "_law_bag" = true)
    (k_law_bag : PySem.W.keepIn K (.ref f_law_bag) = true)
    (a_law_take : PySem.W.nsIn K mainGlobals "_law_take" = some (some (.ref f_law_take)))
    (l_law_take : K.lookup f_law_take = some ⟨oc_law_take, od_law_take, .func (PySem.W.fnOf "_law_take" "_law_take" (defArgs s_law_take) (defBody s_law_take) (defScope s_law_take) .none kV_law_take doc_law_take pm_law_take an_law_take cd_law_take ct_law_take), sl_law_take⟩)
    (cd_is_law_take : PySem.W.codeIn K cd_law_take "_law_take" = true)
    (k_law_take : PySem.W.keepIn K (.ref f_law_take) = true)
    (a_law_order : PySem.W.nsIn K mainGlobals "_law_order" = some (some (.ref f_law_order)))
    (l_law_order : K.lookup f_law_order = some ⟨oc_law_order, od_law_order, .func (PySem.W.fnOf "_law_order" "_law_order" (defArgs s_law_order) (defBody s_law_order) (defScope s_law_order) .none kV_law_order doc_law_order pm_law_order an_law_order cd_law_order ct_law_order), sl_law_order⟩)
    (cd_is_law_order : PySem.W.codeIn K cd_law_order "_law_order" = true)
    (k_law_order : PySem.W.keepIn K (.ref f_law_order) = true)
    (a_law_words : PySem.W.nsIn K mainGlobals "_law_words" = some (some (.ref f_law_words)))
    (l_law_words : K.lookup f_law_words = some ⟨oc_law_words, od_law_words, .func (PySem.W.fnOf "_law_words" "_law_words" (defArgs s_law_words) (defBody s_law_words) (defScope s_law_words) .none kV_law_words doc_law_words pm_law_words an_law_words cd_law_words ct_law_words), sl_law_words⟩)
    (cd_is_law_words : PySem.W.codeIn K cd_law_words "_law_words" = true)
    (k_law_words : PySem.W.keepIn K (.ref f_law_words) = true)
    (a_law_pattern : PySem.W.nsIn K mainGlobals "_law_pattern" = some (some (.ref f_law_pattern)))
    (l_law_pattern : K.lookup f_law_pattern = some ⟨oc_law_pattern, od_law_pattern, .func (PySem.W.fnOf "_law_pattern" "_law_pattern" (defArgs s_law_pattern) (defBody s_law_pattern) (defScope s_law_pattern) .none kV_law_pattern doc_law_pattern pm_law_pattern an_law_pattern cd_law_pattern ct_law_pattern), sl_law_pattern⟩)
    (cd_is_law_pattern : PySem.W.codeIn K cd_law_pattern "_law_pattern" = true)
    (k_law_pattern : PySem.W.keepIn K (.ref f_law_pattern) = true)
    (a_law_canonical : PySem.W.nsIn K mainGlobals "_law_canonical" = some (some (.ref f_law_canonical)))
    (l_law_canonical : K.lookup f_law_canonical = some ⟨oc_law_canonical, od_law_canonical, .func (PySem.W.fnOf "_law_canonical" "_law_canonical" (defArgs s_law_canonical) (defBody s_law_canonical) (defScope s_law_canonical) .none kV_law_canonical doc_law_canonical pm_law_canonical an_law_canonical cd_law_canonical ct_law_canonical), sl_law_canonical⟩)
    (cd_is_law_canonical : PySem.W.codeIn K cd_law_canonical "_law_canonical" = true)
    (k_law_canonical : PySem.W.keepIn K (.ref f_law_canonical) = true)
    (a_law_build : PySem.W.nsIn K mainGlobals "_law_build" = some (some (.ref f_law_build)))
    (l_law_build : K.lookup f_law_build = some ⟨oc_law_build, od_law_build, .func (PySem.W.fnOf "_law_build" "_law_build" (defArgs s_law_build) (defBody s_law_build) (defScope s_law_build) .none kV_law_build doc_law_build pm_law_build an_law_build cd_law_build ct_law_build), sl_law_build⟩)
    (cd_is_law_build : PySem.W.codeIn K cd_law_build "_law_build" = true)
    (k_law_build : PySem.W.keepIn K (.ref f_law_build) = true)
    (a_law_row_meets : PySem.W.nsIn K mainGlobals "_law_row_meets" = some (some (.ref f_law_row_meets)))
    (l_law_row_meets : K.lookup f_law_row_meets = some ⟨oc_law_row_meets, od_law_row_meets, .func (PySem.W.fnOf "_law_row_meets" "_law_row_meets" (defArgs s_law_row_meets) (defBody s_law_row_meets) (defScope s_law_row_meets) .none kV_law_row_meets doc_law_row_meets pm_law_row_meets an_law_row_meets cd_law_row_meets ct_law_row_meets), sl_law_row_meets⟩)
    (cd_is_law_row_meets : PySem.W.codeIn K cd_law_row_meets "_law_row_meets" = true)
    (k_law_row_meets : PySem.W.keepIn K (.ref f_law_row_meets) = true)
    (a_law_groups_meet : PySem.W.nsIn K mainGlobals "_law_groups_meet" = some (some (.ref f_law_groups_meet)))
    (l_law_groups_meet : K.lookup f_law_groups_meet = some ⟨oc_law_groups_meet, od_law_groups_meet, .func (PySem.W.fnOf "_law_groups_meet" "_law_groups_meet" (defArgs s_law_groups_meet) (defBody s_law_groups_meet) (defScope s_law_groups_meet) .none kV_law_groups_meet doc_law_groups_meet pm_law_groups_meet an_law_groups_meet cd_law_groups_meet ct_law_groups_meet), sl_law_groups_meet⟩)
    (cd_is_law_groups_meet : PySem.W.codeIn K cd_law_groups_meet "_law_groups_meet" = true)
    (k_law_groups_meet : PySem.W.keepIn K (.ref f_law_groups_meet) = true)
    (a_law_pieces_meet : PySem.W.nsIn K mainGlobals "_law_pieces_meet" = some (some (.ref f_law_pieces_meet)))
    (l_law_pieces_meet : K.lookup f_law_pieces_meet = some ⟨oc_law_pieces_meet, od_law_pieces_meet, .func (PySem.W.fnOf "_law_pieces_meet" "_law_pieces_meet" (defArgs s_law_pieces_meet) (defBody s_law_pieces_meet) (defScope s_law_pieces_meet) .none kV_law_pieces_meet doc_law_pieces_meet pm_law_pieces_meet an_law_pieces_meet cd_law_pieces_meet ct_law_pieces_meet), sl_law_pieces_meet⟩)
    (cd_is_law_pieces_meet : PySem.W.codeIn K cd_law_pieces_meet "_law_pieces_meet" = true)
    (k_law_pieces_meet : PySem.W.keepIn K (.ref f_law_pieces_meet) = true)
    (a_law_census_meets : PySem.W.nsIn K mainGlobals "_law_census_meets" = some (some (.ref f_law_census_meets)))
    (l_law_census_meets : K.lookup f_law_census_meets = some ⟨oc_law_census_meets, od_law_census_meets, .func (PySem.W.fnOf "_law_census_meets" "_law_census_meets" (defArgs s_law_census_meets) (defBody s_law_census_meets) (defScope s_law_census_meets) .none kV_law_census_meets doc_law_census_meets pm_law_census_meets an_law_census_meets cd_law_census_meets ct_law_census_meets), sl_law_census_meets⟩)
    (cd_is_law_census_meets : PySem.W.codeIn K cd_law_census_meets "_law_census_meets" = true)
    (k_law_census_meets : PySem.W.keepIn K (.ref f_law_census_meets) = true)
    (a_law_words_meet : PySem.W.nsIn K mainGlobals "_law_words_meet" = some (some (.ref f_law_words_meet)))
    (l_law_words_meet : K.lookup f_law_words_meet = some ⟨oc_law_words_meet, od_law_words_meet, .func (PySem.W.fnOf "_law_words_meet" "_law_words_meet" (defArgs s_law_words_meet) (defBody s_law_words_meet) (defScope s_law_words_meet) .none kV_law_words_meet doc_law_words_meet pm_law_words_meet an_law_words_meet cd_law_words_meet ct_law_words_meet), sl_law_words_meet⟩)
    (cd_is_law_words_meet : PySem.W.codeIn K cd_law_words_meet "_law_words_meet" = true)
    (k_law_words_meet : PySem.W.keepIn K (.ref f_law_words_meet) = true)
    (a_law_groups_stand : PySem.W.nsIn K mainGlobals "_law_groups_stand" = some (some (.ref f_law_groups_stand)))
    (l_law_groups_stand : K.lookup f_law_groups_stand = some ⟨oc_law_groups_stand, od_law_groups_stand, .func (PySem.W.fnOf "_law_groups_stand" "_law_groups_stand" (defArgs s_law_groups_stand) (defBody s_law_groups_stand) (defScope s_law_groups_stand) .none kV_law_groups_stand doc_law_groups_stand pm_law_groups_stand an_law_groups_stand cd_law_groups_stand ct_law_groups_stand), sl_law_groups_stand⟩)
    (cd_is_law_groups_stand : PySem.W.codeIn K cd_law_groups_stand "_law_groups_stand" = true)
    (k_law_groups_stand : PySem.W.keepIn K (.ref f_law_groups_stand) = true)
    (a_law_pieces_stand : PySem.W.nsIn K mainGlobals "_law_pieces_stand" = some (some (.ref f_law_pieces_stand)))
    (l_law_pieces_stand : K.lookup f_law_pieces_stand = some ⟨oc_law_pieces_stand, od_law_pieces_stand, .func (PySem.W.fnOf "_law_pieces_stand" "_law_pieces_stand" (defArgs s_law_pieces_stand) (defBody s_law_pieces_stand) (defScope s_law_pieces_stand) .none kV_law_pieces_stand doc_law_pieces_stand pm_law_pieces_stand an_law_pieces_stand cd_law_pieces_stand ct_law_pieces_stand), sl_law_pieces_stand⟩)
    (cd_is_law_pieces_stand : PySem.W.codeIn K cd_law_pieces_stand "_law_pieces_stand" = true)
    (k_law_pieces_stand : PySem.W.keepIn K (.ref f_law_pieces_stand) = true)
    (a_law : PySem.W.nsIn K mainGlobals "law" = some (some (.ref f_law)))
    (l_law : K.lookup f_law = some ⟨oc_law, od_law, .func (PySem.W.fnOf "law" "law" (defArgs s_law) (defBody s_law) (defScope s_law) .none kV_law doc_law pm_law an_law cd_law ct_law), sl_law⟩)
    (cd_is_law : PySem.W.codeIn K cd_law "law" = true)
    (k_law : PySem.W.keepIn K (.ref f_law) = true)
    (a_WORDS : PySem.W.nsIn K mainGlobals "WORDS" = some (some (.ref c_WORDS)))
    (a_WHOLE : PySem.W.nsIn K mainGlobals "_WHOLE" = some (some (.ref c_WHOLE)))
    (a_FORMS : PySem.W.nsIn K mainGlobals "_FORMS" = some (some (.ref c_FORMS)))
    (l_WORDS : K.lookup c_WORDS = some ⟨.type "tuple", odc_WORDS, .seq #[.str "free" tWORDS_0, .str "pair" tWORDS_1, .str "claim" tWORDS_2, .str "hook" tWORDS_3, .str "relay" tWORDS_4, .str "clamp" tWORDS_5, .str "trail" tWORDS_6, .str "wheel" tWORDS_7] nc_WORDS, slc_WORDS⟩)
    (l_WHOLE : K.lookup c_WHOLE = some ⟨.type "tuple", odc_WHOLE, .seq #[.str "free" tWHOLE_0, .str "pair" tWHOLE_1] nc_WHOLE, slc_WHOLE⟩)
    (sm_FORMS : (c_FORMS == sysModules) = false)
    (l_FORMS : K.lookup c_FORMS = some { cls := .type "dict", data := .dict #[⟨-8753497827991233192, .ref kk0, .str "free" tF0⟩, ⟨-5164621852614943976, .ref kk1, .str "pair" tF1⟩, ⟨8389048192121911274, .ref kk2, .str "claim" tF2⟩, ⟨3313134723150563520, .ref kk3, .str "hook" tF3⟩, ⟨-1579939305822132846, .ref kk4, .str "relay" tF4⟩, ⟨8677768113715720416, .ref kk5, .str "clamp" tF5⟩, ⟨3374690043038133861, .ref kk6, .str "trail" tF6⟩, ⟨1760123315908831802, .ref kk7, .str "wheel" tF7⟩] epF })
    (l_F0 : K.lookup kk0 = some ⟨.type "tuple", odF0, .seq #[.int 0 aF0_0] nF0, slF0⟩)
    (l_F1 : K.lookup kk1 = some ⟨.type "tuple", odF1, .seq #[.int 1 aF1_0, .int 0 aF1_1] nF1, slF1⟩)
    (l_F2 : K.lookup kk2 = some ⟨.type "tuple", odF2, .seq #[.int 1 aF2_0, .int 1 aF2_1] nF2, slF2⟩)
    (l_F3 : K.lookup kk3 = some ⟨.type "tuple", odF3, .seq #[.int 1 aF3_0, .int 2 aF3_1, .int 1 aF3_2] nF3, slF3⟩)
    (l_F4 : K.lookup kk4 = some ⟨.type "tuple", odF4, .seq #[.int 1 aF4_0, .int 2 aF4_1, .int 2 aF4_2] nF4, slF4⟩)
    (l_F5 : K.lookup kk5 = some ⟨.type "tuple", odF5, .seq #[.int 1 aF5_0, .int 2 aF5_1, .int 1 aF5_2, .int 2 aF5_3] nF5, slF5⟩)
    (l_F6 : K.lookup kk6 = some ⟨.type "tuple", odF6, .seq #[.int 1 aF6_0, .int 2 aF6_1, .int 3 aF6_2, .int 2 aF6_3] nF6, slF6⟩)
    (l_F7 : K.lookup kk7 = some ⟨.type "tuple", odF7, .seq #[.int 1 aF7_0, .int 2 aF7_1, .int 3 aF7_2, .int 0 aF7_3] nF7, slF7⟩)
    (z_int : PySem.W.nsIn K mainGlobals "int" = some none)
    (z_bool : PySem.W.nsIn K mainGlobals "bool" = some none)
    (z_list : PySem.W.nsIn K mainGlobals "list" = some none)
    (z_str : PySem.W.nsIn K mainGlobals "str" = some none)
    (z_tuple : PySem.W.nsIn K mainGlobals "tuple" = some none)
    (z_dict : PySem.W.nsIn K mainGlobals "dict" = some none)
    (z_len : PySem.W.nsIn K mainGlobals "len" = some none)
    (z_range : PySem.W.nsIn K mainGlobals "range" = some none)
    (z_enumerate : PySem.W.nsIn K mainGlobals "enumerate" = some none)
    (z_isinstance : PySem.W.nsIn K mainGlobals "isinstance" = some none)
    (z_all : PySem.W.nsIn K mainGlobals "all" = some none)
    (z_min : PySem.W.nsIn K mainGlobals "min" = some none)
    (z_max : PySem.W.nsIn K mainGlobals "max" = some none)
    (z_sorted : PySem.W.nsIn K mainGlobals "sorted" = some none)
    : ∃ fd : FuncData, (∀ (s : Shared) (v : Value), BindsTo s fd ⟨[v], []⟩ [("script", v)]) ∧ ∀ base : Heap, K.In base → base.Ns mainGlobals mg → FnOk l.prog w K mg base CX0 6 fa fd ["script"] (spLaw K) := by
  have e := hfa.symm.trans (PySem.W.mg_of X G a_law)
  cases e
  obtain ⟨A, hA⟩ : ∃ A : Ad, A = ⟨f_own, f_check_image, f_groups, f_least_records, f_pieces, f_is_repairable, f_census, f_torn_pieces, f_piece_of, f_row_of, f_law_bag, f_law_take, f_law_order, f_law_words, f_law_pattern, f_law_canonical, f_law_build, f_law_row_meets, f_law_groups_meet, f_law_pieces_meet, f_law_census_meets, f_law_words_meet, f_law_groups_stand, f_law_pieces_stand, fa, c_WORDS, c_WHOLE, c_FORMS⟩ := ⟨_, rfl⟩
  have T : Txt K mg A := {
    g_own := by rw [hA]; exact PySem.W.mg_of X G a_own,
    k_own := by rw [hA]; exact k_own,
    d_own := by rw [hA]; exact ⟨_, fun_mk (st := s_own) l_own cd_is_own k_own⟩,
    g_check_image := by rw [hA]; exact PySem.W.mg_of X G a_check_image,
    k_check_image := by rw [hA]; exact k_check_image,
    d_check_image := by rw [hA]; exact ⟨_, fun_mk (st := s_check_image) l_check_image cd_is_check_image k_check_image⟩,
    g_groups := by rw [hA]; exact PySem.W.mg_of X G a_groups,
    k_groups := by rw [hA]; exact k_groups,
    d_groups := by rw [hA]; exact ⟨_, fun_mk (st := s_groups) l_groups cd_is_groups k_groups⟩,
    g_least_records := by rw [hA]; exact PySem.W.mg_of X G a_least_records,
    k_least_records := by rw [hA]; exact k_least_records,
    d_least_records := by rw [hA]; exact ⟨_, fun_mk (st := s_least_records) l_least_records cd_is_least_records k_least_records⟩,
    g_pieces := by rw [hA]; exact PySem.W.mg_of X G a_pieces,
    k_pieces := by rw [hA]; exact k_pieces,
    d_pieces := by rw [hA]; exact ⟨_, fun_mk (st := s_pieces) l_pieces cd_is_pieces k_pieces⟩,
    g_is_repairable := by rw [hA]; exact PySem.W.mg_of X G a_is_repairable,
    k_is_repairable := by rw [hA]; exact k_is_repairable,
    d_is_repairable := by rw [hA]; exact ⟨_, fun_mk (st := s_is_repairable) l_is_repairable cd_is_is_repairable k_is_repairable⟩,
    g_census := by rw [hA]; exact PySem.W.mg_of X G a_census,
    k_census := by rw [hA]; exact k_census,
    d_census := by rw [hA]; exact ⟨_, fun_mk (st := s_census) l_census cd_is_census k_census⟩,
    g_torn_pieces := by rw [hA]; exact PySem.W.mg_of X G a_torn_pieces,
    k_torn_pieces := by rw [hA]; exact k_torn_pieces,
    d_torn_pieces := by rw [hA]; exact ⟨_, fun_mk (st := s_torn_pieces) l_torn_pieces cd_is_torn_pieces k_torn_pieces⟩,
    g_piece_of := by rw [hA]; exact PySem.W.mg_of X G a_piece_of,
    k_piece_of := by rw [hA]; exact k_piece_of,
    d_piece_of := by rw [hA]; exact ⟨_, fun_mk (st := s_piece_of) l_piece_of cd_is_piece_of k_piece_of⟩,
    g_row_of := by rw [hA]; exact PySem.W.mg_of X G a_row_of,
    k_row_of := by rw [hA]; exact k_row_of,
    d_row_of := by rw [hA]; exact ⟨_, fun_mk (st := s_row_of) l_row_of cd_is_row_of k_row_of⟩,
    g_law_bag := by rw [hA]; exact PySem.W.mg_of X G a_law_bag,
    k_law_bag := by rw [hA]; exact k_law_bag,
    d_law_bag := by rw [hA]; exact ⟨_, fun_mk (st := s_law_bag) l_law_bag cd_is_law_bag k_law_bag⟩,
    g_law_take := by rw [hA]; exact PySem.W.mg_of X G a_law_take,
    k_law_take := by rw [hA]; exact k_law_take,
    d_law_take := by rw [hA]; exact ⟨_, fun_mk (st := s_law_take) l_law_take cd_is_law_take k_law_take⟩,
    g_law_order := by rw [hA]; exact PySem.W.mg_of X G a_law_order,
    k_law_order := by rw [hA]; exact k_law_order,
    d_law_order := by rw [hA]; exact ⟨_, fun_mk (st := s_law_order) l_law_order cd_is_law_order k_law_order⟩,
    g_law_words := by rw [hA]; exact PySem.W.mg_of X G a_law_words,
    k_law_words := by rw [hA]; exact k_law_words,
    d_law_words := by rw [hA]; exact ⟨_, fun_mk (st := s_law_words) l_law_words cd_is_law_words k_law_words⟩,
    g_law_pattern := by rw [hA]; exact PySem.W.mg_of X G a_law_pattern,
    k_law_pattern := by rw [hA]; exact k_law_pattern,
    d_law_pattern := by rw [hA]; exact ⟨_, fun_mk (st := s_law_pattern) l_law_pattern cd_is_law_pattern k_law_pattern⟩,
    g_law_canonical := by rw [hA]; exact PySem.W.mg_of X G a_law_canonical,
    k_law_canonical := by rw [hA]; exact k_law_canonical,
    d_law_canonical := by rw [hA]; exact ⟨_, fun_mk (st := s_law_canonical) l_law_canonical cd_is_law_canonical k_law_canonical⟩,
    g_law_build := by rw [hA]; exact PySem.W.mg_of X G a_law_build,
    k_law_build := by rw [hA]; exact k_law_build,
    d_law_build := by rw [hA]; exact ⟨_, fun_mk (st := s_law_build) l_law_build cd_is_law_build k_law_build⟩,
    g_law_row_meets := by rw [hA]; exact PySem.W.mg_of X G a_law_row_meets,
    k_law_row_meets := by rw [hA]; exact k_law_row_meets,
    d_law_row_meets := by rw [hA]; exact ⟨_, fun_mk (st := s_law_row_meets) l_law_row_meets cd_is_law_row_meets k_law_row_meets⟩,
    g_law_groups_meet := by rw [hA]; exact PySem.W.mg_of X G a_law_groups_meet,
    k_law_groups_meet := by rw [hA]; exact k_law_groups_meet,
    d_law_groups_meet := by rw [hA]; exact ⟨_, fun_mk (st := s_law_groups_meet) l_law_groups_meet cd_is_law_groups_meet k_law_groups_meet⟩,
    g_law_pieces_meet := by rw [hA]; exact PySem.W.mg_of X G a_law_pieces_meet,
    k_law_pieces_meet := by rw [hA]; exact k_law_pieces_meet,
    d_law_pieces_meet := by rw [hA]; exact ⟨_, fun_mk (st := s_law_pieces_meet) l_law_pieces_meet cd_is_law_pieces_meet k_law_pieces_meet⟩,
    g_law_census_meets := by rw [hA]; exact PySem.W.mg_of X G a_law_census_meets,
    k_law_census_meets := by rw [hA]; exact k_law_census_meets,
    d_law_census_meets := by rw [hA]; exact ⟨_, fun_mk (st := s_law_census_meets) l_law_census_meets cd_is_law_census_meets k_law_census_meets⟩,
    g_law_words_meet := by rw [hA]; exact PySem.W.mg_of X G a_law_words_meet,
    k_law_words_meet := by rw [hA]; exact k_law_words_meet,
    d_law_words_meet := by rw [hA]; exact ⟨_, fun_mk (st := s_law_words_meet) l_law_words_meet cd_is_law_words_meet k_law_words_meet⟩,
    g_law_groups_stand := by rw [hA]; exact PySem.W.mg_of X G a_law_groups_stand,
    k_law_groups_stand := by rw [hA]; exact k_law_groups_stand,
    d_law_groups_stand := by rw [hA]; exact ⟨_, fun_mk (st := s_law_groups_stand) l_law_groups_stand cd_is_law_groups_stand k_law_groups_stand⟩,
    g_law_pieces_stand := by rw [hA]; exact PySem.W.mg_of X G a_law_pieces_stand,
    k_law_pieces_stand := by rw [hA]; exact k_law_pieces_stand,
    d_law_pieces_stand := by rw [hA]; exact ⟨_, fun_mk (st := s_law_pieces_stand) l_law_pieces_stand cd_is_law_pieces_stand k_law_pieces_stand⟩,
    g_law := by rw [hA]; exact PySem.W.mg_of X G a_law,
    k_law := by rw [hA]; exact k_law,
    d_law := by rw [hA]; exact ⟨_, fun_mk (st := s_law) l_law cd_is_law k_law⟩,
    g_WORDS := by rw [hA]; exact PySem.W.mg_of X G a_WORDS,
    g_WHOLE := by rw [hA]; exact PySem.W.mg_of X G a_WHOLE,
    g_FORMS := by rw [hA]; exact PySem.W.mg_of X G a_FORMS,
    n_int := PySem.W.mg_none_of X G z_int,
    n_bool := PySem.W.mg_none_of X G z_bool,
    n_list := PySem.W.mg_none_of X G z_list,
    n_str := PySem.W.mg_none_of X G z_str,
    n_tuple := PySem.W.mg_none_of X G z_tuple,
    n_dict := PySem.W.mg_none_of X G z_dict,
    n_len := PySem.W.mg_none_of X G z_len,
    n_range := PySem.W.mg_none_of X G z_range,
    n_enumerate := PySem.W.mg_none_of X G z_enumerate,
    n_isinstance := PySem.W.mg_none_of X G z_isinstance,
    n_all := PySem.W.mg_none_of X G z_all,
    n_min := PySem.W.mg_none_of X G z_min,
    n_max := PySem.W.mg_none_of X G z_max,
    n_sorted := PySem.W.mg_none_of X G z_sorted,
    w_WORDS := by rw [hA]; exact words_mk l_WORDS,
    w_WHOLE := by rw [hA]; exact whole_mk l_WHOLE }
  have hF : TabK l.prog w K A.FORMS formsT := by rw [hA]; exact forms_mk sm_FORMS l_FORMS l_F0 l_F1 l_F2 l_F3 l_F4 l_F5 l_F6 l_F7
  have hW : ∃ o, List.lookup A.WORDS K = some o ∧ o.cls = Value.type "tuple" := by rw [hA]; exact ⟨_, l_WORDS, rfl⟩
  have FL := fun_mk (st := s_law) l_law cd_is_law k_law
  have eL : A.law = fa := by rw [hA]
  refine ⟨PySem.W.fnOf "law" "law" (defArgs s_law) (defBody s_law) (defScope s_law) .none kV_law doc_law pm_law an_law cd_law ct_law, fun s v => .of_eq rfl, fun base _ _ => ?_⟩
  rw [← eL] at FL ⊢
  have g_check_image := ok_check_image (P := l.prog) (w := w) (base := base) T 
  have g_least_records := ok_least_records (P := l.prog) (w := w) (base := base) T 
  have g_groups := ok_groups (P := l.prog) (w := w) (base := base) T g_check_image g_least_records
  have g_row_of := ok_row_of (P := l.prog) (w := w) (base := base) T 
  have g_piece_of := ok_piece_of (P := l.prog) (w := w) (base := base) T hF g_row_of
  have g_pieces := ok_pieces (P := l.prog) (w := w) (base := base) T g_groups g_piece_of
  have g_is_repairable := ok_is_repairable (P := l.prog) (w := w) (base := base) T g_groups g_piece_of
  have g_census := ok_census (P := l.prog) (w := w) (base := base) T g_pieces
  have g_torn_pieces := ok_torn_pieces (P := l.prog) (w := w) (base := base) T g_pieces
  have g_law_bag := ok_law_bag (P := l.prog) (w := w) (base := base) T 
  have g_law_take := ok_law_take (P := l.prog) (w := w) (base := base) T 
  have g_law_order := ok_law_order (P := l.prog) (w := w) (base := base) T g_law_take
  have g_law_words := ok_law_words (P := l.prog) (w := w) (base := base) T 
  have g_law_pattern := ok_law_pattern (P := l.prog) (w := w) (base := base) T 
  have g_law_canonical := ok_law_canonical (P := l.prog) (w := w) (base := base) T 
  have g_law_build := ok_law_build (P := l.prog) (w := w) (base := base) T g_law_take g_law_pattern g_law_order g_law_canonical
  have g_law_row_meets := ok_law_row_meets (P := l.prog) (w := w) (base := base) T 
  have g_law_groups_meet := ok_law_groups_meet (P := l.prog) (w := w) (base := base) T g_law_row_meets
  have g_law_pieces_meet := ok_law_pieces_meet (P := l.prog) (w := w) (base := base) T g_law_words g_law_row_meets
  have g_law_census_meets := ok_law_census_meets (P := l.prog) (w := w) (base := base) T g_law_words
  have g_law_words_meet := ok_law_words_meet (P := l.prog) (w := w) (base := base) T hW g_law_words
  have g_law_groups_stand := ok_law_groups_stand (P := l.prog) (w := w) (base := base) T g_groups g_law_groups_meet
  have g_law_pieces_stand := ok_law_pieces_stand (P := l.prog) (w := w) (base := base) T g_pieces g_torn_pieces g_law_pieces_meet
  exact ok_law T FL g_law_bag g_law_take g_law_build g_law_words_meet g_law_groups_stand g_law_pieces_stand g_census g_law_census_meets g_is_repairable
theorem walk {l : PySem.W.OpenLaw} {q : Program} {loose : List Str} {XP : (Str → Option Value) → Heap → Prop} {YP : World → Heap → Prop} {d : DefRec} {K : Params → PySem.W.Frag} (hn : l.most = some 63) (hdf : d.params.defaults = [])
    (hY : ∀ (w : World) (h : Heap), YP w h → (K w.params).In h)
    (F : ∀ (w : World) (mg : Str → Option Value) (fa : Addr) (h : Heap), (K w.params).In h → h.Ns mainGlobals mg → mg d.name = some (.ref fa) →
      ∃ fd : FuncData, (∀ (s : Shared) (u : Value), BindsTo s fd ⟨[u], []⟩ [("script", u)]) ∧ ∀ base : Heap, (K w.params).In base → base.Ns mainGlobals mg → FnOk l.prog w (K w.params) mg base CX0 6 fa fd ["script"] (spLaw (K w.params))) :
    PySem.W.WalkO q loose XP YP l.row.toRowW d [] (fun f vs => PySem.call f vs) :=
  L2.walk_of (n := 63) (k := 6) (x := "script") (CX := fun _ => CX0) (sp := fun w => spLaw (K w.params)) hn (by decide) hdf ⟨rfl, by decide, by decide⟩ hY F (fun _ _ a ns hl _ hS => ⟨a, ns, rfl, hS, hl, fun _ => rfl⟩) fun _ _ _ _ _ z => z
end Pv

open PySem PySem.W PyProof.Rows
set_option maxRecDepth 100000 in
set_option maxHeartbeats 0 in
theorem PySem.Challenge.cw_peermend_k01_whole_pieces_of_built_image_holds : PySem.Challenge.rw_peermend_k01_whole_pieces_of_built_image.Holds := by
  w_on; o_law; k_head; (case hw => w_witness2)
  k_fill
  refine Pv.walk (l := PySem.Challenge.rw_peermend_k01_whole_pieces_of_built_image) rfl rfl (fun w h Y => PySem.W.kIn_of Y) ?F
  case F =>
    intro w mg fa h KX G hmg
    refine' Pv.all_mk KX G hmg ?qa_own ?ql_own ?qcd_is_own ?qk_own ?qa_check_image ?ql_check_image ?qcd_is_check_image ?qk_check_image ?qa_groups ?ql_groups ?qcd_is_groups ?qk_groups ?qa_least_records ?ql_least_records ?qcd_is_least_records ?qk_least_records ?qa_pieces ?ql_pieces ?qcd_is_pieces ?qk_pieces ?qa_is_repairable ?ql_is_repairable ?qcd_is_is_repairable ?qk_is_repairable ?qa_census ?ql_census ?qcd_is_census ?qk_census ?qa_torn_pieces ?ql_torn_pieces ?qcd_is_torn_pieces ?qk_torn_pieces ?qa_piece_of ?ql_piece_of ?qcd_is_piece_of ?qk_piece_of ?qa_row_of ?ql_row_of ?qcd_is_row_of ?qk_row_of ?qa_law_bag ?ql_law_bag ?qcd_is_law_bag ?qk_law_bag ?qa_law_take ?ql_law_take ?qcd_is_law_take ?qk_law_take ?qa_law_order ?ql_law_order ?qcd_is_law_order ?qk_law_order ?qa_law_words ?ql_law_words ?qcd_is_law_words ?qk_law_words ?qa_law_pattern ?ql_law_pattern ?qcd_is_law_pattern ?qk_law_pattern ?qa_law_canonical ?ql_law_canonical ?qcd_is_law_canonical ?qk_law_canonical ?qa_law_build ?ql_law_build ?qcd_is_law_build ?qk_law_build ?qa_law_row_meets ?ql_law_row_meets ?qcd_is_law_row_meets ?qk_law_row_meets ?qa_law_groups_meet ?ql_law_groups_meet ?qcd_is_law_groups_meet ?qk_law_groups_meet ?qa_law_pieces_meet ?ql_law_pieces_meet ?qcd_is_law_pieces_meet ?qk_law_pieces_meet ?qa_law_census_meets ?ql_law_census_meets ?qcd_is_law_census_meets ?qk_law_census_meets ?qa_law_words_meet ?ql_law_words_meet ?qcd_is_law_words_meet ?qk_law_words_meet ?qa_law_groups_stand ?ql_law_groups_stand ?qcd_is_law_groups_stand ?qk_law_groups_stand ?qa_law_pieces_stand ?ql_law_pieces_stand ?qcd_is_law_pieces_stand ?qk_law_pieces_stand ?qa_law ?ql_law ?qcd_is_law ?qk_law ?qa_WORDS ?qa_WHOLE ?qa_FORMS ?ql_WORDS ?ql_WHOLE ?qsm_FORMS ?ql_FORMS ?ql_F0 ?ql_F1 ?ql_F2 ?ql_F3 ?ql_F4 ?ql_F5 ?ql_F6 ?ql_F7 ?qz_int ?qz_bool ?qz_list ?qz_str ?qz_tuple ?qz_dict ?qz_len ?qz_range ?qz_enumerate ?qz_isinstance ?qz_all ?qz_min ?qz_max ?qz_sorted
    (case qa_own => k_is)
    (case ql_own => k_is)
    (case qcd_is_own => k_is)
    (case qk_own => k_is)
    (case qa_check_image => k_is)
    (case ql_check_image => k_is)
    (case qcd_is_check_image => k_is)
    (case qk_check_image => k_is)
    (case qa_groups => k_is)
    (case ql_groups => k_is)
    (case qcd_is_groups => k_is)
    (case qk_groups => k_is)
    (case qa_least_records => k_is)
    (case ql_least_records => k_is)
    (case qcd_is_least_records => k_is)
    (case qk_least_records => k_is)
    (case qa_pieces => k_is)
    (case ql_pieces => k_is)
    (case qcd_is_pieces => k_is)
    (case qk_pieces => k_is)
    (case qa_is_repairable => k_is)
    (case ql_is_repairable => k_is)
    (case qcd_is_is_repairable => k_is)
    (case qk_is_repairable => k_is)
    (case qa_census => k_is)
    (case ql_census => k_is)
    (case qcd_is_census => k_is)
    (case qk_census => k_is)
    (case qa_torn_pieces => k_is)
    (case ql_torn_pieces => k_is)
    (case qcd_is_torn_pieces => k_is)
    (case qk_torn_pieces => k_is)
    (case qa_piece_of => k_is)
    (case ql_piece_of => k_is)
    (case qcd_is_piece_of => k_is)
    (case qk_piece_of => k_is)
    (case qa_row_of => k_is)
    (case ql_row_of => k_is)
    (case qcd_is_row_of => k_is)
    (case qk_row_of => k_is)
    (case qa_law_bag => k_is)
    (case ql_law_bag => k_is)
    (case qcd_is_law_bag => k_is)
    (case qk_law_bag => k_is)
    (case qa_law_take => k_is)
    (case ql_law_take => k_is)
    (case qcd_is_law_take => k_is)
    (case qk_law_take => k_is)
    (case qa_law_order => k_is)
    (case ql_law_order => k_is)
    (case qcd_is_law_order => k_is)
    (case qk_law_order => k_is)
    (case qa_law_words => k_is)
    (case ql_law_words => k_is)
    (case qcd_is_law_words => k_is)
    (case qk_law_words => k_is)
    (case qa_law_pattern => k_is)
    (case ql_law_pattern => k_is)
    (case qcd_is_law_pattern => k_is)
    (case qk_law_pattern => k_is)
    (case qa_law_canonical => k_is)
    (case ql_law_canonical => k_is)
    (case qcd_is_law_canonical => k_is)
    (case qk_law_canonical => k_is)
    (case qa_law_build => k_is)
    (case ql_law_build => k_is)
    (case qcd_is_law_build => k_is)
    (case qk_law_build => k_is)
    (case qa_law_row_meets => k_is)
    (case ql_law_row_meets => k_is)
    (case qcd_is_law_row_meets => k_is)
    (case qk_law_row_meets => k_is)
    (case qa_law_groups_meet => k_is)
    (case ql_law_groups_meet => k_is)
    (case qcd_is_law_groups_meet => k_is)
    (case qk_law_groups_meet => k_is)
    (case qa_law_pieces_meet => k_is)
    (case ql_law_pieces_meet => k_is)
    (case qcd_is_law_pieces_meet => k_is)
    (case qk_law_pieces_meet => k_is)
    (case qa_law_census_meets => k_is)
    (case ql_law_census_meets => k_is)
    (case qcd_is_law_census_meets => k_is)
    (case qk_law_census_meets => k_is)
    (case qa_law_words_meet => k_is)
    (case ql_law_words_meet => k_is)
    (case qcd_is_law_words_meet => k_is)
    (case qk_law_words_meet => k_is)
    (case qa_law_groups_stand => k_is)
    (case ql_law_groups_stand => k_is)
    (case qcd_is_law_groups_stand => k_is)
    (case qk_law_groups_stand => k_is)
    (case qa_law_pieces_stand => k_is)
    (case ql_law_pieces_stand => k_is)
    (case qcd_is_law_pieces_stand => k_is)
    (case qk_law_pieces_stand => k_is)
    (case qa_law => k_is)
    (case ql_law => k_is)
    (case qcd_is_law => k_is)
    (case qk_law => k_is)
    (case qa_WORDS => k_is)
    (case qa_WHOLE => k_is)
    (case qa_FORMS => k_is)
    (case ql_WORDS => k_is)
    (case ql_WHOLE => k_is)
    (case qsm_FORMS => first | decide | rfl | k_is)
    (case ql_FORMS => k_is)
    (case ql_F0 => k_is)
    (case ql_F1 => k_is)
    (case ql_F2 => k_is)
    (case ql_F3 => k_is)
    (case ql_F4 => k_is)
    (case ql_F5 => k_is)
    (case ql_F6 => k_is)
    (case ql_F7 => k_is)
    (case qz_int => k_is)
    (case qz_bool => k_is)
    (case qz_list => k_is)
    (case qz_str => k_is)
    (case qz_tuple => k_is)
    (case qz_dict => k_is)
    (case qz_len => k_is)
    (case qz_range => k_is)
    (case qz_enumerate => k_is)
    (case qz_isinstance => k_is)
    (case qz_all => k_is)
    (case qz_min => k_is)
    (case qz_max => k_is)
    (case qz_sorted => k_is)
