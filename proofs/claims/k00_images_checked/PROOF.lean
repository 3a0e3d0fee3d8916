import PyProof.Rows.All
import Wide.All
import OpenK.AllK
import Wide.FinOn
import KE.KIsAll
import KE.KExcIs
import HandS.ForMost
import HandS.ForExc
import HandS.TryMany
import HandS.ExcInit
import HandS.ExcValue
import HandS.ExcField
import HandS.IsInst
import HandS.ExcIs
import HandS.Small
import HandS.Wide
import HandS.Flow
import HandS.Evl
import HandS.Conv
import HandS.Walk
import PySem.Challenge.RW_peermend_k00_images_checked
set_option Elab.async false
set_option linter.all false
set_option maxRecDepth 100000
set_option maxHeartbeats 4000000
namespace L2
open PySem PySem.Spec PyProof.Rows

/-- an error object held as a value: without a dict, or with one that holds fields -/
def ErrT (H : Hp) (a C : Addr) : Prop := H a = some (ExO (.ref C) a) ∨ ∃ (dx : Addr) (fs : List (Str × V)), H a = some (exo a C (some dx)) ∧ H dx = some (exd dx fs)
/-- isinstance of such a value -/
def rIsX (K : PySem.W.Frag) : List V → Hp → VK → Prop := fun xs H Q => ∃ (a C : Addr) (c : V) (u : Value) (b : Bool), xs = [.ref a, c] ∧ ErrT H a C ∧ ExcC K C ∧ ClsV c u ∧ PySem.W.kitOne K (.ref C) u = some b ∧ Q (.bl b) H
theorem clsIn_some {K : PySem.W.Frag} {C : Addr} (h : PySem.W.hasDictIn K C = true) : (PySem.W.clsIn K C).isSome = true := by
  obtain ⟨cd, hc, _⟩ := PySem.W.any_some h
  rw [hc]
  rfl
theorem kitX_err {K : PySem.W.Frag} {C a : Addr} {oe : Obj} {od : Option Obj} (D : ExcC K C) : PySem.W.KitX K (.ref a) (.ref C) (fun h => PySem.W.InstAt h a oe C od) :=
  PySem.W.kitx_exc (clsIn_some D.hd) D.hg D.hk D.hs D.ha D.hn D.ht D.hm
theorem call_isX {X : Cx} : CallR X (.builtin "isinstance") (rIsX X.K) := by
  intro pins s σ H xs us Q I r h
  obtain ⟨a, C, c, u, b, rfl, T, D, k, e, q⟩ := h
  obtain ⟨u1, u2, rfl, r1, r2⟩ := vals2 r
  have e2 := k.eq r2
  subst e2
  cases (show u1 = Value.ref a from r1)
  rcases T with ea | ⟨dx, fs, ea, ed⟩
  · have x : ObjOk X.prog X.w H s.heap a (ExO (.ref C) a) := I.hok a _ ea
    obtain ⟨⟨oe, vs, ho, hz, hd, _⟩, _, _⟩ := x
    obtain ⟨oc, odi, oda, osl⟩ := oe
    obtain ⟨h1, h2⟩ := hz
    dsimp only at h1 h2 hd
    subst h1 h2 hd
    exact PySem.W.kia_one (kitX_err (od := none) D) I.kIn ⟨ho, rfl, rfl, trivial⟩ e (fun z => nomatch z) fun tk => ⟨.bl b, H, I.tok tk, rfl, q⟩
  · obtain ⟨t1, ho⟩ := exo_at I.hok ea
    obtain ⟨mA, hns, _⟩ := exd_at I.hok ed
    obtain ⟨od, ho2, _⟩ := lookIn_ns hns
    exact PySem.W.kia_one (kitX_err (od := some od) D) I.kIn ⟨ho, rfl, rfl, ho2⟩ e (fun z => nomatch z) fun tk => ⟨.bl b, H, I.tok tk, rfl, q⟩
/-- isinstance(e, c), e the exception that the suite holds, with its dict -/
def rIsS (K : PySem.W.Frag) (a : Addr) (cls : Value) (d : Option Addr) : List V → Hp → VK → Prop := fun xs H Q => ∃ (C dd : Addr) (fs : List (Str × V)) (c : V) (u : Value) (b : Bool), xs = [.ref a, c] ∧ cls = .ref C ∧ d = some dd ∧ H dd = some (.xd fs) ∧
  ExcC K C ∧ ClsV c u ∧ PySem.W.kitOne K (.ref C) u = some b ∧ Q (.bl b) H
theorem call_isS {X : Cx} {K : PySem.W.Frag} {a : Addr} {cls : Value} {d : Option Addr} {oe : Obj} {pn : List (Addr × Obj)} (hK : X.K = K) (hz : Zc cls d oe) (hf : ∃ vs, oe.data = .fields vs) : CallR (X.suite a ((a, oe) :: pn)) (.builtin "isinstance") (rIsS K a cls d) := by
  subst hK
  intro pins s σ H xs us Q I r h
  obtain ⟨C, dd, fs, c, u, b, rfl, rfl, rfl, ea, D, k, e, q⟩ := h
  obtain ⟨u1, u2, rfl, r1, r2⟩ := vals2 r
  have e2 := k.eq r2
  subst e2
  cases (show u1 = Value.ref a from r1)
  obtain ⟨hget, _⟩ := I.pin (a, oe) (List.mem_append.mpr (.inl List.mem_cons_self))
  obtain ⟨vs, hv⟩ := hf
  have hx : ObjOk X.prog X.w H s.heap dd (.xd fs) := I.hok dd _ ea
  obtain ⟨mA, hns, hr⟩ := hx
  obtain ⟨od, ho, hl⟩ := lookIn_ns hns
  have J : PySem.W.InstAt s.heap a oe C (some od) := ⟨hget, hz.1, by unfold PySem.W.notCls; rw [hv] <;> rfl, by rw [hz.2]; exact ho⟩
  exact PySem.W.kia_one (kitX_err D) I.kIn J e (fun z => nomatch z) fun tk => ⟨.bl b, H, I.kept (t' := tk) fun _ _ z => z, rfl, q⟩

section
variable {X : Cx} {C : Addr} {bmB : List Value} {B newId initId : String} {x : Str} {p pos : Pos}
/-- X(), raised: an own exception class without own __init__ -/
theorem pmk_own0 (F : ExcBaseFacts B newId initId bmB) (q : PySem.W.excIn X.K C bmB newId = true) (gC : X.mg x = some (.ref C)) (kC : PySem.W.keepIn X.K (.ref C) = true) (r : Raises X (.ref C)) (hg : Gl X x)
    (hdb : (x == ("__debug__" : Str)) = false := by decide) : PMk X (.Call (.Name x p) [] [] pos) (fun _ H Q => Q (.ref C) none H) := by
  intro pins s σ H Q I h
  refine wpAny_Call_Name_kw (ld_glob I hg gC ?_ hdb)
  refine PySem.W.callWith_K0 I.kIn kC ?_
  obtain ⟨bm, N, nm, qn, bs, hdct, sn, sub, ab, col, dd, k0, k1, k2, k3, k5, mN, hC, hN, hni, T⟩ := exc_obj I.kIn q
  refine wpAny_call_exc_subT F T hC hN hni (fun h' e hm => ?_) (Nat.zero_le _)
  exact mk_of I hm r h (I.hok.gone hm.new)
/-- X(), as a value -/
theorem pe_exc0 (F : ExcBaseFacts B newId initId bmB) (q : PySem.W.excIn X.K C bmB newId = true) (gC : X.mg x = some (.ref C)) (kC : PySem.W.keepIn X.K (.ref C) = true) (hg : Gl X x)
    (hdb : (x == ("__debug__" : Str)) = false := by decide) : PE X (.Call (.Name x p) [] [] pos) (fun _ H Q => ∀ a, H a = none → Q (.ref a) (upd H a (ExO (.ref C) a))) := by
  refine ⟨fun pins s σ H Q I h => ?_⟩
  refine wpAny_Call_Name_kw (ld_glob I hg gC ?_ hdb)
  refine PySem.W.callWith_K0 I.kIn kC ?_
  obtain ⟨bm, N, nm, qn, bs, hdct, sn, sub, ab, col, dd, k0, k1, k2, k3, k5, mN, hC, hN, hni, T⟩ := exc_obj I.kIn q
  refine wpAny_call_exc_subT F T hC hN hni (fun h' a hm => ?_) (Nat.zero_le _)
  have hn : H a = none := I.hok.gone hm.new
  obtain ⟨t, ht, _, _⟩ := hm.there
  exact ⟨.ref a, upd H a (ExO (.ref C) a), I.laidN hm.keeps hm.new hn (exO_ok ht ⟨rfl, rfl⟩ rfl rfl rfl (show 4 < 6 by decide)), rfl, h a hn⟩
end
/-- X(e, ..) as a value, its own __init__ keeping sp -/
def tMkV (C : Addr) (sp : Sp) (ta : TA) : TE := fun σ H Q => ta σ H fun vs H1 => vs.length ≤ 1000 ∧ ∀ a, H1 a = none → sp (.ref a :: vs) (upd H1 a (exo a C none)) (fun v H2 => v = .non ∧ Q (.ref a) H2) (fun _ _ _ => False)
section
variable {X : Cx} {e : Expr} {es : List Expr} {ta : TA} {p pos : Pos}
theorem pe_oexV {CX : CXT} {x : Str} {C fI : Addr} {k : Nat} {fd : FuncData} {ps : List Str} {sp : Sp} (T : OexC X.K C) (iC : PySem.W.findIn X.K (.ref C) "__init__" = some (some (.ref fI))) (tI : PySem.W.typeIn X.K (.ref fI) = some (.type "function"))
    (F1 : FnOk X.prog X.w X.K X.mg X.base CX k fI fd ps sp) (hr : Room (k + 1) X.A) (hb : Binds X.K fd ps []) (hx : Passes CX X (fun _ _ _ => False)) (hg : Gl X x) (hm : X.mg x = some (.ref C)) (ha : PA X (e :: es) ta)
    (hdb : (x == ("__debug__" : Str)) = false := by decide) (he : starEach (e :: es) X.env = (false, eval e X.env) :: starEach es X.env := by rfl) (hpl : (backTo pos (starEach es X.env)).any (·.1) = false := by rfl) :
    PE X (.Call (.Name x p) (e :: es) [] pos) (tMkV C sp ta) := by
  refine ⟨fun pins s σ H Q I h => ?_⟩
  obtain ⟨nm, q, N, bs, bm, sn, sub, ab, col, dd, k0, k1, k2, k3, k5, hC, hmro⟩ := T.cls
  refine wpAny_Call_Name_kw (ld_glob I hg hm ?_ hdb)
  refine PySem.W.callWith_K (h₀ := X.base) I.ok.mod.kin T.kC (thn (ha.run pos pins s σ H _ I h) fun us s1 ⟨vs, H1, I1, r1, hz, q1⟩ => ⟨I1.kIn, ?_⟩) he hpl
  show wpAny _ _ (call (.ref C) us) _ _ _
  obtain ⟨hh, g, dw, tc, ow⟩ := s1
  have hgt : hh.objs.size ≤ hh.objs.size + 1 := Nat.le_succ _
  have fr1 : H1 (hh.objs.size + 1) = none := I1.hok.fresh hgt
  have pr1 := q1 (hh.objs.size + 1) fr1
  have kp1 : ∀ b o, hh.get? b = some o → ((hh.push (PySem.W.kdv_tup us)).push (PySem.HandSPX.excO C hh.objs.size)).get? b = some o := fun b o e => Heap.get?_push_of_some _ (Heap.get?_push_of_some _ e)
  have ob1 : ((hh.push (PySem.W.kdv_tup us)).push (PySem.HandSPX.excO C hh.objs.size)).get? (hh.objs.size + 1) = some (PySem.HandSPX.excO C hh.objs.size) := by heap_get
  have Iv2 : Inv X pins σ (upd H1 (hh.objs.size + 1) (exo (hh.objs.size + 1) C none)) ⟨(hh.push (PySem.W.kdv_tup us)).push (PySem.HandSPX.excO C hh.objs.size), g, dw, tc, ow⟩ :=
    I1.laid (t' := tc) (a := hh.objs.size + 1) (o := exo (hh.objs.size + 1) C none) (h' := (hh.push (PySem.W.kdv_tup us)).push (PySem.HandSPX.excO C hh.objs.size)) kp1 hgt (exo_ok ob1)
  have rl2 : Vals (V.ref (hh.objs.size + 1) :: vs) (Value.ref (hh.objs.size + 1) :: us) := .cons rfl r1
  have ln1 : (Value.ref (hh.objs.size + 1) :: us).length = ps.length := by
    have e := rl2.length
    rw [F1.len _ _ _ _ pr1] at e
    exact e.symm
  have ln2 : us.length ≤ sizeLine := by
    rw [← Paired.length r1, sizeLine_eq]
    omega
  have b0 := hb ⟨(hh.push (PySem.W.kdv_tup us)).push (PySem.HandSPX.excO C hh.objs.size), g, dw, tc, ow⟩ (Value.ref (hh.objs.size + 1) :: us) Iv2.kIn (by rw [List.append_nil]; exact ln1)
  rw [List.append_nil] at b0
  refine wpAny_call (PySem.HandSPX.call_own F.excBase_ValueError (fun Y => PySem.HandSPX.refsVE_contains Y bm hmro) (I1.kIn _ _ hC) (PySem.W.looks_findIn I1.kIn iC) (fun self => PySem.W.bind_fn I1.kIn self tI) ln2
    (codeAny_mono (F1.run _ X.stack _ _ ⟨Value.ref (hh.objs.size + 1) :: us, []⟩ (Value.ref (hh.objs.size + 1) :: us) _ _ (fun _ _ _ => False) (hr.make C us []) (Iv2.env0.make C us []) b0 rl2 pr1) fun r s' hq' => ?_))
  cases r with
  | error er => exact hx pins σ _ _ er s' Iv2 hq'
  | ok fl =>
    cases fl with
    | ret u =>
      obtain ⟨v, H2, os2, bare2, un2, hok2, rv, ev, q2⟩ := hq'
      subst ev
      exact ⟨rv, .ref (hh.objs.size + 1), H2, Iv2.call' (ch := []) os2 un2 hok2 bare2 (fun b z => absurd z (by simp)), rfl, q2⟩
    | next => exact False.elim hq'
    | brk => exact False.elim hq'
    | cont => exact False.elim hq'
/-- err.f, err an error held as a value -/
def tXa (K : PySem.W.Frag) (f : Str) (te : TE) : TE := fun σ H Q => te σ H fun x H1 => ∃ (a C dx : Addr) (fs : List (Str × V)) (v : V), x = .ref a ∧ H1 a = some (exo a C (some dx)) ∧ H1 dx = some (exd dx fs) ∧ XfC K C ∧ PySem.W.findIn K (.ref C) f = some none ∧ fs.lookup f = some v ∧ Q v H1
theorem pe_xa {te : TE} {n : Str} (he : PE X e te) (hb : attributeBase e n X.env (eval e X.env) = eval e X.env := by rfl) : PE X (.Attribute e n pos) (tXa X.K n te) := by
  refine ⟨fun pins s σ H Q I h => ?_⟩
  refine attr_of hb (thn (he.run pins s σ H _ I h) fun u s1 hh => ?_)
  obtain ⟨x, H1, I1, rx, a, C, dx, fs, v, ex, ea, ed, T, hno, l, q⟩ := hh
  subst ex
  obtain rfl : u = Value.ref a := rx
  obtain ⟨t1, ho⟩ := exo_at I1.hok ea
  obtain ⟨mA, hns, hr⟩ := exd_at I1.hok ed
  obtain ⟨od, ho2, ln1⟩ := lookIn_ns hns
  obtain ⟨u, hu, ru⟩ := RelO.some_of (v := v) (o := mA n) (by rw [← l]; exact hr n)
  have J : PySem.W.InstAt s1.heap a _ C (some od) := ⟨ho, rfl, rfl, ho2⟩
  exact HandSPX.exc_get I1.kIn J T.ga T.gg T.exC (PySem.W.findObj_own T.hdC hno rfl (by rw [ln1, hu])) (handed_of ru) ⟨v, H1, I1.tok _, ru, q⟩
end
theorem ix_listK {X : Cx} {K : PySem.W.Frag} (h : X.K = K) : IxR X (rIxL K) := by
  subst h
  exact ix_list
theorem ix_tupK {X : Cx} {K : PySem.W.Frag} (h : X.K = K) : IxR X (rIxT K) := by
  subst h
  exact ix_tup
/-! several except clauses, some with names -/
/-- what is behind a suite with (slot i) or without a name -/
def goneD (oi : Option Nat) (D : Ends) : Ends := match oi with
  | none => D
  | some i => { nx := fun σ' H' => D.nx (σ'.set i none) H', rt := D.rt, bk := fun σ' H' => D.bk (σ'.set i none) H', ct := fun σ' H' => D.ct (σ'.set i none) H' }
def hadS (oi : Option Nat) (a : Addr) (σ : St) : St := match oi with
  | none => σ
  | some i => σ.set i (some (.ref a))
def wManyN (K : PySem.W.Frag) (Wout : WX) (D : Ends) : List (Value × Option Nat × (Addr → Value → Option Addr → TS)) → WX
  | [] => Wout
  | (c, oi, ts) :: r => fun cls d σ H => ∃ b, PySem.W.exmOne K cls c = some b ∧ (b = true → ∀ a, H a = none → ts a cls d (goneD oi D) (hadS oi a σ) H) ∧ (b = false → wManyN K Wout D r cls d σ H)
inductive HdsN (X : Cx) : List ExceptHandler → List (Value × Option Nat × (Addr → Value → Option Addr → TS)) → Prop
  | nil : HdsN X [] []
  | cons {x : Str} {c : Value} {ts : Addr → Value → Option Addr → TS} {b₀ : Stmt} {suite : List Stmt} {np pos' : Pos} {hds : List ExceptHandler} {l : List (Value × Option Nat × (Addr → Value → Option Addr → TS))} (hc : Names X x c)
      (hsu : ∀ (a : Addr) (oe : Obj) (cls : Value) (d : Option Addr) (pn : List (Addr × Obj)), Zc cls d oe → (∃ vs, oe.data = .fields vs) → PSs (X.suite a ((a, oe) :: pn)) (b₀ :: suite) (ts a cls d)) (r : HdsN X hds l) :
      HdsN X (.ExceptHandler (some (.Name x np)) none (b₀ :: suite) pos' :: hds) ((c, none, ts) :: l)
  | consN {x n : Str} {i : Nat} {c : Value} {ts : Addr → Value → Option Addr → TS} {b₀ : Stmt} {suite : List Stmt} {np pos' : Pos} {hds : List ExceptHandler} {l : List (Value × Option Nat × (Addr → Value → Option Addr → TS))} (hN : X.N.Nodup) (hi : X.N[i]? = some n) (hln : X.env.kindOf n = some .local) (hc : Names X x c)
      (hsu : ∀ (a : Addr) (oe : Obj) (cls : Value) (d : Option Addr) (pn : List (Addr × Obj)), Zc cls d oe → (∃ vs, oe.data = .fields vs) → PSs (X.suite a ((a, oe) :: pn)) (b₀ :: suite) (ts a cls d)) (r : HdsN X hds l) :
      HdsN X (.ExceptHandler (some (.Name x np)) (some n) (b₀ :: suite) pos' :: hds) ((c, some i, ts) :: l)
section
variable {X : Cx} {body : List Stmt} {h₀ : ExceptHandler} {hds : List ExceptHandler} {l : List (Value × Option Nat × (Addr → Value → Option Addr → TS))} {pos : Pos} {tb : WX → TS} {Wout : WX}
theorem ps_try_manyN (hs : X.stack = X.env :: X.outer) (hf : X.env.frame = some X.env.locals) (tk : Takes X Wout)
    (hb : ∀ (W : WX) (pn : List (Addr × Obj)) (xe : Value → Shared → Prop), Takes (X.tr pn xe) W → PassesOwn (model X.prog X.w) X.A X.env xe → PSs (X.tr pn xe) body (tb W))
    (hh : HdsN X (h₀ :: hds) l) : PS X (.Try body (h₀ :: hds) [] [] pos) (fun D σ H => tb (wManyN X.K Wout D l) D σ H) := by
  refine ⟨fun pins s σ H D I h => ?_⟩
  have ok := I.ok
  have frA : X.A.frames = some (X.env :: X.outer) := by rw [ok.frames, hs]
  refine wpAny_Try_except ?_
  refine wpAny_mono ((hb (wManyN X.K Wout D l) (X.pn ++ pins) (fun e s₁ => wpAny (model X.prog X.w) X.A (noteFrame e X.env) (fun _ s₂ => wpAny (model X.prog X.w) X.A (setFlight e none) (fun _ s₃ =>
    wpAny (model X.prog X.w) X.A (handleBy e X.env (h₀ :: hds)) (SP X pins D) X.xe s₃) X.xe s₂) X.xe s₁) (fun u s' xx => ?_) PassesOwn.looking).run [] s σ H D (I.toTry _) h) (fun f s1 back => ?_) (fun e s1 he => he)
  · -- the catch
    obtain ⟨a, B, sI, pins', σ', H', cls, d, rfl, J', nb, up, sky, na, os, ag, w⟩ := xx
    have J : Inv X pins σ' H' sI := J'.ofTry ok
    have skyE : Sky B (X.env :: X.outer) a (Zc cls d) X.env.locals s'.heap := by rw [← hs]; exact sky
    show wpAny (model X.prog X.w) X.A (noteFrame (.ref a) X.env) _ _ _
    refine Sky.land Zc.steady frA hf skyE fun h3 fz3 ut3 => ?_
    have Jn3 : Inv X pins σ' H' { s' with heap := h3 } := J.landed nb fz3.1 (up.trans ut3) os ag
    obtain ⟨ox3, xs3, ob3, zc3, dt3⟩ := fz3.there
    have aside : ∀ {h : Heap} {o : Obj} {vs : Array Value}, h.FunFrames B (X.env :: X.outer) → h.get? a = some o → o.data = .fields vs → a ∉ frs (X.env :: X.outer) := fun {h o vs} ff e dd hm => by
      obtain ⟨_, o', e', hnf⟩ := ff.mem hm
      rw [e] at e'; cases e'
      exact hnf _ dd
    have offF := aside fz3.2.2.1 ob3 dt3
    have offL : a ≠ X.env.locals := fun z => offF (List.mem_filterMap.mpr ⟨X.env, List.mem_cons_self, by rw [hf, z]⟩)
    have offS : a ∉ X.fs := fun hm => by
      obtain ⟨e, he, q⟩ := List.mem_filterMap.mp hm
      exact offF (List.mem_filterMap.mpr ⟨e, List.mem_cons_of_mem _ he, q⟩)
    have In3 := Jn3.suite ob3 dt3 na offL offS
    have go : ∀ {hds' : List ExceptHandler} {l' : List (Value × Option Nat × (Addr → Value → Option Addr → TS))}, HdsN X hds' l' → wManyN X.K Wout D l' cls d σ' H' →
        wpAny (model X.prog X.w) X.A (handleBy (.ref a) X.env hds') (SP X pins D) X.xe { s' with heap := h3 } := by
      intro hds' l' hk
      induction hk with
      | nil =>
        intro w
        refine wpAny_handleBy_nil ?_
        obtain ⟨k1, k2, k3, oe, vs, T, oT, ts', he, hz, hd, h1, hr⟩ := id fz3
        unfold PySem.passOn
        refine wpAny_bind (wpAny_field he hd h1 ?_)
        rw [if_neg (show ¬ ((Value.ref T == Value.none) = true) from by simp)]
        have fin : wpAny (model X.prog X.w) X.A (setFlight (.ref a) X.env.frame) (fun _ s4 => wpAny (model X.prog X.w) X.A (throw (.ref a) : Sem Flow) (SP X pins D) X.xe s4) X.xe { s' with heap := h3 } := by
          rw [hf]
          refine HandSPX.setFlight_upZ fz3 fun h4 hh4 ut4 => wpAny_throw (tk _ _ ?_)
          exact ⟨a, B, sI, pins, σ', H', cls, d, rfl, J, nb, (up.trans ut3).trans ut4, .inr (.inr (by rw [hs]; exact hh4)), na, os, ag, w⟩
        first
          | exact wpAny_bind (wpAny_pure (wpAny_bind fin))
          | exact wpAny_bind fin
      | @cons x c ts b₀ suite np pos' hds2 l2 hc hsu r ih =>
        intro w
        obtain ⟨b, hx1, yes, nay⟩ := w
        refine wpAny_handleBy_cons (codeAny_handlers_test ?_) (by intro q; cases q)
        have lkT : PySem.W.Looks (model X.prog X.w) h3 (typeOf (.ref a)) cls := fun A Q E s k q => wpAny_typeOf_ref (k _ _ ob3) (by rw [zc3.1]; exact q)
        have lkM := PySem.W.exm_one (M := model X.prog X.w) (Jn3.kIn) lkT hx1
        have test : ∀ {Q : Value → Shared → Prop} {E : Value → Shared → Prop}, Q c { s' with heap := h3 } → wpAny (model X.prog X.w) (X.A.mark (some (.ref a))) (eval (.Name x np) X.env) Q E { s' with heap := h3 } := fun {Q E} q => by
          obtain ⟨hg, hdbg, hm | ⟨hm, hv, hnn⟩⟩ := hc
          · exact ld_glob (X := X.suite a ((a, ox3) :: (X.pn ++ pins))) In3 hg hm q hdbg
          · exact ld_blt (X := X.suite a ((a, ox3) :: (X.pn ++ pins))) In3 hg hm hv q hnn hdbg
        refine test (lkM.here ?_)
        cases b with
        | true =>
          refine codeAny_handlers_suite ?_
          refine HandSPX.lands_againZ fz3 fun h4 fz4 ut4 => ?_
          have Jn4 : Inv X pins σ' H' { s' with heap := h4 } := J.landed nb fz4.1 ((up.trans ut3).trans ut4) os ag
          obtain ⟨ox4, xs4, ob4, zc4, dt4⟩ := fz4.there
          have In4 := Jn4.suite ob4 dt4 na offL offS
          refine wpAny_mono ((hsu a ox4 cls d (X.pn ++ pins) zc4 ⟨_, dt4⟩).run [] _ _ H' _ In4 (yes rfl a na)) (fun f t6 back => ?_) (fun _ _ z => False.elim z)
          cases f with
          | next =>
            obtain ⟨σb, Hb, Inb, qb⟩ := back
            exact ⟨_, _, Inb.unsuite ok, qb⟩
          | brk =>
            obtain ⟨σb, Hb, Inb, qb⟩ := back
            exact ⟨_, _, Inb.unsuite ok, qb⟩
          | cont =>
            obtain ⟨σb, Hb, Inb, qb⟩ := back
            exact ⟨_, _, Inb.unsuite ok, qb⟩
          | ret u =>
            obtain ⟨vb, σb, Hb, Inb, rb, qb⟩ := back
            exact ⟨_, _, _, Inb.unsuite ok, rb, qb⟩
        | false =>
          show wpAny _ X.A (handleBy (.ref a) X.env hds2) _ _ _
          exact ih (nay rfl)
      | @consN x n i c ts b₀ suite np pos' hds2 l2 hN hi hln hc hsu r ih =>
        intro w
        obtain ⟨b, hx1, yes, nay⟩ := w
        have hloc : Loc X.env.scope n := .inl hln
        refine wpAny_handleBy_cons (codeAny_handlers_test ?_) (by intro q; cases q)
        have lkT : PySem.W.Looks (model X.prog X.w) h3 (typeOf (.ref a)) cls := fun A Q E s k q => wpAny_typeOf_ref (k _ _ ob3) (by rw [zc3.1]; exact q)
        have lkM := PySem.W.exm_one (M := model X.prog X.w) (Jn3.kIn) lkT hx1
        have test : ∀ {Q : Value → Shared → Prop} {E : Value → Shared → Prop}, Q c { s' with heap := h3 } → wpAny (model X.prog X.w) (X.A.mark (some (.ref a))) (eval (.Name x np) X.env) Q E { s' with heap := h3 } := fun {Q E} q => by
          obtain ⟨hg, hdbg, hm | ⟨hm, hv, hnn⟩⟩ := hc
          · exact ld_glob (X := X.suite a ((a, ox3) :: (X.pn ++ pins))) In3 hg hm q hdbg
          · exact ld_blt (X := X.suite a ((a, ox3) :: (X.pn ++ pins))) In3 hg hm hv q hnn hdbg
        refine test (lkM.here ?_)
        cases b with
        | true =>
          refine codeAny_handlers_suite_as ?_
          refine HandSPX.lands_againZ fz3 fun h4 fz4 ut4 => ?_
          have Jn4 : Inv X pins σ' H' { s' with heap := h4 } := J.landed nb fz4.1 ((up.trans ut3).trans ut4) os ag
          obtain ⟨ox4, xs4, ob4, zc4, dt4⟩ := fz4.there
          have In4 := Jn4.suite ob4 dt4 na offL offS
          refine store_ok (X := X.suite a ((a, ox4) :: (X.pn ++ pins))) (v := .ref a) In4 hN hi hloc rfl (fun t5 In5 => ?_) (.inr hln)
          refine wpAny_mono ((hsu a ox4 cls d (X.pn ++ pins) zc4 ⟨_, dt4⟩).run [] t5 _ H' _ In5 (yes rfl a na)) (fun f t6 back => ?_) (fun _ _ z => False.elim z)
          have gone : ∀ {σb : St} {Hb : Hp} {Q : Shared → Prop}, Inv (X.suite a ((a, ox4) :: (X.pn ++ pins))) [] σb Hb t6 → (∀ s7, Inv X pins (σb.set i none) Hb s7 → Q s7) →
              wpAny (model X.prog X.w) X.A (do bindName X.env n .none; unbindBehindTheSuite X.env n pos') (fun _ s7 => Q s7) X.xe t6 := fun {σb Hb Q} Inb hq => gone_ok (Inb.unsuite ok) hN hi hln hq
          cases f with
          | next =>
            obtain ⟨σb, Hb, Inb, qb⟩ := back
            exact gone Inb fun s7 J7 => ⟨_, _, J7, qb⟩
          | brk =>
            obtain ⟨σb, Hb, Inb, qb⟩ := back
            exact gone Inb fun s7 J7 => ⟨_, _, J7, qb⟩
          | cont =>
            obtain ⟨σb, Hb, Inb, qb⟩ := back
            exact gone Inb fun s7 J7 => ⟨_, _, J7, qb⟩
          | ret u =>
            obtain ⟨vb, σb, Hb, Inb, rb, qb⟩ := back
            exact gone Inb fun s7 J7 => ⟨_, _, _, J7, rb, qb⟩
        | false =>
          show wpAny _ X.A (handleBy (.ref a) X.env hds2) _ _ _
          exact ih (nay rfl)
    exact go hh w
  · cases f with
    | next =>
      obtain ⟨σ', H', J', q⟩ := back
      exact wpAny_execs_nil ⟨σ', H', J'.ofTry ok, q⟩
    | brk =>
      obtain ⟨σ', H', J', q⟩ := back
      exact ⟨σ', H', J'.ofTry ok, q⟩
    | cont =>
      obtain ⟨σ', H', J', q⟩ := back
      exact ⟨σ', H', J'.ofTry ok, q⟩
    | ret u =>
      obtain ⟨v, σ', H', J', r, q⟩ := back
      exact ⟨v, σ', H', J'.ofTry ok, r, q⟩
end
end L2

namespace Pv
open PySem L2
/-! ### error classes -/
def veM (M : Addr) : List Value := [.ref M, .type "ValueError", .type "Exception", .type "BaseException", .type "object"]
structure ErrK (K : PySem.W.Frag) (mg : Str → Option Value) (M C : Addr) (x : Str) : Prop where
  g : mg x = some (.ref C)
  k : PySem.W.keepIn K (.ref C) = true
  l : ∃ nm q N bs sn sub ab col dd k0 k1 k2 k3 k5, K.lookup C = some (excClassObj nm q C N bs (veM M) true sn sub ab col dd k0 k1 k2 k3 k5 "ValueError.__new__")
  sa : PySem.W.findIn K (.ref C) "__setattr__" = some (some (.builtin "object.__setattr__"))
  ga : PySem.W.findIn K (.ref C) "__getattribute__" = some (some (.builtin "BaseException.__getattribute__"))
  gg : PySem.W.findIn K (.ref C) "__getattr__" = some none
  ca : PySem.W.findIn K (.ref C) "__class__" = some (some (.builtin "object.__class__"))
structure ErrM (K : PySem.W.Frag) (mg : Str → Option Value) (M : Addr) : Prop where
  g : mg "MendError" = some (.ref M)
  l : ∃ nm q N bs bm sn sub ab col dd k0 k1 k2 k3 k5, K.lookup M = some (excClassObj nm q M N bs bm true sn sub ab col dd k0 k1 k2 k3 k5 "ValueError.__new__")
structure ErrF (K : PySem.W.Frag) (C I : Addr) (qual f : Str) (st : Stmt) : Prop where
  i : PySem.W.findIn K (.ref C) "__init__" = some (some (.ref I))
  t : PySem.W.typeIn K (.ref I) = some (.type "function")
  nf : PySem.W.findIn K (.ref C) f = some none
  fn : ∃ fd, Fun K "__init__" qual st I fd
section
variable {K : PySem.W.Frag} {mg : Str → Option Value} {M C D : Addr} {x : Str}
theorem ErrK.ty (E : ErrK K mg M C x) : PySem.W.typeIn K (.ref C) = some (.type "type") := by
  obtain ⟨nm, q, N, bs, sn, sub, ab, col, dd, k0, k1, k2, k3, k5, h⟩ := E.l
  show (K.lookup C).map (·.cls) = _
  rw [h]
  rfl
theorem ErrM.ty (E : ErrM K mg M) : PySem.W.typeIn K (.ref M) = some (.type "type") := by
  obtain ⟨nm, q, N, bs, bm, sn, sub, ab, col, dd, k0, k1, k2, k3, k5, h⟩ := E.l
  show (K.lookup M).map (·.cls) = _
  rw [h]
  rfl
theorem ErrM.cls (E : ErrM K mg M) : (PySem.W.clsIn K M).isSome = true := by
  obtain ⟨nm, q, N, bs, bm, sn, sub, ab, col, dd, k0, k1, k2, k3, k5, h⟩ := E.l
  unfold PySem.W.clsIn
  rw [h]
  rfl
theorem ErrK.mro (E : ErrK K mg M C x) (v : Value) : PySem.W.mroIn K C v = some ((Value.ref C :: veM M).contains v) := by
  obtain ⟨nm, q, N, bs, sn, sub, ab, col, dd, k0, k1, k2, k3, k5, h⟩ := E.l
  unfold PySem.W.mroIn PySem.W.clsIn
  rw [h]
  rfl
theorem ErrK.cls (E : ErrK K mg M C x) : (PySem.W.clsIn K C).isSome = true := by
  obtain ⟨nm, q, N, bs, sn, sub, ab, col, dd, k0, k1, k2, k3, k5, h⟩ := E.l
  unfold PySem.W.clsIn
  rw [h]
  rfl
theorem ErrK.hd (E : ErrK K mg M C x) : PySem.W.hasDictIn K C = true := by
  obtain ⟨nm, q, N, bs, sn, sub, ab, col, dd, k0, k1, k2, k3, k5, h⟩ := E.l
  unfold PySem.W.hasDictIn PySem.W.clsIn
  rw [h]
  rfl
theorem ErrK.sub (E : ErrK K mg M C x) : PySem.W.subIn K (.ref C) (.type "BaseException") = some true := by
  show PySem.W.mroIn K C _ = _
  rw [E.mro]
  simp [veM]
theorem ErrK.xfc (E : ErrK K mg M C x) : XfC K C := ⟨E.ga, E.gg, E.sub, E.hd⟩
theorem ErrK.oex (E : ErrK K mg M C x) : OexC K C := by
  obtain ⟨nm, q, N, bs, sn, sub, ab, col, dd, k0, k1, k2, k3, k5, h⟩ := E.l
  exact ⟨⟨nm, q, N, bs, veM M, sn, sub, ab, col, dd, k0, k1, k2, k3, k5, h, rfl⟩, E.sa, E.sub, E.ty, E.k⟩
theorem ErrK.exc (E : ErrK K mg M C x) (cn : PySem.W.specialIn K (.builtin "object.__class__") "__get__" = some (some (.builtin "getset_descriptor.__get__"))) (ct : PySem.W.takesIn K (.builtin "object.__class__") = some true) : ExcC K C :=
  ⟨E.ga, E.gg, E.sub, E.hd, E.ca, cn, ct, by rw [E.mro]; simp [veM]⟩
theorem kitCls_ref {t : Value} (h1 : (PySem.W.clsIn K D).isSome = true) (h2 : PySem.W.typeIn K (.ref D) = some (.type "type")) : PySem.W.kitCls K t (.ref D) = PySem.W.subIn K t (.ref D) := by
  show (if ((PySem.W.clsIn K D).isSome && PySem.W.typeIn K (.ref D) == some (.type "type")) = true then PySem.W.subIn K t (.ref D) else none) = _
  rw [h1, h2, if_pos (by simp)]
/-- isinstance against the class itself, its base, ValueError, another class -/
theorem kit_self : PySem.W.kitOne K (.ref C) (.ref C) = some true := by
  unfold PySem.W.kitOne
  rw [if_pos (by simp)]
theorem ErrK.kit_ne {y : Str} (E : ErrK K mg M C x) (F : ErrK K mg M D y) (h : C ≠ D) (hM : M ≠ D) : PySem.W.kitOne K (.ref C) (.ref D) = some false := by
  unfold PySem.W.kitOne
  rw [if_neg (by simp [h])]
  rw [kitCls_ref F.cls F.ty]
  show PySem.W.mroIn K C _ = _
  rw [E.mro]
  have h1 : D ≠ C := fun z => h z.symm
  have h2 : D ≠ M := fun z => hM z.symm
  simp [veM, h1, h2]
theorem ErrK.kit_base (E : ErrK K mg M C x) (F : ErrM K mg M) (h : C ≠ M) : PySem.W.kitOne K (.ref C) (.ref M) = some true := by
  unfold PySem.W.kitOne
  rw [if_neg (by simp [h])]
  rw [kitCls_ref F.cls F.ty]
  show PySem.W.mroIn K C _ = _
  rw [E.mro]
  simp [veM]
theorem ErrK.kit_ve (E : ErrK K mg M C x) : PySem.W.kitOne K (.ref C) (.type "ValueError") = some true := by
  unfold PySem.W.kitOne
  rw [if_neg (by simp)]
  unfold PySem.W.kitCls
  show (if PySem.W.kitMeta "ValueError" = true then PySem.W.mroIn K C (.type "ValueError") else none) = _
  rw [if_pos (by decide +kernel), E.mro]
  simp [veM]
theorem ErrK.exm (E : ErrK K mg M C x) : PySem.W.exmOne K (.ref C) (.ref C) = some true := by
  unfold PySem.W.exmOne
  rw [E.sub, if_pos (by simp)]
  rw [kitCls_ref E.cls E.ty]
  show PySem.W.mroIn K C _ = _
  rw [E.mro]
  simp
theorem ErrK.exm_ne {y : Str} (E : ErrK K mg M C x) (F : ErrK K mg M D y) (h : C ≠ D) (hM : M ≠ D) : PySem.W.exmOne K (.ref C) (.ref D) = some false := by
  unfold PySem.W.exmOne
  rw [F.sub, if_pos (by simp)]
  rw [kitCls_ref F.cls F.ty]
  show PySem.W.mroIn K C _ = _
  rw [E.mro]
  have h1 : D ≠ C := fun z => h z.symm
  have h2 : D ≠ M := fun z => hM z.symm
  simp [veM, h1, h2]
end
/-- a def with its promise: how it binds, too -/
def Okd (P : Program) (w : World) (K : PySem.W.Frag) (mg : Str → Option Value) (base : Heap) (CX : CXT) (k : Nat) (f : Addr) (ps : List Str) (sp : Sp) : Prop := ∃ fd, FnOk P w K mg base CX k f fd ps sp ∧ Binds K fd ps []
/-! ### the text -/
def top (i : Nat) : Stmt := PySem.Challenge.pw_peermend_k00_images_checked.main.body.getD i (.Pass ⟨0, 0, 0, 0⟩)
abbrev s_own : Stmt := top 27
abbrev s_check_image : Stmt := top 29
abbrev s_is_state : Stmt := top 30
abbrev s_check_state : Stmt := top 31
abbrev s_check_pair : Stmt := top 32
abbrev s_law_bag : Stmt := top 34
abbrev s_law_take : Stmt := top 35
abbrev s_law_order : Stmt := top 36
abbrev s_law_size : Stmt := top 37
abbrev s_law_entry : Stmt := top 38
abbrev s_law_drawn : Stmt := top 39
abbrev s_law_entries_due : Stmt := top 40
abbrev s_law_state_due : Stmt := top 41
abbrev s_law_pair_due : Stmt := top 42
abbrev s_law_told_image : Stmt := top 43
abbrev s_law_told_is_state : Stmt := top 44
abbrev s_law_told_state : Stmt := top 45
abbrev s_law_told_pair : Stmt := top 46
abbrev s_law_meets : Stmt := top 47
abbrev s_law_one_checked : Stmt := top 48
abbrev s_law_two_checked : Stmt := top 49
abbrev s_law_marks : Stmt := top 50
abbrev s_law_errors_apart : Stmt := top 51
abbrev s_law_errors_keep : Stmt := top 52
abbrev s_law : Stmt := top 53
abbrev s_InvalidSize : Stmt := inClass (top 2) 0
abbrev s_InvalidImage : Stmt := inClass (top 3) 0
abbrev s_NotState : Stmt := inClass (top 4) 0
abbrev s_Unrepairable : Stmt := inClass (top 5) 0
abbrev s_InvalidRecord : Stmt := inClass (top 6) 0
abbrev s_Busy : Stmt := inClass (top 7) 0
abbrev s_Written : Stmt := inClass (top 8) 0
abbrev s_NotReady : Stmt := inClass (top 9) 0
abbrev s_InvalidNumber : Stmt := inClass (top 10) 0
abbrev s_InvalidRules : Stmt := inClass (top 11) 0
abbrev s_InvalidStore : Stmt := inClass (top 12) 0
abbrev s_Ambiguous : Stmt := inClass (top 13) 0
abbrev s_NoWriter : Stmt := inClass (top 14) 0
abbrev s_Unsafe : Stmt := inClass (top 15) 0
structure Ad where
  own : Addr
  check_image : Addr
  is_state : Addr
  check_state : Addr
  check_pair : Addr
  law_bag : Addr
  law_take : Addr
  law_order : Addr
  law_size : Addr
  law_entry : Addr
  law_drawn : Addr
  law_entries_due : Addr
  law_state_due : Addr
  law_pair_due : Addr
  law_told_image : Addr
  law_told_is_state : Addr
  law_told_state : Addr
  law_told_pair : Addr
  law_meets : Addr
  law_one_checked : Addr
  law_two_checked : Addr
  law_marks : Addr
  law_errors_apart : Addr
  law_errors_keep : Addr
  law : Addr
  MendError : Addr
  InvalidSize : Addr
  InvalidImage : Addr
  NotState : Addr
  Unrepairable : Addr
  InvalidRecord : Addr
  Busy : Addr
  Written : Addr
  NotReady : Addr
  InvalidNumber : Addr
  InvalidRules : Addr
  InvalidStore : Addr
  Ambiguous : Addr
  NoWriter : Addr
  Unsafe : Addr
  UnequalSizes : Addr
  InvalidUpdate : Addr
  InvalidKind : Addr
  InvalidChange : Addr
  InvalidOrder : Addr
  NoStory : Addr
  NotInBook : Addr
  Down : Addr
  NotDown : Addr
  NothingToUndo : Addr
  NothingToRedo : Addr
  i_InvalidSize : Addr
  i_InvalidImage : Addr
  i_NotState : Addr
  i_Unrepairable : Addr
  i_InvalidRecord : Addr
  i_Busy : Addr
  i_Written : Addr
  i_NotReady : Addr
  i_InvalidNumber : Addr
  i_InvalidRules : Addr
  i_InvalidStore : Addr
  i_Ambiguous : Addr
  i_NoWriter : Addr
  i_Unsafe : Addr
abbrev N_own : List Str := ["given"]
abbrev P_own : List Str := ["given"]
theorem sc_own : FnScope N_own P_own (defScope s_own) := ⟨rfl, rfl, rfl, by decide +kernel, rfl, by decide +kernel, by decide +kernel⟩
abbrev N_check_image : List Str := ["image", "size", "record", "name"]
abbrev P_check_image : List Str := ["image"]
theorem sc_check_image : FnScope N_check_image P_check_image (defScope s_check_image) := ⟨rfl, rfl, rfl, by decide +kernel, rfl, by decide +kernel, by decide +kernel⟩
abbrev N_is_state : List Str := ["image", "name", "record"]
abbrev P_is_state : List Str := ["image"]
theorem sc_is_state : FnScope N_is_state P_is_state (defScope s_is_state) := ⟨rfl, rfl, rfl, by decide +kernel, rfl, by decide +kernel, by decide +kernel⟩
abbrev N_check_state : List Str := ["state", "record", "name"]
abbrev P_check_state : List Str := ["state"]
theorem sc_check_state : FnScope N_check_state P_check_state (defScope s_check_state) := ⟨rfl, rfl, rfl, by decide +kernel, rfl, by decide +kernel, by decide +kernel⟩
abbrev N_check_pair : List Str := ["first", "second"]
abbrev P_check_pair : List Str := ["first", "second"]
theorem sc_check_pair : FnScope N_check_pair P_check_pair (defScope s_check_pair) := ⟨rfl, rfl, rfl, by decide +kernel, rfl, by decide +kernel, by decide +kernel⟩
abbrev N_law_bag : List Str := ["script", "great", "first", "second", "cell"]
abbrev P_law_bag : List Str := ["script"]
theorem sc_law_bag : FnScope N_law_bag P_law_bag (defScope s_law_bag) := ⟨rfl, rfl, rfl, by decide +kernel, rfl, by decide +kernel, by decide +kernel⟩
abbrev N_law_take : List Str := ["bag", "size", "digit"]
abbrev P_law_take : List Str := ["bag", "size"]
theorem sc_law_take : FnScope N_law_take P_law_take (defScope s_law_take) := ⟨rfl, rfl, rfl, by decide +kernel, rfl, by decide +kernel, by decide +kernel⟩
abbrev N_law_order : List Str := ["bag", "size", "spare", "order", "k"]
abbrev P_law_order : List Str := ["bag", "size"]
theorem sc_law_order : FnScope N_law_order P_law_order (defScope s_law_order) := ⟨rfl, rfl, rfl, by decide +kernel, rfl, by decide +kernel, by decide +kernel⟩
abbrev N_law_size : List Str := ["bag", "size"]
abbrev P_law_size : List Str := ["bag"]
theorem sc_law_size : FnScope N_law_size P_law_size (defScope s_law_size) := ⟨rfl, rfl, rfl, by decide +kernel, rfl, by decide +kernel, by decide +kernel⟩
abbrev N_law_entry : List Str := ["bag", "size", "way"]
abbrev P_law_entry : List Str := ["bag", "size"]
theorem sc_law_entry : FnScope N_law_entry P_law_entry (defScope s_law_entry) := ⟨rfl, rfl, rfl, by decide +kernel, rfl, by decide +kernel, by decide +kernel⟩
abbrev N_law_drawn : List Str := ["bag", "size", "order", "shown", "k", "way", "many", "at"]
abbrev P_law_drawn : List Str := ["bag", "size"]
theorem sc_law_drawn : FnScope N_law_drawn P_law_drawn (defScope s_law_drawn) := ⟨rfl, rfl, rfl, by decide +kernel, rfl, by decide +kernel, by decide +kernel⟩
abbrev N_law_entries_due : List Str := ["shown", "k"]
abbrev P_law_entries_due : List Str := ["shown"]
theorem sc_law_entries_due : FnScope N_law_entries_due P_law_entries_due (defScope s_law_entries_due) := ⟨rfl, rfl, rfl, by decide +kernel, rfl, by decide +kernel, by decide +kernel⟩
abbrev N_law_state_due : List Str := ["shown", "due", "k"]
abbrev P_law_state_due : List Str := ["shown"]
theorem sc_law_state_due : FnScope N_law_state_due P_law_state_due (defScope s_law_state_due) := ⟨rfl, rfl, rfl, by decide +kernel, rfl, by decide +kernel, by decide +kernel⟩
abbrev N_law_pair_due : List Str := ["first", "second", "due"]
abbrev P_law_pair_due : List Str := ["first", "second"]
theorem sc_law_pair_due : FnScope N_law_pair_due P_law_pair_due (defScope s_law_pair_due) := ⟨rfl, rfl, rfl, by decide +kernel, rfl, by decide +kernel, by decide +kernel⟩
abbrev N_law_told_image : List Str := ["shown", "answer", "raised"]
abbrev P_law_told_image : List Str := ["shown"]
theorem sc_law_told_image : FnScope N_law_told_image P_law_told_image (defScope s_law_told_image) := ⟨rfl, rfl, rfl, by decide +kernel, rfl, by decide +kernel, by decide +kernel⟩
abbrev N_law_told_is_state : List Str := ["shown", "answer", "raised"]
abbrev P_law_told_is_state : List Str := ["shown"]
theorem sc_law_told_is_state : FnScope N_law_told_is_state P_law_told_is_state (defScope s_law_told_is_state) := ⟨rfl, rfl, rfl, by decide +kernel, rfl, by decide +kernel, by decide +kernel⟩
abbrev N_law_told_state : List Str := ["shown", "answer", "raised"]
abbrev P_law_told_state : List Str := ["shown"]
theorem sc_law_told_state : FnScope N_law_told_state P_law_told_state (defScope s_law_told_state) := ⟨rfl, rfl, rfl, by decide +kernel, rfl, by decide +kernel, by decide +kernel⟩
abbrev N_law_told_pair : List Str := ["first", "second", "answer", "raised"]
abbrev P_law_told_pair : List Str := ["first", "second"]
theorem sc_law_told_pair : FnScope N_law_told_pair P_law_told_pair (defScope s_law_told_pair) := ⟨rfl, rfl, rfl, by decide +kernel, rfl, by decide +kernel, by decide +kernel⟩
abbrev N_law_meets : List Str := ["told", "due"]
abbrev P_law_meets : List Str := ["told", "due"]
theorem sc_law_meets : FnScope N_law_meets P_law_meets (defScope s_law_meets) := ⟨rfl, rfl, rfl, by decide +kernel, rfl, by decide +kernel, by decide +kernel⟩
abbrev N_law_one_checked : List Str := ["shown", "entries", "whole", "truth", "handed"]
abbrev P_law_one_checked : List Str := ["shown"]
theorem sc_law_one_checked : FnScope N_law_one_checked P_law_one_checked (defScope s_law_one_checked) := ⟨rfl, rfl, rfl, by decide +kernel, rfl, by decide +kernel, by decide +kernel⟩
abbrev N_law_two_checked : List Str := ["first", "second", "one", "two"]
abbrev P_law_two_checked : List Str := ["first", "second"]
theorem sc_law_two_checked : FnScope N_law_two_checked P_law_two_checked (defScope s_law_two_checked) := ⟨rfl, rfl, rfl, by decide +kernel, rfl, by decide +kernel, by decide +kernel⟩
abbrev N_law_marks : List Str := ["error", "row"]
abbrev P_law_marks : List Str := ["error"]
theorem sc_law_marks : FnScope N_law_marks P_law_marks (defScope s_law_marks) := ⟨rfl, rfl, rfl, by decide +kernel, rfl, by decide +kernel, by decide +kernel⟩
abbrev N_law_errors_apart : List Str := ["least", "made", "k", "row", "at"]
abbrev P_law_errors_apart : List Str := ["least"]
theorem sc_law_errors_apart : FnScope N_law_errors_apart P_law_errors_apart (defScope s_law_errors_apart) := ⟨rfl, rfl, rfl, by decide +kernel, rfl, by decide +kernel, by decide +kernel⟩
abbrev N_law_errors_keep : List Str := ["least", "values", "due", "k", "group", "numbers", "name", "refused"]
abbrev P_law_errors_keep : List Str := ["least"]
theorem sc_law_errors_keep : FnScope N_law_errors_keep P_law_errors_keep (defScope s_law_errors_keep) := ⟨rfl, rfl, rfl, by decide +kernel, rfl, by decide +kernel, by decide +kernel⟩
abbrev N_law : List Str := ["script", "bag", "size", "other", "first", "second", "least"]
abbrev P_law : List Str := ["script"]
theorem sc_law : FnScope N_law P_law (defScope s_law) := ⟨rfl, rfl, rfl, by decide +kernel, rfl, by decide +kernel, by decide +kernel⟩
abbrev N_InvalidSize : List Str := ["self", "size"]
abbrev P_InvalidSize : List Str := ["self", "size"]
theorem sc_InvalidSize : FnScope N_InvalidSize P_InvalidSize (defScope s_InvalidSize) := ⟨rfl, rfl, rfl, by decide +kernel, rfl, by decide +kernel, by decide +kernel⟩
abbrev N_InvalidImage : List Str := ["self", "record"]
abbrev P_InvalidImage : List Str := ["self", "record"]
theorem sc_InvalidImage : FnScope N_InvalidImage P_InvalidImage (defScope s_InvalidImage) := ⟨rfl, rfl, rfl, by decide +kernel, rfl, by decide +kernel, by decide +kernel⟩
abbrev N_NotState : List Str := ["self", "record"]
abbrev P_NotState : List Str := ["self", "record"]
theorem sc_NotState : FnScope N_NotState P_NotState (defScope s_NotState) := ⟨rfl, rfl, rfl, by decide +kernel, rfl, by decide +kernel, by decide +kernel⟩
abbrev N_Unrepairable : List Str := ["self", "group"]
abbrev P_Unrepairable : List Str := ["self", "group"]
theorem sc_Unrepairable : FnScope N_Unrepairable P_Unrepairable (defScope s_Unrepairable) := ⟨rfl, rfl, rfl, by decide +kernel, rfl, by decide +kernel, by decide +kernel⟩
abbrev N_InvalidRecord : List Str := ["self", "record"]
abbrev P_InvalidRecord : List Str := ["self", "record"]
theorem sc_InvalidRecord : FnScope N_InvalidRecord P_InvalidRecord (defScope s_InvalidRecord) := ⟨rfl, rfl, rfl, by decide +kernel, rfl, by decide +kernel, by decide +kernel⟩
abbrev N_Busy : List Str := ["self", "record"]
abbrev P_Busy : List Str := ["self", "record"]
theorem sc_Busy : FnScope N_Busy P_Busy (defScope s_Busy) := ⟨rfl, rfl, rfl, by decide +kernel, rfl, by decide +kernel, by decide +kernel⟩
abbrev N_Written : List Str := ["self", "record"]
abbrev P_Written : List Str := ["self", "record"]
theorem sc_Written : FnScope N_Written P_Written (defScope s_Written) := ⟨rfl, rfl, rfl, by decide +kernel, rfl, by decide +kernel, by decide +kernel⟩
abbrev N_NotReady : List Str := ["self", "record"]
abbrev P_NotReady : List Str := ["self", "record"]
theorem sc_NotReady : FnScope N_NotReady P_NotReady (defScope s_NotReady) := ⟨rfl, rfl, rfl, by decide +kernel, rfl, by decide +kernel, by decide +kernel⟩
abbrev N_InvalidNumber : List Str := ["self", "value"]
abbrev P_InvalidNumber : List Str := ["self", "value"]
theorem sc_InvalidNumber : FnScope N_InvalidNumber P_InvalidNumber (defScope s_InvalidNumber) := ⟨rfl, rfl, rfl, by decide +kernel, rfl, by decide +kernel, by decide +kernel⟩
abbrev N_InvalidRules : List Str := ["self", "name"]
abbrev P_InvalidRules : List Str := ["self", "name"]
theorem sc_InvalidRules : FnScope N_InvalidRules P_InvalidRules (defScope s_InvalidRules) := ⟨rfl, rfl, rfl, by decide +kernel, rfl, by decide +kernel, by decide +kernel⟩
abbrev N_InvalidStore : List Str := ["self", "at"]
abbrev P_InvalidStore : List Str := ["self", "at"]
theorem sc_InvalidStore : FnScope N_InvalidStore P_InvalidStore (defScope s_InvalidStore) := ⟨rfl, rfl, rfl, by decide +kernel, rfl, by decide +kernel, by decide +kernel⟩
abbrev N_Ambiguous : List Str := ["self", "numbers"]
abbrev P_Ambiguous : List Str := ["self", "numbers"]
theorem sc_Ambiguous : FnScope N_Ambiguous P_Ambiguous (defScope s_Ambiguous) := ⟨rfl, rfl, rfl, by decide +kernel, rfl, by decide +kernel, by decide +kernel⟩
abbrev N_NoWriter : List Str := ["self", "writer"]
abbrev P_NoWriter : List Str := ["self", "writer"]
theorem sc_NoWriter : FnScope N_NoWriter P_NoWriter (defScope s_NoWriter) := ⟨rfl, rfl, rfl, by decide +kernel, rfl, by decide +kernel, by decide +kernel⟩
abbrev N_Unsafe : List Str := ["self", "refused"]
abbrev P_Unsafe : List Str := ["self", "refused"]
theorem sc_Unsafe : FnScope N_Unsafe P_Unsafe (defScope s_Unsafe) := ⟨rfl, rfl, rfl, by decide +kernel, rfl, by decide +kernel, by decide +kernel⟩
structure Txt (K : PySem.W.Frag) (mg : Str → Option Value) (A : Ad) : Prop where
  g_own : mg "_own" = some (.ref A.own)
  k_own : PySem.W.keepIn K (.ref A.own) = true
  d_own : ∃ fd, Fun K "_own" "_own" s_own A.own fd
  g_check_image : mg "check_image" = some (.ref A.check_image)
  k_check_image : PySem.W.keepIn K (.ref A.check_image) = true
  d_check_image : ∃ fd, Fun K "check_image" "check_image" s_check_image A.check_image fd
  g_is_state : mg "is_state" = some (.ref A.is_state)
  k_is_state : PySem.W.keepIn K (.ref A.is_state) = true
  d_is_state : ∃ fd, Fun K "is_state" "is_state" s_is_state A.is_state fd
  g_check_state : mg "check_state" = some (.ref A.check_state)
  k_check_state : PySem.W.keepIn K (.ref A.check_state) = true
  d_check_state : ∃ fd, Fun K "check_state" "check_state" s_check_state A.check_state fd
  g_check_pair : mg "check_pair" = some (.ref A.check_pair)
  k_check_pair : PySem.W.keepIn K (.ref A.check_pair) = true
  d_check_pair : ∃ fd, Fun K "check_pair" "check_pair" s_check_pair A.check_pair fd
  g_law_bag : mg "_law_bag" = some (.ref A.law_bag)
  k_law_bag : PySem.W.keepIn K (.ref A.law_bag) = true
  d_law_bag : ∃ fd, Fun K "_law_bag" "_law_bag" s_law_bag A.law_bag fd
  g_law_take : mg "_law_take" = some (.ref A.law_take)
  k_law_take : PySem.W.keepIn K (.ref A.law_take) = true
  d_law_take : ∃ fd, Fun K "_law_take" "_law_take" s_law_take A.law_take fd
  g_law_order : mg "_law_order" = some (.ref A.law_order)
  k_law_order : PySem.W.keepIn K (.ref A.law_order) = true
  d_law_order : ∃ fd, Fun K "_law_order" "_law_order" s_law_order A.law_order fd
  g_law_size : mg "_law_size" = some (.ref A.law_size)
  k_law_size : PySem.W.keepIn K (.ref A.law_size) = true
  d_law_size : ∃ fd, Fun K "_law_size" "_law_size" s_law_size A.law_size fd
  g_law_entry : mg "_law_entry" = some (.ref A.law_entry)
  k_law_entry : PySem.W.keepIn K (.ref A.law_entry) = true
  d_law_entry : ∃ fd, Fun K "_law_entry" "_law_entry" s_law_entry A.law_entry fd
  g_law_drawn : mg "_law_drawn" = some (.ref A.law_drawn)
  k_law_drawn : PySem.W.keepIn K (.ref A.law_drawn) = true
  d_law_drawn : ∃ fd, Fun K "_law_drawn" "_law_drawn" s_law_drawn A.law_drawn fd
  g_law_entries_due : mg "_law_entries_due" = some (.ref A.law_entries_due)
  k_law_entries_due : PySem.W.keepIn K (.ref A.law_entries_due) = true
  d_law_entries_due : ∃ fd, Fun K "_law_entries_due" "_law_entries_due" s_law_entries_due A.law_entries_due fd
  g_law_state_due : mg "_law_state_due" = some (.ref A.law_state_due)
  k_law_state_due : PySem.W.keepIn K (.ref A.law_state_due) = true
  d_law_state_due : ∃ fd, Fun K "_law_state_due" "_law_state_due" s_law_state_due A.law_state_due fd
  g_law_pair_due : mg "_law_pair_due" = some (.ref A.law_pair_due)
  k_law_pair_due : PySem.W.keepIn K (.ref A.law_pair_due) = true
  d_law_pair_due : ∃ fd, Fun K "_law_pair_due" "_law_pair_due" s_law_pair_due A.law_pair_due fd
  g_law_told_image : mg "_law_told_image" = some (.ref A.law_told_image)
  k_law_told_image : PySem.W.keepIn K (.ref A.law_told_image) = true
  d_law_told_image : ∃ fd, Fun K "_law_told_image" "_law_told_image" s_law_told_image A.law_told_image fd
  g_law_told_is_state : mg "_law_told_is_state" = some (.ref A.law_told_is_state)
  k_law_told_is_state : PySem.W.keepIn K (.ref A.law_told_is_state) = true
  d_law_told_is_state : ∃ fd, Fun K "_law_told_is_state" "_law_told_is_state" s_law_told_is_state A.law_told_is_state fd
  g_law_told_state : mg "_law_told_state" = some (.ref A.law_told_state)
  k_law_told_state : PySem.W.keepIn K (.ref A.law_told_state) = true
  d_law_told_state : ∃ fd, Fun K "_law_told_state" "_law_told_state" s_law_told_state A.law_told_state fd
  g_law_told_pair : mg "_law_told_pair" = some (.ref A.law_told_pair)
  k_law_told_pair : PySem.W.keepIn K (.ref A.law_told_pair) = true
  d_law_told_pair : ∃ fd, Fun K "_law_told_pair" "_law_told_pair" s_law_told_pair A.law_told_pair fd
  g_law_meets : mg "_law_meets" = some (.ref A.law_meets)
  k_law_meets : PySem.W.keepIn K (.ref A.law_meets) = true
  d_law_meets : ∃ fd, Fun K "_law_meets" "_law_meets" s_law_meets A.law_meets fd
  g_law_one_checked : mg "_law_one_checked" = some (.ref A.law_one_checked)
  k_law_one_checked : PySem.W.keepIn K (.ref A.law_one_checked) = true
  d_law_one_checked : ∃ fd, Fun K "_law_one_checked" "_law_one_checked" s_law_one_checked A.law_one_checked fd
  g_law_two_checked : mg "_law_two_checked" = some (.ref A.law_two_checked)
  k_law_two_checked : PySem.W.keepIn K (.ref A.law_two_checked) = true
  d_law_two_checked : ∃ fd, Fun K "_law_two_checked" "_law_two_checked" s_law_two_checked A.law_two_checked fd
  g_law_marks : mg "_law_marks" = some (.ref A.law_marks)
  k_law_marks : PySem.W.keepIn K (.ref A.law_marks) = true
  d_law_marks : ∃ fd, Fun K "_law_marks" "_law_marks" s_law_marks A.law_marks fd
  g_law_errors_apart : mg "_law_errors_apart" = some (.ref A.law_errors_apart)
  k_law_errors_apart : PySem.W.keepIn K (.ref A.law_errors_apart) = true
  d_law_errors_apart : ∃ fd, Fun K "_law_errors_apart" "_law_errors_apart" s_law_errors_apart A.law_errors_apart fd
  g_law_errors_keep : mg "_law_errors_keep" = some (.ref A.law_errors_keep)
  k_law_errors_keep : PySem.W.keepIn K (.ref A.law_errors_keep) = true
  d_law_errors_keep : ∃ fd, Fun K "_law_errors_keep" "_law_errors_keep" s_law_errors_keep A.law_errors_keep fd
  g_law : mg "law" = some (.ref A.law)
  k_law : PySem.W.keepIn K (.ref A.law) = true
  d_law : ∃ fd, Fun K "law" "law" s_law A.law fd
  e_MendError : ErrM K mg A.MendError
  e_InvalidSize : ErrK K mg A.MendError A.InvalidSize "InvalidSize"
  e_InvalidImage : ErrK K mg A.MendError A.InvalidImage "InvalidImage"
  e_NotState : ErrK K mg A.MendError A.NotState "NotState"
  e_Unrepairable : ErrK K mg A.MendError A.Unrepairable "Unrepairable"
  e_InvalidRecord : ErrK K mg A.MendError A.InvalidRecord "InvalidRecord"
  e_Busy : ErrK K mg A.MendError A.Busy "Busy"
  e_Written : ErrK K mg A.MendError A.Written "Written"
  e_NotReady : ErrK K mg A.MendError A.NotReady "NotReady"
  e_InvalidNumber : ErrK K mg A.MendError A.InvalidNumber "InvalidNumber"
  e_InvalidRules : ErrK K mg A.MendError A.InvalidRules "InvalidRules"
  e_InvalidStore : ErrK K mg A.MendError A.InvalidStore "InvalidStore"
  e_Ambiguous : ErrK K mg A.MendError A.Ambiguous "Ambiguous"
  e_NoWriter : ErrK K mg A.MendError A.NoWriter "NoWriter"
  e_Unsafe : ErrK K mg A.MendError A.Unsafe "Unsafe"
  e_UnequalSizes : ErrK K mg A.MendError A.UnequalSizes "UnequalSizes"
  e_InvalidUpdate : ErrK K mg A.MendError A.InvalidUpdate "InvalidUpdate"
  e_InvalidKind : ErrK K mg A.MendError A.InvalidKind "InvalidKind"
  e_InvalidChange : ErrK K mg A.MendError A.InvalidChange "InvalidChange"
  e_InvalidOrder : ErrK K mg A.MendError A.InvalidOrder "InvalidOrder"
  e_NoStory : ErrK K mg A.MendError A.NoStory "NoStory"
  e_NotInBook : ErrK K mg A.MendError A.NotInBook "NotInBook"
  e_Down : ErrK K mg A.MendError A.Down "Down"
  e_NotDown : ErrK K mg A.MendError A.NotDown "NotDown"
  e_NothingToUndo : ErrK K mg A.MendError A.NothingToUndo "NothingToUndo"
  e_NothingToRedo : ErrK K mg A.MendError A.NothingToRedo "NothingToRedo"
  f_InvalidSize : ErrF K A.InvalidSize A.i_InvalidSize "InvalidSize.__init__" "size" s_InvalidSize
  f_InvalidImage : ErrF K A.InvalidImage A.i_InvalidImage "InvalidImage.__init__" "record" s_InvalidImage
  f_NotState : ErrF K A.NotState A.i_NotState "NotState.__init__" "record" s_NotState
  f_Unrepairable : ErrF K A.Unrepairable A.i_Unrepairable "Unrepairable.__init__" "group" s_Unrepairable
  f_InvalidRecord : ErrF K A.InvalidRecord A.i_InvalidRecord "InvalidRecord.__init__" "record" s_InvalidRecord
  f_Busy : ErrF K A.Busy A.i_Busy "Busy.__init__" "record" s_Busy
  f_Written : ErrF K A.Written A.i_Written "Written.__init__" "record" s_Written
  f_NotReady : ErrF K A.NotReady A.i_NotReady "NotReady.__init__" "record" s_NotReady
  f_InvalidNumber : ErrF K A.InvalidNumber A.i_InvalidNumber "InvalidNumber.__init__" "value" s_InvalidNumber
  f_InvalidRules : ErrF K A.InvalidRules A.i_InvalidRules "InvalidRules.__init__" "name" s_InvalidRules
  f_InvalidStore : ErrF K A.InvalidStore A.i_InvalidStore "InvalidStore.__init__" "at" s_InvalidStore
  f_Ambiguous : ErrF K A.Ambiguous A.i_Ambiguous "Ambiguous.__init__" "numbers" s_Ambiguous
  f_NoWriter : ErrF K A.NoWriter A.i_NoWriter "NoWriter.__init__" "writer" s_NoWriter
  f_Unsafe : ErrF K A.Unsafe A.i_Unsafe "Unsafe.__init__" "refused" s_Unsafe
  q_UnequalSizes : PySem.W.excIn K A.UnequalSizes [.type "ValueError", .type "Exception", .type "BaseException", .type "object"] "ValueError.__new__" = true
  q_InvalidUpdate : PySem.W.excIn K A.InvalidUpdate [.type "ValueError", .type "Exception", .type "BaseException", .type "object"] "ValueError.__new__" = true
  q_InvalidKind : PySem.W.excIn K A.InvalidKind [.type "ValueError", .type "Exception", .type "BaseException", .type "object"] "ValueError.__new__" = true
  q_InvalidChange : PySem.W.excIn K A.InvalidChange [.type "ValueError", .type "Exception", .type "BaseException", .type "object"] "ValueError.__new__" = true
  q_InvalidOrder : PySem.W.excIn K A.InvalidOrder [.type "ValueError", .type "Exception", .type "BaseException", .type "object"] "ValueError.__new__" = true
  q_NoStory : PySem.W.excIn K A.NoStory [.type "ValueError", .type "Exception", .type "BaseException", .type "object"] "ValueError.__new__" = true
  q_NotInBook : PySem.W.excIn K A.NotInBook [.type "ValueError", .type "Exception", .type "BaseException", .type "object"] "ValueError.__new__" = true
  q_Down : PySem.W.excIn K A.Down [.type "ValueError", .type "Exception", .type "BaseException", .type "object"] "ValueError.__new__" = true
  q_NotDown : PySem.W.excIn K A.NotDown [.type "ValueError", .type "Exception", .type "BaseException", .type "object"] "ValueError.__new__" = true
  q_NothingToUndo : PySem.W.excIn K A.NothingToUndo [.type "ValueError", .type "Exception", .type "BaseException", .type "object"] "ValueError.__new__" = true
  q_NothingToRedo : PySem.W.excIn K A.NothingToRedo [.type "ValueError", .type "Exception", .type "BaseException", .type "object"] "ValueError.__new__" = true
  n_int : mg "int" = none
  n_bool : mg "bool" = none
  n_list : mg "list" = none
  n_str : mg "str" = none
  n_tuple : mg "tuple" = none
  n_ValueError : mg "ValueError" = none
  n_len : mg "len" = none
  n_range : mg "range" = none
  n_enumerate : mg "enumerate" = none
  n_isinstance : mg "isinstance" = none
  n_all : mg "all" = none
  cn : PySem.W.specialIn K (.builtin "object.__class__") "__get__" = some (some (.builtin "getset_descriptor.__get__"))
  ct : PySem.W.takesIn K (.builtin "object.__class__") = some true
  nd : [A.MendError, A.InvalidSize, A.InvalidImage, A.NotState, A.Unrepairable, A.InvalidRecord, A.Busy, A.Written, A.NotReady, A.InvalidNumber, A.InvalidRules, A.InvalidStore, A.Ambiguous, A.NoWriter, A.Unsafe, A.UnequalSizes, A.InvalidUpdate, A.InvalidKind, A.InvalidChange, A.InvalidOrder, A.NoStory, A.NotInBook, A.Down, A.NotDown, A.NothingToUndo, A.NothingToRedo].Nodup
end Pv

namespace Pv
open PySem L2
/-- all but what stands at b is as it was -/
def Mut (b : Addr) (H H' : Hp) : Prop := ∀ a o, a ≠ b → H a = some o → H' a = some o
theorem Mut.refl (b : Addr) (H : Hp) : Mut b H H := fun _ _ _ e => e
theorem Mut.trans {b : Addr} {H H1 H2 : Hp} (x : Mut b H H1) (y : Mut b H1 H2) : Mut b H H2 := fun a o n e => y a o n (x a o n e)
theorem Mut.upd {b : Addr} {H H1 : Hp} {o : HO} (x : Mut b H H1) : Mut b H (L2.upd H1 b o) := fun a u n e => by
  rw [upd_ne n]
  exact x a u n e
theorem Mut.new {b p : Addr} {H H1 : Hp} {o : HO} (x : Mut b H H1) (hp : H1 p = none) : Mut b H (L2.upd H1 p o) := fun a u n e => by
  have e1 := x a u n e
  rw [upd_ne (ne_of_none e1 hp)]
  exact e1
theorem Mut.free {b p : Addr} {H H1 : Hp} (x : Mut b H H1) (h : p ≠ b) (hp : H1 p = none) : H p = none := by
  cases e : H p with
  | none => rfl
  | some o =>
    rw [x p o h e] at hp
    cases hp
/-- the bag of the draws -/
def bagL (g f s : Int) : List V := [.int g, .int f, .int s]
structure BagOk (g f s : Int) : Prop where
  g0 : 0 ≤ g
  f0 : 0 ≤ f
  f1 : f < 2147483647
  s0 : 0 ≤ s
  s1 : s < 2147483647
def Bag (H : Hp) (b : Addr) : Prop := ∃ g f s : Int, H b = some (.lst (bagL g f s)) ∧ BagOk g f s
def spBag (K : PySem.W.Frag) : Sp := fun vs H Q _ => ∃ (a : Addr) (ns : List Int), vs = [.ref a] ∧ SqL K H a (ns.map V.int) ∧ ∀ b g f s, H b = none → BagOk g f s → Q (.ref b) (upd H b (.lst (bagL g f s)))
def spTake : Sp := fun vs H Q _ => ∃ (b : Addr) (n : Int), vs = [.ref b, .int n] ∧ 0 < n ∧ n < 1152921504606846976 ∧ Bag H b ∧ ∀ d H', 0 ≤ d → d < n → Bag H' b → Mut b H H' → Q (.int d) H'
/-- ints from 0 to below n -/
def Below (n : Int) (xs : List Int) : Prop := ∀ x ∈ xs, 0 ≤ x ∧ x < n
def ListI (H : Hp) (p : Addr) (xs : List Int) : Prop := H p = some (.lst (xs.map V.int))
def spOrder : Sp := fun vs H Q _ => ∃ (b : Addr) (n : Nat), vs = [.ref b, .int (n : Int)] ∧ n ≤ 64 ∧ Bag H b ∧ ∀ p xs H', H p = none → p ≠ b → xs.length = n → Below n xs → ListI H' p xs → Bag H' b → Mut b H H' → Q (.ref p) H'
def spSize : Sp := fun vs H Q _ => ∃ b : Addr, vs = [.ref b] ∧ Bag H b ∧ ∀ (d : Int) H', 0 ≤ d → d ≤ 64 → Bag H' b → Mut b H H' → Q (.int d) H'
def spEntry : Sp := fun vs H Q _ => ∃ (b : Addr) (n : Nat), vs = [.ref b, .int (n : Int)] ∧ 0 < n ∧ n ≤ 64 ∧ Bag H b ∧ ∀ (d : Int) H', Bag H' b → Mut b H H' → Q (.int d) H'
def spDrawn : Sp := fun vs H Q _ => ∃ (b : Addr) (n : Nat), vs = [.ref b, .int (n : Int)] ∧ n ≤ 64 ∧ Bag H b ∧ ∀ p xs H', H p = none → p ≠ b → xs.length = n → ListI H' p xs → Bag H' b → Mut b H H' → Q (.ref p) H'
theorem Bag.ne {H : Hp} {b p : Addr} (B : Bag H b) (h : H p = none) : p ≠ b := fun e => by
  obtain ⟨g, f, s, hb, _⟩ := B
  rw [e, hb] at h
  cases h
theorem Bag.keep {H H' : Hp} {b : Addr} (B : Bag H b) (h : ∀ o, H b = some o → H' b = some o) : Bag H' b := by
  obtain ⟨g, f, s, hb, ok⟩ := B
  exact ⟨g, f, s, h _ hb, ok⟩
theorem map_erase {α β : Type} (f : α → β) : ∀ (l : List α) (i : Nat), (l.map f).eraseIdx i = (l.eraseIdx i).map f
  | [], _ => rfl
  | _ :: _, 0 => rfl
  | a :: l, i + 1 => by
    show f a :: (l.map f).eraseIdx i = f a :: (l.eraseIdx i).map f
    rw [map_erase f l i]
theorem rgV_map (n : Nat) : rgV 0 (n : Int) = ((List.range n).map fun i : Nat => (i : Int)).map V.int := by
  unfold rgV
  have e : ((n : Int) - 0).toNat = n := by omega
  rw [e, List.map_map]
  refine List.map_congr_left fun i _ => ?_
  show V.int (0 + (i : Int)) = V.int (i : Int)
  rw [Int.zero_add]
theorem below_rg (n : Nat) : Below (n : Int) ((List.range n).map fun i : Nat => (i : Int)) := fun x hx => by
  obtain ⟨i, hi, rfl⟩ := List.mem_map.mp hx
  have := List.mem_range.mp hi
  omega
theorem ListI.sz {K : PySem.W.Frag} {H : Hp} {p : Addr} {xs : List Int} (h : ListI H p xs) : SqL K H p (xs.map V.int) := SqL.of h
theorem ix_map {xs : List Int} {j : Nat} (h : j < xs.length) : (xs.map V.int)[j]? = some (V.int xs[j]) := by
  rw [List.getElem?_map, List.getElem?_eq_getElem h]
  rfl
theorem at_map {xs : List Int} {j : Nat} (h : j < xs.length) : atI (xs.map V.int) (j : Int) = some (V.int xs[j]) := atI_nat (ix_map h)
theorem set_map {xs : List Int} {j : Nat} {v : Int} : (xs.map V.int).set j (V.int v) = (xs.set j v).map V.int := List.map_set.symm
theorem ite_b {b : Bool} {X Y : Prop} (h1 : b = true → X) (h2 : b = false → Y) : if b = true then X else Y := by
  cases b with
  | true => exact h1 rfl
  | false => exact h2 rfl
theorem int_at {ns : List Int} {i : Nat} {y : V} (h : (ns.map V.int)[i]? = some y) : ∃ z, ns[i]? = some z ∧ y = V.int z := by
  rw [List.getElem?_map] at h
  cases e : ns[i]? with
  | none =>
    rw [e] at h
    cases h
  | some z =>
    rw [e] at h
    exact ⟨z, rfl, (Option.some.inj h).symm⟩
end Pv

namespace Pv
open PySem L2 Evl
/-! ### the mathematics: which entry is the first bad one -/
def firstOf (p : Nat → Bool) (n : Nat) : Option Nat := (List.range n).find? p
theorem firstOf_some {p : Nat → Bool} {n i : Nat} (hi : i < n) (hp : p i = true) (h : ∀ j, j < i → p j = false) : firstOf p n = some i := by
  unfold firstOf
  rw [List.find?_range_eq_some]
  exact ⟨hp, List.mem_range.mpr hi, fun j hj => by rw [h j hj]; rfl⟩
theorem firstOf_none {p : Nat → Bool} {n : Nat} (h : ∀ j, j < n → p j = false) : firstOf p n = none := by
  unfold firstOf
  rw [List.find?_range_eq_none]
  exact fun j hj => by rw [h j hj]; rfl
theorem firstOf_no {p : Nat → Bool} {n : Nat} (h : firstOf p n = none) : ∀ j, j < n → p j = false := by
  unfold firstOf at h
  rw [List.find?_range_eq_none] at h
  intro j hj
  have := h j hj
  simpa using this
def badE (xs : List Int) (k : Nat) : Bool := decide (xs.getD k 0 < 0) || decide ((xs.length : Int) ≤ xs.getD k 0)
def badS (xs : List Int) (k : Nat) : Bool := !decide (xs.getD (xs.getD k 0).toNat 0 = (k : Int))
def badIx (xs : List Int) : Option Nat := firstOf (badE xs) xs.length
def badSt (xs : List Int) : Option Nat := firstOf (badS xs) xs.length
/-- what a check comes to -/
inductive Out where
  | ok
  | image (k : Nat)
  | state (k : Nat)
  | sizes
def outE (xs : List Int) : Out := match badIx xs with
  | some k => .image k
  | none => .ok
def outS (xs : List Int) : Out := match badIx xs with
  | some k => .image k
  | none => match badSt xs with
    | some k => .state k
    | none => .ok
def outP (xs ys : List Int) : Out := match outS xs with
  | .ok => (match outS ys with
    | .ok => if xs.length = ys.length then .ok else .sizes
    | o => o)
  | o => o
def Out.isOk : Out → Bool
  | .ok => true
  | _ => false
def Out.list : Out → List V
  | .ok => [.str "done", .non]
  | .image k => [.str "image", .int (k : Int)]
  | .state k => [.str "state", .int (k : Int)]
  | .sizes => [.str "sizes", .non]
/-- is_state's: the truth, or the first bad entry -/
def truthL (xs : List Int) : List V := match outE xs with
  | .ok => [.str "done", .bl (outS xs).isOk]
  | o => o.list
/-- the error that belongs to what a check comes to -/
def Rz (A : Ad) (o : Out) (H : Hp) (E : XK) : Prop := match o with
  | .ok => True
  | .image k => ∀ d H', Ex H H' → H' d = some (.xd [("record", .int (k : Int))]) → E (.ref A.InvalidImage) (some d) H'
  | .state k => ∀ d H', Ex H H' → H' d = some (.xd [("record", .int (k : Int))]) → E (.ref A.NotState) (some d) H'
  | .sizes => ∀ H', Ex H H' → E (.ref A.UnequalSizes) none H'
theorem Rz.mono {A : Ad} {o : Out} {H H1 : Hp} {E : XK} (e : Ex H H1) (h : Rz A o H E) : Rz A o H1 E := by
  cases o with
  | ok => trivial
  | image k => exact fun d H' e' hd => h d H' (e.trans e') hd
  | state k => exact fun d H' e' hd => h d H' (e.trans e') hd
  | sizes => exact fun H' e' => h H' (e.trans e')
/-! ### promises -/
def spOwn : Sp := fun vs H Q _ => ∃ (l : Addr) (xs : List V), vs = [.ref l] ∧ H l = some (.lst xs) ∧ ∀ p, H p = none → Q (.ref p) (upd H p (.lst xs))
def spInit (C : Addr) (f : Str) : Sp := fun vs H Q _ => ∃ (a : Addr) (v : V), vs = [.ref a, v] ∧ H a = some (exo a C none) ∧ ∀ dx, H dx = none → dx ≠ a → Q .non (upd (upd H dx (exd dx [(f, v)])) a (exo a C (some dx)))
def spInitL (C : Addr) (f : Str) : Sp := fun vs H Q _ => ∃ (a l : Addr) (xs : List V), vs = [.ref a, .ref l] ∧ H a = some (exo a C none) ∧ H l = some (.lst xs) ∧
  ∀ p dx, H p = none → upd H p (.lst xs) dx = none → dx ≠ a → Q .non (upd (upd (upd H p (.lst xs)) dx (exd dx [(f, .ref p)])) a (exo a C (some dx)))
def spCI (A : Ad) : Sp := fun vs H Q E => ∃ (a : Addr) (xs : List Int), vs = [.ref a] ∧ ListI H a xs ∧ xs.length ≤ 64 ∧ (outE xs = .ok → ∀ H', Ex H H' → Q .non H') ∧ Rz A (outE xs) H E
def spIS (A : Ad) : Sp := fun vs H Q E => ∃ (a : Addr) (xs : List Int), vs = [.ref a] ∧ ListI H a xs ∧ xs.length ≤ 64 ∧ (outE xs = .ok → ∀ H', Ex H H' → Q (.bl (outS xs).isOk) H') ∧ Rz A (outE xs) H E
def spCS (A : Ad) : Sp := fun vs H Q E => ∃ (a : Addr) (xs : List Int), vs = [.ref a] ∧ ListI H a xs ∧ xs.length ≤ 64 ∧ (outS xs = .ok → ∀ H', Ex H H' → Q .non H') ∧ Rz A (outS xs) H E
def spCP (A : Ad) : Sp := fun vs H Q E => ∃ (a b : Addr) (xs ys : List Int), vs = [.ref a, .ref b] ∧ ListI H a xs ∧ ListI H b ys ∧ xs.length ≤ 64 ∧ ys.length ≤ 64 ∧ (outP xs ys = .ok → ∀ H', Ex H H' → Q .non H') ∧ Rz A (outP xs ys) H E
/-- raise X(v), told by what stands behind -/
theorem mkO_go {C : Addr} {f : Str} {v : V} {H1 : Hp} {Q : XK} (k : ∀ d H', Ex H1 H' → H' d = some (.xd [(f, v)]) → Q (.ref C) (some d) H') (e : Addr) (he : H1 e = none) :
    spInit C f (.ref e :: ([v] ++ [])) (upd H1 e (exo e C none)) (fun v H2 => v = .non ∧ ∃ (d : Addr) (fs : List (Str × V)), H2 e = some (exo e C (some d)) ∧ H2 d = some (exd d fs) ∧ H1 d = none ∧ Q (.ref C) (some d) (upd (L2.del H2 e) d (.xd fs))) (fun _ _ _ => False) := by
  refine ⟨e, v, rfl, upd_same, fun dx hdx ne => ⟨rfl, dx, _, upd_same, (by rw [upd_ne ne, upd_same]), ?_, k dx _ ?_ upd_same⟩⟩
  · rw [upd_ne ne] at hdx
    exact hdx
  · rw [upd_ne ne] at hdx
    intro b o hb
    have n1 : b ≠ dx := ne_of_none hb hdx
    have n2 : b ≠ e := ne_of_none hb he
    rw [upd_ne n1, del_ne n2, upd_ne n2, upd_ne n1, upd_ne n2]
    exact hb
theorem ex_new {H H1 : Hp} {p : Addr} {o : HO} (e : Ex H H1) (h : H1 p = none) : Ex H (upd H1 p o) := e.trans (Ex.new h)
theorem ListI.ex {H H1 : Hp} {a : Addr} {xs : List Int} (e : Ex H H1) (h : ListI H a xs) : ListI H1 a xs := e a _ h
theorem getD_of {xs : List Int} {k : Nat} {z : Int} (h : xs[k]? = some z) : xs.getD k 0 = z := by
  rw [List.getD_eq_getElem?_getD, h]
  rfl
theorem outE_image {xs : List Int} {k : Nat} (h : badIx xs = some k) : outE xs = .image k := by
  unfold outE
  rw [h]
theorem outE_ok {xs : List Int} (h : badIx xs = none) : outE xs = .ok := by
  unfold outE
  rw [h]
theorem outS_image {xs : List Int} {k : Nat} (h : badIx xs = some k) : outS xs = .image k := by
  unfold outS
  rw [h]
theorem outS_state {xs : List Int} {k : Nat} (h : badIx xs = none) (h2 : badSt xs = some k) : outS xs = .state k := by
  unfold outS
  rw [h, h2]
theorem outS_ok {xs : List Int} (h : badIx xs = none) (h2 : badSt xs = none) : outS xs = .ok := by
  unfold outS
  rw [h, h2]
/-- behind a good check each entry is a record -/
theorem good_at {xs : List Int} {k : Nat} {z : Int} (h : badIx xs = none) (hz : xs[k]? = some z) : ∃ j : Nat, z = (j : Int) ∧ j < xs.length := by
  have hk : k < xs.length := (List.getElem?_eq_some_iff.mp hz).1
  have q := firstOf_no h k hk
  unfold badE at q
  rw [getD_of hz, Bool.or_eq_false_iff] at q
  have q1 := of_decide_eq_false q.1
  have q2 := of_decide_eq_false q.2
  exact ⟨z.toNat, by omega, by omega⟩
/-- lists of ints as data -/
def dI (xs : List Int) : PyData := .list (xs.map PyData.int)
theorem dpAll_I {K : PySem.W.Frag} {H : Hp} : ∀ xs : List Int, DpAll K H (xs.map V.int) (xs.map PyData.int)
  | [] => .nil
  | x :: xs => .cons (.int x) (dpAll_I xs)
theorem dp_I {K : PySem.W.Frag} {H : Hp} {a : Addr} {xs : List Int} (h : ListI H a xs) : Dp K H (.ref a) (dI xs) := .lst h.sz (dpAll_I xs)
theorem lay_I : ∀ xs : List Int, PyData.canLayAll0 (xs.map PyData.int) = true
  | [] => by simp [PyData.canLayAll0]
  | x :: xs => by
    simp only [List.map_cons, PyData.canLayAll0, PyData.canLay0, lay_I xs]
    rfl
theorem deep_I : ∀ xs : List Int, PyData.depthAll (xs.map PyData.int) ≤ 1
  | [] => by simp [PyData.depthAll]
  | x :: xs => by
    have := deep_I xs
    simp only [List.map_cons, PyData.depthAll, PyData.depth]
    omega
theorem canLay_I (xs : List Int) : PyData.canLay0 (dI xs) = true := by
  unfold dI
  simp only [PyData.canLay0]
  exact lay_I xs
theorem shaped_I (xs : List Int) : SeqAt.shaped (dI xs) = true := by
  have h2 : PyData.depth (dI xs) ≤ 64 := by
    have := deep_I xs
    unfold dI
    simp only [PyData.depth]
    omega
  unfold SeqAt.shaped
  rw [canLay_I, decide_eq_true h2]
  rfl
theorem eqv_I (xs : List Int) : PyData.eqv (dI xs) (dI xs) = true := SeqAt.eqv_refl _ (canLay_I xs)
theorem ne_ix {l : List Addr} (h : l.Nodup) (i j : Nat) {a b : Addr} (ha : l[i]? = some a) (hb : l[j]? = some b) (hij : i ≠ j) : a ≠ b := fun z => hij (nd_ix h ha (z ▸ hb))
theorem Out.form (o : Out) : ∃ (s : Str) (v : V), o.list = [.str s, v] ∧ (v = .non ∨ ∃ i, v = .int i) := by
  cases o with
  | ok => exact ⟨_, _, rfl, Or.inl rfl⟩
  | image k => exact ⟨_, _, rfl, Or.inr ⟨_, rfl⟩⟩
  | state k => exact ⟨_, _, rfl, Or.inr ⟨_, rfl⟩⟩
  | sizes => exact ⟨_, _, rfl, Or.inl rfl⟩
def spDueE : Sp := fun vs H Q _ => ∃ (a : Addr) (xs : List Int), vs = [.ref a] ∧ ListI H a xs ∧ xs.length ≤ 64 ∧ ∀ p H', H p = none → Ex H H' → H' p = some (.tup (outE xs).list) → Q (.ref p) H'
def spDueS : Sp := fun vs H Q _ => ∃ (a : Addr) (xs : List Int), vs = [.ref a] ∧ ListI H a xs ∧ xs.length ≤ 64 ∧ ∀ p H', H p = none → Ex H H' → H' p = some (.tup (outS xs).list) → Q (.ref p) H'
def spDueP : Sp := fun vs H Q _ => ∃ (a b : Addr) (xs ys : List Int), vs = [.ref a, .ref b] ∧ ListI H a xs ∧ ListI H b ys ∧ xs.length ≤ 64 ∧ ys.length ≤ 64 ∧ ∀ p H', H p = none → Ex H H' → H' p = some (.tup (outP xs ys).list) → Q (.ref p) H'
def spTruth : Sp := fun vs H Q _ => ∃ (a : Addr) (xs : List Int), vs = [.ref a] ∧ ListI H a xs ∧ xs.length ≤ 64 ∧ ∀ p H', H p = none → Ex H H' → H' p = some (.tup (truthL xs)) → Q (.ref p) H'
def spMeets : Sp := fun vs H Q _ => ∃ (p q : Addr) (s : Str) (v : V), vs = [.ref p, .ref q] ∧ H p = some (.tup [.str s, v]) ∧ H q = some (.tup [.str s, v]) ∧ (v = .non ∨ (∃ b, v = .bl b) ∨ ∃ i, v = .int i) ∧ Q (.bl true) H
def spOne : Sp := fun vs H Q _ => ∃ (a : Addr) (xs : List Int), vs = [.ref a] ∧ ListI H a xs ∧ xs.length ≤ 64 ∧ ∀ H', Ex H H' → Q (.bl true) H'
def spTwo : Sp := fun vs H Q _ => ∃ (a b : Addr) (xs ys : List Int), vs = [.ref a, .ref b] ∧ ListI H a xs ∧ ListI H b ys ∧ xs.length ≤ 64 ∧ ys.length ≤ 64 ∧ ∀ H', Ex H H' → Q (.bl true) H'
theorem ErrT.ex {H H1 : Hp} {a C : Addr} (e : Ex H H1) (h : ErrT H a C) : ErrT H1 a C := by
  rcases h with h | ⟨dx, fs, h1, h2⟩
  · exact Or.inl (e _ _ h)
  · exact Or.inr ⟨dx, fs, e _ _ h1, e _ _ h2⟩
/-- X(v) as a value, told by what stands behind -/
theorem mkV_go {C : Addr} {f : Str} {v : V} {H1 : Hp} {Q : VK} {E : XK} (k : ∀ a dx H2, H1 a = none → Ex H1 H2 → H2 a = some (exo a C (some dx)) → H2 dx = some (exd dx [(f, v)]) → Q (.ref a) H2) (e : Addr) (he : H1 e = none) :
    spInit C f (.ref e :: [v]) (upd H1 e (exo e C none)) (fun v H2 => v = .non ∧ Q (.ref e) H2) E := by
  refine ⟨e, v, rfl, upd_same, fun dx hdx ne => ⟨rfl, k e dx _ he ?_ upd_same (by rw [upd_ne ne, upd_same])⟩⟩
  rw [upd_ne ne] at hdx
  intro b o hb
  rw [upd_ne (ne_of_none hb he), upd_ne (ne_of_none hb hdx), upd_ne (ne_of_none hb he)]
  exact hb
theorem mkL_go {C l : Addr} {f : Str} {xs : List V} {H1 : Hp} {Q : VK} {E : XK} (hl : H1 l = some (.lst xs)) (k : ∀ a dx p H2, H1 a = none → Ex H1 H2 → H2 a = some (exo a C (some dx)) → H2 dx = some (exd dx [(f, .ref p)]) → H2 p = some (.lst xs) → Q (.ref a) H2) (e : Addr) (he : H1 e = none) :
    spInitL C f (.ref e :: [.ref l]) (upd H1 e (exo e C none)) (fun v H2 => v = .non ∧ Q (.ref e) H2) E := by
  refine ⟨e, l, xs, rfl, upd_same, (by rw [upd_ne (ne_of_none hl he)]; exact hl), fun p dx hp hdx ne => ⟨rfl, ?_⟩⟩
  have nep : e ≠ p := ne_of_none upd_same hp
  have hp1 : H1 p = none := by
    rw [upd_ne (Ne.symm nep)] at hp
    exact hp
  have ndp : dx ≠ p := fun z => by rw [z, upd_same] at hdx; cases hdx
  have hdx1 : H1 dx = none := by
    rw [upd_ne ndp, upd_ne ne] at hdx
    exact hdx
  refine k e dx p _ he (fun b o hb => ?_) upd_same (by rw [upd_ne ne, upd_same]) (by rw [upd_ne (Ne.symm nep), upd_ne (Ne.symm ndp), upd_same])
  rw [upd_ne (ne_of_none hb he), upd_ne (ne_of_none hb hdx1), upd_ne (ne_of_none hb hp1), upd_ne (ne_of_none hb he)]
  exact hb
theorem mkV_facts {C e dx : Addr} {f : Str} {v : V} {H1 : Hp} (he : H1 e = none) (hdx : upd H1 e (exo e C none) dx = none) (ne : dx ≠ e) :
    Ex H1 (upd (upd (upd H1 e (exo e C none)) dx (exd dx [(f, v)])) e (exo e C (some dx))) ∧ (upd (upd (upd H1 e (exo e C none)) dx (exd dx [(f, v)])) e (exo e C (some dx))) e = some (exo e C (some dx)) ∧ (upd (upd (upd H1 e (exo e C none)) dx (exd dx [(f, v)])) e (exo e C (some dx))) dx = some (exd dx [(f, v)]) := by
  refine ⟨?_, upd_same, by rw [upd_ne ne, upd_same]⟩
  rw [upd_ne ne] at hdx
  intro b o hb
  rw [upd_ne (ne_of_none hb he), upd_ne (ne_of_none hb hdx), upd_ne (ne_of_none hb he)]
  exact hb
theorem mkL_facts {C e l dx p : Addr} {f : Str} {xs : List V} {H1 : Hp} (hl : H1 l = some (.lst xs)) (he : H1 e = none) (hp : upd H1 e (exo e C none) p = none) (hdx : upd (upd H1 e (exo e C none)) p (.lst xs) dx = none) (ne : dx ≠ e) :
    Ex H1 (upd (upd (upd (upd H1 e (exo e C none)) p (.lst xs)) dx (exd dx [(f, .ref p)])) e (exo e C (some dx))) ∧ (upd (upd (upd (upd H1 e (exo e C none)) p (.lst xs)) dx (exd dx [(f, .ref p)])) e (exo e C (some dx))) e = some (exo e C (some dx)) ∧
      (upd (upd (upd (upd H1 e (exo e C none)) p (.lst xs)) dx (exd dx [(f, .ref p)])) e (exo e C (some dx))) dx = some (exd dx [(f, .ref p)]) ∧ (upd (upd (upd (upd H1 e (exo e C none)) p (.lst xs)) dx (exd dx [(f, .ref p)])) e (exo e C (some dx))) p = some (.lst xs) := by
  have nep : e ≠ p := ne_of_none upd_same hp
  have hp1 : H1 p = none := by
    rw [upd_ne (Ne.symm nep)] at hp
    exact hp
  have ndp : dx ≠ p := fun z => by rw [z, upd_same] at hdx; cases hdx
  have hdx1 : H1 dx = none := by
    rw [upd_ne ndp, upd_ne ne] at hdx
    exact hdx
  refine ⟨fun b o hb => ?_, upd_same, by rw [upd_ne ne, upd_same], by rw [upd_ne (Ne.symm nep), upd_ne (Ne.symm ndp), upd_same]⟩
  rw [upd_ne (ne_of_none hb he), upd_ne (ne_of_none hb hdx1), upd_ne (ne_of_none hb hp1), upd_ne (ne_of_none hb he)]
  exact hb
def cls (A : Ad) : List Addr := [A.InvalidSize, A.InvalidImage, A.NotState, A.Unrepairable, A.InvalidRecord, A.Busy, A.Written, A.NotReady, A.InvalidNumber, A.InvalidRules, A.InvalidStore, A.Ambiguous, A.NoWriter, A.Unsafe, A.UnequalSizes, A.InvalidUpdate, A.InvalidKind, A.InvalidChange, A.InvalidOrder, A.NoStory, A.NotInBook, A.Down, A.NotDown, A.NothingToUndo, A.NothingToRedo]
def markL (i : Nat) : List V := (List.range 25).map fun j => V.bl (decide (j = i))
/-- what is known of each class -/
theorem Txt.err {K : PySem.W.Frag} {mg : Str → Option Value} {A : Ad} (T : Txt K mg A) : ∀ (k : Nat) (C : Addr), (cls A)[k]? = some C → ∃ x, ErrK K mg A.MendError C x
  | 0, _, h => ⟨_, Option.some.inj h ▸ T.e_InvalidSize⟩
  | 1, _, h => ⟨_, Option.some.inj h ▸ T.e_InvalidImage⟩
  | 2, _, h => ⟨_, Option.some.inj h ▸ T.e_NotState⟩
  | 3, _, h => ⟨_, Option.some.inj h ▸ T.e_Unrepairable⟩
  | 4, _, h => ⟨_, Option.some.inj h ▸ T.e_InvalidRecord⟩
  | 5, _, h => ⟨_, Option.some.inj h ▸ T.e_Busy⟩
  | 6, _, h => ⟨_, Option.some.inj h ▸ T.e_Written⟩
  | 7, _, h => ⟨_, Option.some.inj h ▸ T.e_NotReady⟩
  | 8, _, h => ⟨_, Option.some.inj h ▸ T.e_InvalidNumber⟩
  | 9, _, h => ⟨_, Option.some.inj h ▸ T.e_InvalidRules⟩
  | 10, _, h => ⟨_, Option.some.inj h ▸ T.e_InvalidStore⟩
  | 11, _, h => ⟨_, Option.some.inj h ▸ T.e_Ambiguous⟩
  | 12, _, h => ⟨_, Option.some.inj h ▸ T.e_NoWriter⟩
  | 13, _, h => ⟨_, Option.some.inj h ▸ T.e_Unsafe⟩
  | 14, _, h => ⟨_, Option.some.inj h ▸ T.e_UnequalSizes⟩
  | 15, _, h => ⟨_, Option.some.inj h ▸ T.e_InvalidUpdate⟩
  | 16, _, h => ⟨_, Option.some.inj h ▸ T.e_InvalidKind⟩
  | 17, _, h => ⟨_, Option.some.inj h ▸ T.e_InvalidChange⟩
  | 18, _, h => ⟨_, Option.some.inj h ▸ T.e_InvalidOrder⟩
  | 19, _, h => ⟨_, Option.some.inj h ▸ T.e_NoStory⟩
  | 20, _, h => ⟨_, Option.some.inj h ▸ T.e_NotInBook⟩
  | 21, _, h => ⟨_, Option.some.inj h ▸ T.e_Down⟩
  | 22, _, h => ⟨_, Option.some.inj h ▸ T.e_NotDown⟩
  | 23, _, h => ⟨_, Option.some.inj h ▸ T.e_NothingToUndo⟩
  | 24, _, h => ⟨_, Option.some.inj h ▸ T.e_NothingToRedo⟩
  | n + 25, _, h => nomatch h
theorem Txt.kit {K : PySem.W.Frag} {mg : Str → Option Value} {A : Ad} (T : Txt K mg A) {k : Nat} {C : Addr} (h : (cls A)[k]? = some C) (j : Nat) (D : Addr) (hd : (cls A)[j]? = some D) : PySem.W.kitOne K (.ref C) (.ref D) = some (decide (j = k)) := by
  obtain ⟨x, e⟩ := T.err k C h
  obtain ⟨y, f⟩ := T.err j D hd
  have nd : (A.MendError :: cls A).Nodup := T.nd
  by_cases hjk : j = k
  · subst hjk
    rw [h] at hd
    cases hd
    rw [decide_eq_true rfl]
    exact kit_self
  · rw [decide_eq_false hjk]
    exact e.kit_ne f (ne_ix nd (k + 1) (j + 1) h hd (by omega)) (ne_ix nd 0 (j + 1) rfl hd (by omega))
theorem Txt.base {K : PySem.W.Frag} {mg : Str → Option Value} {A : Ad} (T : Txt K mg A) {k : Nat} {C : Addr} (h : (cls A)[k]? = some C) : ExcC K C ∧ PySem.W.kitOne K (.ref C) (.ref A.MendError) = some true ∧ PySem.W.kitOne K (.ref C) (.type "ValueError") = some true := by
  obtain ⟨x, e⟩ := T.err k C h
  have nd : (A.MendError :: cls A).Nodup := T.nd
  exact ⟨e.exc T.cn T.ct, e.kit_base T.e_MendError (ne_ix nd (k + 1) 0 h rfl (by omega)), e.kit_ve⟩
/-- a list of errors made so far -/
def Made (A : Ad) (H : Hp) (m : Addr) (n : Nat) : Prop := ∃ es : List Addr, H m = some (.lst (es.map V.ref)) ∧ es.length = n ∧ ∀ (j : Nat) (e C : Addr), es[j]? = some e → (cls A)[j]? = some C → ErrT H e C
theorem Made.ex {A : Ad} {H H1 : Hp} {m : Addr} {n : Nat} (e : Ex H H1) (h : Made A H m n) : Made A H1 m n := by
  obtain ⟨es, h1, h2, h3⟩ := h
  exact ⟨es, e _ _ h1, h2, fun j x C a b => ErrT.ex e (h3 j x C a b)⟩
/-- more of them behind -/
theorem Made.more {A : Ad} {H : Hp} {m p : Addr} {n : Nat} {fs : List Addr} {xs : List V} (h : Made A H m n) (hx : H m = some (.lst xs)) (hp : H p = none) (hf : ∀ (j : Nat) (e C : Addr), fs[j]? = some e → (cls A)[n + j]? = some C → ErrT H e C) : Made A (upd H p (.lst (xs ++ fs.map V.ref))) p (n + fs.length) := by
  obtain ⟨es, h1, h2, h3⟩ := h
  rw [h1] at hx
  cases hx
  refine ⟨es ++ fs, by rw [upd_same, List.map_append], by rw [List.length_append, h2], fun j x C a b => ?_⟩
  refine ErrT.ex (Ex.new hp) ?_
  by_cases hj : j < es.length
  · rw [List.getElem?_append_left hj] at a
    exact h3 j x C a b
  · rw [List.getElem?_append_right (by omega)] at a
    exact hf (j - es.length) x C a (by rw [← h2]; rw [show es.length + (j - es.length) = j by omega]; exact b)
def spMarks (K : PySem.W.Frag) (A : Ad) : Sp := fun vs H Q _ => ∃ (e C : Addr) (i : Nat), vs = [.ref e] ∧ ErrT H e C ∧ (cls A)[i]? = some C ∧ ∀ p H', H p = none → Ex H H' → H' p = some (.lst (markL i)) → Q (.ref p) H'
def spErr : Sp := fun vs H Q _ => ∃ n : Int, vs = [.int n] ∧ ∀ H', Ex H H' → Q (.bl true) H'
def spLaw (K : PySem.W.Frag) : Sp := fun vs H Q _ => ∃ (a : Addr) (ns : List Int), vs = [.ref a] ∧ SqL K H a (ns.map V.int) ∧ ns.length ≤ 63 ∧ ∀ H', Q (.bl true) H'
theorem getD_at {xs : List Int} {k : Nat} (h : k < xs.length) : xs.getD k 0 = xs[k] := by
  rw [List.getD_eq_getElem?_getD, List.getElem?_eq_getElem h]
  rfl
end Pv

namespace Pv
open PySem L2 Evl
local macro_rules | `(tactic| walk_at "r1") => `(tactic| first
  | refine ⟨_, rfl, ?_⟩
  | refine ⟨rfl, ?_⟩
  | refine ⟨_, _, rfl, rfl, (show (_ : Prop) from by first | decide | omega | assumption | exact Or.inr ⟨by decide, by decide⟩ | exact Or.inl ⟨by omega, by omega⟩ | exact ⟨by decide, by decide, by decide⟩ | exact ⟨by decide, by decide⟩ | exact wide_div (b := 60) (by omega) (by omega) (by decide) (by decide)), ?_⟩
  | refine ⟨_, _, rfl, rfl, ?_⟩
  | refine ⟨_, _, _, _, rfl, rfl, (show (_ : Prop) from by first | exact SqL.of (by assumption) | exact SqL.of upd_same | assumption | exact upd_same), rfl, ?_⟩
  | refine Or.inl ⟨_, rfl, ?_⟩)
local macro_rules | `(tactic| walk_at "ex") => `(tactic| first | exact Ex.refl _ | assumption | (refine ex_new ?_ (by assumption); walk_at "ex"))
local macro_rules | `(tactic| walk_at "r") => `(tactic| repeat (walk_at "r1"))

section
variable {P : Program} {w : World} {K : PySem.W.Frag} {mg : Str → Option Value} {base : Heap} {A : Ad}
theorem ok_own (T : Txt K mg A)  : Okd P w K mg base CX0 1 A.own P_own spOwn := by
  obtain ⟨fd, F⟩ := T.d_own

  refine ⟨fd, F.ok sc_own (fun vs H Q E h => ?_) (fun cdv A' outer s H vs Q E hr h => ?_), F.binds fun _ _ _ _ _ _ us hl => match us, hl with | [_], _ => rfl⟩
  · obtain ⟨l, xs, rfl, _⟩ := h
    rfl
  · obtain ⟨l, xs, rfl, hl, k⟩ := h
    refine ⟨_, (pss_cons (ps_if (pt_val (pe_callB call_isi (by rfl) T.n_isinstance (by decide +kernel) (pa_cons (pv 0) (pa_cons (pe_bltn (v := .ty "list") (u := .type "list") (by rfl) T.n_list (by decide +kernel) rfl) pa_nil)))) (pss_one (ps_ret (pe_callTy call_list_of (by rfl) T.n_list (by decide +kernel) (pa_cons (pv 0) pa_nil)))) pss_nil)
      (pss_one (ps_ret (pv 0)))), ?_⟩
    refine ⟨_, rfl, _, _, _, _, true, rfl, ClsV.ty "list", TyX.base (TyOf.lst hl), kit_ty (by decide +kernel), _, rfl, ?_⟩
    refine ⟨_, rfl, _, _, rfl, Or.inl (SqL.of hl), fun p hp => k p hp⟩


theorem ok_InvalidSize (T : Txt K mg A)  : Okd P w K mg base CX0 1 A.i_InvalidSize P_InvalidSize (spInit A.InvalidSize "size") := by
  obtain ⟨fd, F⟩ := T.f_InvalidSize.fn

  refine ⟨fd, F.ok sc_InvalidSize (fun vs H Q E h => ?_) (fun cdv A' outer s H vs Q E hr h => ?_), F.binds fun _ _ _ _ _ _ us hl => match us, hl with | [_, _], _ => rfl⟩
  · obtain ⟨a, v, rfl, _⟩ := h
    rfl
  · obtain ⟨a, v, rfl, ha, k⟩ := h
    refine ⟨_, (pss_one (ps_ost (pv 0) (pv 1))), ?_⟩
    exact ⟨_, rfl, _, rfl, a, A.InvalidSize, rfl, T.e_InvalidSize.oex, T.f_InvalidSize.nf, Or.inl ⟨ha, fun dx hdx ne => k dx hdx ne⟩⟩


theorem ok_InvalidImage (T : Txt K mg A)  : Okd P w K mg base CX0 1 A.i_InvalidImage P_InvalidImage (spInit A.InvalidImage "record") := by
  obtain ⟨fd, F⟩ := T.f_InvalidImage.fn

  refine ⟨fd, F.ok sc_InvalidImage (fun vs H Q E h => ?_) (fun cdv A' outer s H vs Q E hr h => ?_), F.binds fun _ _ _ _ _ _ us hl => match us, hl with | [_, _], _ => rfl⟩
  · obtain ⟨a, v, rfl, _⟩ := h
    rfl
  · obtain ⟨a, v, rfl, ha, k⟩ := h
    refine ⟨_, (pss_one (ps_ost (pv 0) (pv 1))), ?_⟩
    exact ⟨_, rfl, _, rfl, a, A.InvalidImage, rfl, T.e_InvalidImage.oex, T.f_InvalidImage.nf, Or.inl ⟨ha, fun dx hdx ne => k dx hdx ne⟩⟩


theorem ok_NotState (T : Txt K mg A)  : Okd P w K mg base CX0 1 A.i_NotState P_NotState (spInit A.NotState "record") := by
  obtain ⟨fd, F⟩ := T.f_NotState.fn

  refine ⟨fd, F.ok sc_NotState (fun vs H Q E h => ?_) (fun cdv A' outer s H vs Q E hr h => ?_), F.binds fun _ _ _ _ _ _ us hl => match us, hl with | [_, _], _ => rfl⟩
  · obtain ⟨a, v, rfl, _⟩ := h
    rfl
  · obtain ⟨a, v, rfl, ha, k⟩ := h
    refine ⟨_, (pss_one (ps_ost (pv 0) (pv 1))), ?_⟩
    exact ⟨_, rfl, _, rfl, a, A.NotState, rfl, T.e_NotState.oex, T.f_NotState.nf, Or.inl ⟨ha, fun dx hdx ne => k dx hdx ne⟩⟩


theorem ok_Unrepairable (T : Txt K mg A) (g_own : Okd P w K mg base CX0 1 A.own P_own spOwn) : Okd P w K mg base CX0 2 A.i_Unrepairable P_Unrepairable (spInitL A.Unrepairable "group") := by
  obtain ⟨fd, F⟩ := T.f_Unrepairable.fn
  obtain ⟨fd_own, G_own, b_own⟩ := g_own
  refine ⟨fd, F.ok sc_Unrepairable (fun vs H Q E h => ?_) (fun cdv A' outer s H vs Q E hr h => ?_), F.binds fun _ _ _ _ _ _ us hl => match us, hl with | [_, _], _ => rfl⟩
  · obtain ⟨a, l, xs, rfl, _⟩ := h
    rfl
  · obtain ⟨a, l, xs, rfl, ha, hl, k⟩ := h
    refine ⟨_, (pss_one (ps_ost (pv 0) (pe_call G_own (hr.mono (by decide)) (by rfl) T.g_own T.k_own b_own .nil pass0 (pa_cons (pv 1) pa_nil)))), ?_⟩
    refine ⟨_, rfl, l, xs, rfl, hl, fun p hp => ?_⟩
    have ha2 : upd H p (.lst xs) a = some (exo a A.Unrepairable none) := by
      rw [upd_ne (ne_of_none ha hp)]
      exact ha
    exact ⟨_, rfl, a, A.Unrepairable, rfl, T.e_Unrepairable.oex, T.f_Unrepairable.nf, Or.inl ⟨ha2, fun dx hdx ne => k p dx hp hdx ne⟩⟩


theorem ok_InvalidRecord (T : Txt K mg A)  : Okd P w K mg base CX0 1 A.i_InvalidRecord P_InvalidRecord (spInit A.InvalidRecord "record") := by
  obtain ⟨fd, F⟩ := T.f_InvalidRecord.fn

  refine ⟨fd, F.ok sc_InvalidRecord (fun vs H Q E h => ?_) (fun cdv A' outer s H vs Q E hr h => ?_), F.binds fun _ _ _ _ _ _ us hl => match us, hl with | [_, _], _ => rfl⟩
  · obtain ⟨a, v, rfl, _⟩ := h
    rfl
  · obtain ⟨a, v, rfl, ha, k⟩ := h
    refine ⟨_, (pss_one (ps_ost (pv 0) (pv 1))), ?_⟩
    exact ⟨_, rfl, _, rfl, a, A.InvalidRecord, rfl, T.e_InvalidRecord.oex, T.f_InvalidRecord.nf, Or.inl ⟨ha, fun dx hdx ne => k dx hdx ne⟩⟩


theorem ok_Busy (T : Txt K mg A)  : Okd P w K mg base CX0 1 A.i_Busy P_Busy (spInit A.Busy "record") := by
  obtain ⟨fd, F⟩ := T.f_Busy.fn

  refine ⟨fd, F.ok sc_Busy (fun vs H Q E h => ?_) (fun cdv A' outer s H vs Q E hr h => ?_), F.binds fun _ _ _ _ _ _ us hl => match us, hl with | [_, _], _ => rfl⟩
  · obtain ⟨a, v, rfl, _⟩ := h
    rfl
  · obtain ⟨a, v, rfl, ha, k⟩ := h
    refine ⟨_, (pss_one (ps_ost (pv 0) (pv 1))), ?_⟩
    exact ⟨_, rfl, _, rfl, a, A.Busy, rfl, T.e_Busy.oex, T.f_Busy.nf, Or.inl ⟨ha, fun dx hdx ne => k dx hdx ne⟩⟩


theorem ok_Written (T : Txt K mg A)  : Okd P w K mg base CX0 1 A.i_Written P_Written (spInit A.Written "record") := by
  obtain ⟨fd, F⟩ := T.f_Written.fn

  refine ⟨fd, F.ok sc_Written (fun vs H Q E h => ?_) (fun cdv A' outer s H vs Q E hr h => ?_), F.binds fun _ _ _ _ _ _ us hl => match us, hl with | [_, _], _ => rfl⟩
  · obtain ⟨a, v, rfl, _⟩ := h
    rfl
  · obtain ⟨a, v, rfl, ha, k⟩ := h
    refine ⟨_, (pss_one (ps_ost (pv 0) (pv 1))), ?_⟩
    exact ⟨_, rfl, _, rfl, a, A.Written, rfl, T.e_Written.oex, T.f_Written.nf, Or.inl ⟨ha, fun dx hdx ne => k dx hdx ne⟩⟩


theorem ok_NotReady (T : Txt K mg A)  : Okd P w K mg base CX0 1 A.i_NotReady P_NotReady (spInit A.NotReady "record") := by
  obtain ⟨fd, F⟩ := T.f_NotReady.fn

  refine ⟨fd, F.ok sc_NotReady (fun vs H Q E h => ?_) (fun cdv A' outer s H vs Q E hr h => ?_), F.binds fun _ _ _ _ _ _ us hl => match us, hl with | [_, _], _ => rfl⟩
  · obtain ⟨a, v, rfl, _⟩ := h
    rfl
  · obtain ⟨a, v, rfl, ha, k⟩ := h
    refine ⟨_, (pss_one (ps_ost (pv 0) (pv 1))), ?_⟩
    exact ⟨_, rfl, _, rfl, a, A.NotReady, rfl, T.e_NotReady.oex, T.f_NotReady.nf, Or.inl ⟨ha, fun dx hdx ne => k dx hdx ne⟩⟩


theorem ok_InvalidNumber (T : Txt K mg A)  : Okd P w K mg base CX0 1 A.i_InvalidNumber P_InvalidNumber (spInit A.InvalidNumber "value") := by
  obtain ⟨fd, F⟩ := T.f_InvalidNumber.fn

  refine ⟨fd, F.ok sc_InvalidNumber (fun vs H Q E h => ?_) (fun cdv A' outer s H vs Q E hr h => ?_), F.binds fun _ _ _ _ _ _ us hl => match us, hl with | [_, _], _ => rfl⟩
  · obtain ⟨a, v, rfl, _⟩ := h
    rfl
  · obtain ⟨a, v, rfl, ha, k⟩ := h
    refine ⟨_, (pss_one (ps_ost (pv 0) (pv 1))), ?_⟩
    exact ⟨_, rfl, _, rfl, a, A.InvalidNumber, rfl, T.e_InvalidNumber.oex, T.f_InvalidNumber.nf, Or.inl ⟨ha, fun dx hdx ne => k dx hdx ne⟩⟩


theorem ok_InvalidRules (T : Txt K mg A)  : Okd P w K mg base CX0 1 A.i_InvalidRules P_InvalidRules (spInit A.InvalidRules "name") := by
  obtain ⟨fd, F⟩ := T.f_InvalidRules.fn

  refine ⟨fd, F.ok sc_InvalidRules (fun vs H Q E h => ?_) (fun cdv A' outer s H vs Q E hr h => ?_), F.binds fun _ _ _ _ _ _ us hl => match us, hl with | [_, _], _ => rfl⟩
  · obtain ⟨a, v, rfl, _⟩ := h
    rfl
  · obtain ⟨a, v, rfl, ha, k⟩ := h
    refine ⟨_, (pss_one (ps_ost (pv 0) (pv 1))), ?_⟩
    exact ⟨_, rfl, _, rfl, a, A.InvalidRules, rfl, T.e_InvalidRules.oex, T.f_InvalidRules.nf, Or.inl ⟨ha, fun dx hdx ne => k dx hdx ne⟩⟩


theorem ok_InvalidStore (T : Txt K mg A)  : Okd P w K mg base CX0 1 A.i_InvalidStore P_InvalidStore (spInit A.InvalidStore "at") := by
  obtain ⟨fd, F⟩ := T.f_InvalidStore.fn

  refine ⟨fd, F.ok sc_InvalidStore (fun vs H Q E h => ?_) (fun cdv A' outer s H vs Q E hr h => ?_), F.binds fun _ _ _ _ _ _ us hl => match us, hl with | [_, _], _ => rfl⟩
  · obtain ⟨a, v, rfl, _⟩ := h
    rfl
  · obtain ⟨a, v, rfl, ha, k⟩ := h
    refine ⟨_, (pss_one (ps_ost (pv 0) (pv 1))), ?_⟩
    exact ⟨_, rfl, _, rfl, a, A.InvalidStore, rfl, T.e_InvalidStore.oex, T.f_InvalidStore.nf, Or.inl ⟨ha, fun dx hdx ne => k dx hdx ne⟩⟩


theorem ok_Ambiguous (T : Txt K mg A) (g_own : Okd P w K mg base CX0 1 A.own P_own spOwn) : Okd P w K mg base CX0 2 A.i_Ambiguous P_Ambiguous (spInitL A.Ambiguous "numbers") := by
  obtain ⟨fd, F⟩ := T.f_Ambiguous.fn
  obtain ⟨fd_own, G_own, b_own⟩ := g_own
  refine ⟨fd, F.ok sc_Ambiguous (fun vs H Q E h => ?_) (fun cdv A' outer s H vs Q E hr h => ?_), F.binds fun _ _ _ _ _ _ us hl => match us, hl with | [_, _], _ => rfl⟩
  · obtain ⟨a, l, xs, rfl, _⟩ := h
    rfl
  · obtain ⟨a, l, xs, rfl, ha, hl, k⟩ := h
    refine ⟨_, (pss_one (ps_ost (pv 0) (pe_call G_own (hr.mono (by decide)) (by rfl) T.g_own T.k_own b_own .nil pass0 (pa_cons (pv 1) pa_nil)))), ?_⟩
    refine ⟨_, rfl, l, xs, rfl, hl, fun p hp => ?_⟩
    have ha2 : upd H p (.lst xs) a = some (exo a A.Ambiguous none) := by
      rw [upd_ne (ne_of_none ha hp)]
      exact ha
    exact ⟨_, rfl, a, A.Ambiguous, rfl, T.e_Ambiguous.oex, T.f_Ambiguous.nf, Or.inl ⟨ha2, fun dx hdx ne => k p dx hp hdx ne⟩⟩


theorem ok_NoWriter (T : Txt K mg A)  : Okd P w K mg base CX0 1 A.i_NoWriter P_NoWriter (spInit A.NoWriter "writer") := by
  obtain ⟨fd, F⟩ := T.f_NoWriter.fn

  refine ⟨fd, F.ok sc_NoWriter (fun vs H Q E h => ?_) (fun cdv A' outer s H vs Q E hr h => ?_), F.binds fun _ _ _ _ _ _ us hl => match us, hl with | [_, _], _ => rfl⟩
  · obtain ⟨a, v, rfl, _⟩ := h
    rfl
  · obtain ⟨a, v, rfl, ha, k⟩ := h
    refine ⟨_, (pss_one (ps_ost (pv 0) (pv 1))), ?_⟩
    exact ⟨_, rfl, _, rfl, a, A.NoWriter, rfl, T.e_NoWriter.oex, T.f_NoWriter.nf, Or.inl ⟨ha, fun dx hdx ne => k dx hdx ne⟩⟩


theorem ok_Unsafe (T : Txt K mg A)  : Okd P w K mg base CX0 1 A.i_Unsafe P_Unsafe (spInit A.Unsafe "refused") := by
  obtain ⟨fd, F⟩ := T.f_Unsafe.fn

  refine ⟨fd, F.ok sc_Unsafe (fun vs H Q E h => ?_) (fun cdv A' outer s H vs Q E hr h => ?_), F.binds fun _ _ _ _ _ _ us hl => match us, hl with | [_, _], _ => rfl⟩
  · obtain ⟨a, v, rfl, _⟩ := h
    rfl
  · obtain ⟨a, v, rfl, ha, k⟩ := h
    refine ⟨_, (pss_one (ps_ost (pv 0) (pv 1))), ?_⟩
    exact ⟨_, rfl, _, rfl, a, A.Unsafe, rfl, T.e_Unsafe.oex, T.f_Unsafe.nf, Or.inl ⟨ha, fun dx hdx ne => k dx hdx ne⟩⟩

end

section
variable {P : Program} {w : World} {K : PySem.W.Frag} {mg : Str → Option Value} {base : Heap} {A : Ad}
theorem ok_law_bag (T : Txt K mg A)  : Okd P w K mg base CX0 1 A.law_bag P_law_bag (spBag K) := by
  obtain ⟨fd, F⟩ := T.d_law_bag

  refine ⟨fd, F.ok sc_law_bag (fun vs H Q E h => ?_) (fun cdv A' outer s H vs Q E hr h => ?_), F.binds fun _ _ _ _ _ _ us hl => match us, hl with | [_], _ => rfl⟩
  · obtain ⟨a, ns, rfl, _⟩ := h
    rfl
  · obtain ⟨a, ns, rfl, hS, k⟩ := h
    refine ⟨_, (pss_cons (ps_set (i := 1) sc_law_bag.nd rfl (Or.inl rfl) pe_int)
      (pss_cons (ps_set (i := 2) sc_law_bag.nd rfl (Or.inl rfl) pe_int)
      (pss_cons (ps_set (i := 3) sc_law_bag.nd rfl (Or.inl rfl) pe_int)
      (pss_cons (ps_for PassesOwn.never rfl (pi_list (pv 0)) (pg_name (i := 4) sc_law_bag.nd rfl (Or.inl rfl)) (pss_cons (ps_if (PW.pt (pw_and (pt_cmpR op_eq (pv 1) pe_int (nomark _)) (pw_and1 (pt_cmpR op_ge (pv 4) (pe_op op_pow pe_int pe_int) (nomark _))))) (pss_one (ps_set (i := 1) sc_law_bag.nd rfl (Or.inl rfl) (pv 4))) pss_nil)
      (pss_cons (ps_set (i := 2) sc_law_bag.nd rfl (Or.inl rfl) (pe_op op_mod (pe_callTy call_int1 (by rfl) T.n_int (by decide +kernel) (pa_cons (pe_op op_add (pe_op op_add (pe_op op_mul (pv 2) pe_int) (pe_op op_mod (pe_callTy call_int1 (by rfl) T.n_int (by decide +kernel) (pa_cons (pv 4) pa_nil)) pe_int)) pe_int) pa_nil)) pe_int))
      (pss_one (ps_set (i := 3) sc_law_bag.nd rfl (Or.inl rfl) (pe_op op_mod (pe_callTy call_int1 (by rfl) T.n_int (by decide +kernel) (pa_cons (pe_op op_add (pe_op op_add (pe_op op_mul (pv 3) pe_int) (pe_op op_mod (pe_callTy call_int1 (by rfl) T.n_int (by decide +kernel) (pa_cons (pv 4) pa_nil)) pe_int)) pe_int) pa_nil)) pe_int))))))
      (pss_one (ps_ret (pe_lst (pa_cons (pv 1) (pa_cons (pv 2) (pa_cons (pv 3) pa_nil)))))))))), ?_⟩
    walk_at "r"
    refine ⟨⟨_, hS⟩, for_list (K := K) (a := a) (xs := ns.map V.int) (fun i σ H' => H' = H ∧ ∃ (g f s : Int) (v : Option V), BagOk g f s ∧ σ = [some (.ref a), some (.int g), some (.int f), some (.int s), v]) ⟨rfl, 0, 13, 11, none, ⟨by decide, by decide, by decide, by decide, by decide⟩, rfl⟩ (fun i σ H' _ ⟨e, _⟩ => e ▸ hS) ?_ ?_⟩
    · rintro i y σ H' hi ⟨rfl, g, f, s', v, B, rfl⟩
      obtain ⟨z, hz, rfl⟩ := int_at hi
      have fin : ∀ g' : Int, 0 ≤ g' → BagOk g' ((f * 48271 + z % 1000003 + 1) % 2147483647) ((s' * 69621 + z % 998244353 + 3) % 2147483629) := fun g' h => ⟨h, by omega, by omega, by omega, by omega⟩
      walk_at "r"
      refine ite_b (fun c => ?_) (fun c => ?_)
      · walk_at "r"
        refine ite_b (fun c2 => ?_) (fun c2 => ?_)
        all_goals
          walk_at "r"
        · exact ⟨_, _, _, _, fin _ (by have q := of_decide_eq_true c2; have e : (10 : Int) ^ Int.toNat 18 = 1000000000000000000 := (by decide); omega), rfl⟩
        · exact ⟨_, _, _, _, fin _ B.g0, rfl⟩
      · refine iteF ?_
        walk_at "r"
        exact ⟨_, _, _, _, fin _ B.g0, rfl⟩
    · rintro σ H' ⟨rfl, g, f, s', v, B, rfl⟩
      walk_at "r"
      exact ⟨by show 3 ≤ sizeLine; decide, fun p hp => k p _ _ _ hp B⟩

end

section
variable {P : Program} {w : World} {K : PySem.W.Frag} {mg : Str → Option Value} {base : Heap} {A : Ad}
theorem ok_law_take (T : Txt K mg A)  : Okd P w K mg base CX0 1 A.law_take P_law_take spTake := by
  obtain ⟨fd, F⟩ := T.d_law_take

  refine ⟨fd, F.ok sc_law_take (fun vs H Q E h => ?_) (fun cdv A' outer s H vs Q E hr h => ?_), F.binds fun _ _ _ _ _ _ us hl => match us, hl with | [_, _], _ => rfl⟩
  · obtain ⟨b, n, rfl, _⟩ := h
    rfl
  · obtain ⟨b, n, rfl, hn, hn2, B, k⟩ := h
    refine ⟨_, (pss_cons (ps_if (pt_cmpR op_gt (pe_ix ix_list (pv 0) pe_int (fun _ _ => rfl)) pe_int (nomark _)) (pss_cons (ps_set (i := 2) sc_law_take.nd rfl (Or.inl rfl) (pe_op op_mod (pe_callTy call_int1 (by rfl) T.n_int (by decide +kernel) (pa_cons (pe_ix ix_list (pv 0) pe_int (fun _ _ => rfl)) pa_nil)) (pv 1)))
      (pss_cons (ps_asg (pe_op op_fdivW (pe_ix ix_list (pv 0) pe_int (fun _ _ => rfl)) (pv 1)) (pg_sub (pv 0) pe_int set_list))
      (pss_one (ps_ret (pv 2))))) pss_nil)
      (pss_cons (ps_asg (pe_op op_mod (pe_callTy call_int1 (by rfl) T.n_int (by decide +kernel) (pa_cons (pe_op op_add (pe_op op_mul (pe_ix ix_list (pv 0) pe_int (fun _ _ => rfl)) pe_int) pe_int) pa_nil)) pe_int) (pg_sub (pv 0) pe_int set_list))
      (pss_cons (ps_asg (pe_op op_mod (pe_callTy call_int1 (by rfl) T.n_int (by decide +kernel) (pa_cons (pe_op op_add (pe_op op_mul (pe_ix ix_list (pv 0) pe_int (fun _ _ => rfl)) pe_int) (pe_ix ix_list (pv 0) pe_int (fun _ _ => rfl))) pa_nil)) pe_int) (pg_sub (pv 0) pe_int set_list))
      (pss_one (ps_ret (pe_op op_mod (pe_callTy call_int1 (by rfl) T.n_int (by decide +kernel) (pa_cons (pe_op op_fdivW (pe_ix ix_list (pv 0) pe_int (fun _ _ => rfl)) pe_int) pa_nil)) (pv 1))))))), ?_⟩
    obtain ⟨g, f, s', hb, B⟩ := B
    have hbs : (bagL g f s').length = 3 := rfl
    walk_at "r"
    refine ite_b (fun c => ?_) (fun c => ?_)
    · walk_at "r"
      have c' := of_decide_eq_true c
      exact k _ _ (Int.emod_nonneg _ (by omega)) (Int.emod_lt_of_pos _ hn) ⟨_, _, _, upd_same, Int.ediv_nonneg B.g0 (by omega), B.f0, B.f1, B.s0, B.s1⟩ (Mut.upd (Mut.refl _ _))
    · walk_at "r"
      exact k _ _ (Int.emod_nonneg _ (by omega)) (Int.emod_lt_of_pos _ hn) ⟨_, _, _, upd_same, B.g0, by omega, by omega, by omega, by omega⟩ (Mut.upd (Mut.upd (Mut.refl _ _)))

end

section
variable {P : Program} {w : World} {K : PySem.W.Frag} {mg : Str → Option Value} {base : Heap} {A : Ad}
theorem ok_law_size (T : Txt K mg A) (g_law_take : Okd P w K mg base CX0 1 A.law_take P_law_take spTake) : Okd P w K mg base CX0 3 A.law_size P_law_size spSize := by
  obtain ⟨fd, F⟩ := T.d_law_size
  obtain ⟨fd_law_take, G_law_take, b_law_take⟩ := g_law_take
  refine ⟨fd, F.ok sc_law_size (fun vs H Q E h => ?_) (fun cdv A' outer s H vs Q E hr h => ?_), F.binds fun _ _ _ _ _ _ us hl => match us, hl with | [_], _ => rfl⟩
  · obtain ⟨b, rfl, _⟩ := h
    rfl
  · obtain ⟨b, rfl, B, k⟩ := h
    refine ⟨_, (pss_cons (ps_set (i := 1) sc_law_size.nd rfl (Or.inl rfl) (pe_call G_law_take (hr.mono (by decide)) (by rfl) T.g_law_take T.k_law_take b_law_take .nil pass0 (pa_cons (pv 0) (pa_cons pe_int pa_nil))))
      (pss_cons (ps_if (pt_cmpR op_eq (pe_call G_law_take (hr.mono (by decide)) (by rfl) T.g_law_take T.k_law_take b_law_take .nil pass0 (pa_cons (pv 0) (pa_cons pe_int pa_nil))) pe_int (nomark _)) (pss_one (ps_set (i := 1) sc_law_size.nd rfl (Or.inl rfl) (pe_call G_law_take (hr.mono (by decide)) (by rfl) T.g_law_take T.k_law_take b_law_take .nil pass0 (pa_cons (pv 0) (pa_cons pe_int pa_nil))))) pss_nil)
      (pss_one (ps_ret (pv 1))))), ?_⟩
    walk_at "r"
    refine ⟨b, 9, rfl, by decide, by decide, B, fun d H1 h0 h1 B1 M1 => ?_⟩
    walk_at "r"
    refine ⟨b, 4, rfl, by decide, by decide, B1, fun d2 H2 _ _ B2 M2 => ?_⟩
    walk_at "r"
    refine ite_b (fun c => ?_) (fun c => ?_)
    · walk_at "r"
      refine ⟨b, 65, rfl, by decide, by decide, B2, fun d3 H3 h0 h1 B3 M3 => ?_⟩
      walk_at "r"
      exact k _ _ h0 (by omega) B3 ((M1.trans M2).trans M3)
    · walk_at "r"
      exact k _ _ h0 (by omega) B2 (M1.trans M2)

end

section
variable {P : Program} {w : World} {K : PySem.W.Frag} {mg : Str → Option Value} {base : Heap} {A : Ad}
theorem ok_law_entry (T : Txt K mg A) (g_law_take : Okd P w K mg base CX0 1 A.law_take P_law_take spTake) : Okd P w K mg base CX0 3 A.law_entry P_law_entry spEntry := by
  obtain ⟨fd, F⟩ := T.d_law_entry
  obtain ⟨fd_law_take, G_law_take, b_law_take⟩ := g_law_take
  refine ⟨fd, F.ok sc_law_entry (fun vs H Q E h => ?_) (fun cdv A' outer s H vs Q E hr h => ?_), F.binds fun _ _ _ _ _ _ us hl => match us, hl with | [_, _], _ => rfl⟩
  · obtain ⟨b, n, rfl, _⟩ := h
    rfl
  · obtain ⟨b, n, rfl, hn, hn2, B, k⟩ := h
    refine ⟨_, (pss_cons (ps_set (i := 2) sc_law_entry.nd rfl (Or.inl rfl) (pe_call G_law_take (hr.mono (by decide)) (by rfl) T.g_law_take T.k_law_take b_law_take .nil pass0 (pa_cons (pv 0) (pa_cons pe_int pa_nil))))
      (pss_cons (ps_if (pt_cmpR op_eq (pv 2) pe_int (nomark _)) (pss_one (ps_ret (pe_op op_sub (pe_un un_neg pe_int) (pe_call G_law_take (hr.mono (by decide)) (by rfl) T.g_law_take T.k_law_take b_law_take .nil pass0 (pa_cons (pv 0) (pa_cons (pe_op op_add (pv 1) pe_int) pa_nil)))))) pss_nil)
      (pss_cons (ps_if (pt_cmpR op_eq (pv 2) pe_int (nomark _)) (pss_one (ps_ret (pe_op op_add (pv 1) (pe_call G_law_take (hr.mono (by decide)) (by rfl) T.g_law_take T.k_law_take b_law_take .nil pass0 (pa_cons (pv 0) (pa_cons pe_int pa_nil)))))) pss_nil)
      (pss_cons (ps_if (pt_cmpR op_eq (pv 2) pe_int (nomark _)) (pss_one (ps_ret (pe_op op_add (pv 1) (pe_call G_law_take (hr.mono (by decide)) (by rfl) T.g_law_take T.k_law_take b_law_take .nil pass0 (pa_cons (pv 0) (pa_cons (pe_op op_pow pe_int pe_int) pa_nil)))))) pss_nil)
      (pss_cons (ps_if (pt_cmpR op_eq (pv 2) pe_int (nomark _)) (pss_one (ps_ret (pe_op op_sub (pe_un un_neg pe_int) (pe_call G_law_take (hr.mono (by decide)) (by rfl) T.g_law_take T.k_law_take b_law_take .nil pass0 (pa_cons (pv 0) (pa_cons (pe_op op_pow pe_int pe_int) pa_nil)))))) pss_nil)
      (pss_one (ps_ret (pe_call G_law_take (hr.mono (by decide)) (by rfl) T.g_law_take T.k_law_take b_law_take .nil pass0 (pa_cons (pv 0) (pa_cons (pv 1) pa_nil)))))))))), ?_⟩
    walk_at "r"
    refine ⟨b, 7, rfl, by decide, by decide, B, fun d H1 h0 h1 B1 M1 => ?_⟩
    walk_at "r"
    have e15 : (10 : Int) ^ Int.toNat 15 = 1000000000000000 := by decide
    refine ite_b (fun c => ?_) (fun c => ?_)
    · walk_at "r"
      refine ⟨b, _, rfl, by omega, by omega, B1, fun d2 H2 _ _ B2 M2 => ?_⟩
      walk_at "r"
      exact k _ _ B2 (M1.trans M2)
    walk_at "r"
    refine ite_b (fun c => ?_) (fun c => ?_)
    · walk_at "r"
      refine ⟨b, _, rfl, by omega, by omega, B1, fun d2 H2 _ _ B2 M2 => ?_⟩
      walk_at "r"
      exact k _ _ B2 (M1.trans M2)
    walk_at "r"
    refine ite_b (fun c => ?_) (fun c => ?_)
    · walk_at "r"
      refine ⟨b, _, rfl, by omega, by omega, B1, fun d2 H2 _ _ B2 M2 => ?_⟩
      walk_at "r"
      exact k _ _ B2 (M1.trans M2)
    walk_at "r"
    refine ite_b (fun c => ?_) (fun c => ?_)
    · walk_at "r"
      refine ⟨b, _, rfl, by omega, by omega, B1, fun d2 H2 _ _ B2 M2 => ?_⟩
      walk_at "r"
      exact k _ _ B2 (M1.trans M2)
    walk_at "r"
    refine ⟨b, _, rfl, by omega, by omega, B1, fun d2 H2 _ _ B2 M2 => ?_⟩
    exact k _ _ B2 (M1.trans M2)

end

section
variable {P : Program} {w : World} {K : PySem.W.Frag} {mg : Str → Option Value} {base : Heap} {A : Ad}
theorem ok_law_order (T : Txt K mg A) (g_law_take : Okd P w K mg base CX0 1 A.law_take P_law_take spTake) : Okd P w K mg base CX0 3 A.law_order P_law_order spOrder := by
  obtain ⟨fd, F⟩ := T.d_law_order
  obtain ⟨fd_law_take, G_law_take, b_law_take⟩ := g_law_take
  refine ⟨fd, F.ok sc_law_order (fun vs H Q E h => ?_) (fun cdv A' outer s H vs Q E hr h => ?_), F.binds fun _ _ _ _ _ _ us hl => match us, hl with | [_, _], _ => rfl⟩
  · obtain ⟨b, n, rfl, _⟩ := h
    rfl
  · obtain ⟨b, n, rfl, hn2, B, k⟩ := h
    refine ⟨_, (pss_cons (ps_set (i := 2) sc_law_order.nd rfl (Or.inl rfl) (pe_listRg (by rfl) (by rfl) T.n_list (prg_1 (by rfl) T.n_range (pv 1))))
      (pss_cons (ps_set (i := 3) sc_law_order.nd rfl (Or.inl rfl) (pe_lst pa_nil))
      (pss_cons (ps_for PassesOwn.never rfl (pi_range1 (by rfl) T.n_range (pa_cons (pv 1) pa_nil)) (pg_name (i := 4) sc_law_order.nd rfl (Or.inl rfl)) (pss_one (ps_expr (pe_bm PySem.F.plainAttrs_list PySem.F.slot_list_append PySem.F.type_list_append mt_append (pv 3) (pa_cons (pe_bm PySem.F.plainAttrs_list PySem.F.slot_list_pop PySem.F.type_list_pop mt_popAt (pv 2) (pa_cons (pe_call G_law_take (hr.mono (by decide)) (by rfl) T.g_law_take T.k_law_take b_law_take .nil pass0 (pa_cons (pv 0) (pa_cons (pe_op op_sub (pv 1) (pv 4)) pa_nil))) pa_nil)) pa_nil)))))
      (pss_one (ps_ret (pv 3)))))), ?_⟩
    walk_at "r"
    refine ⟨RgOk.of_le (by decide) (by omega) (by decide) (by omega), fun sp hsp => ?_⟩
    walk_at "r"
    refine ⟨by decide, fun od hod => ?_⟩
    have nsb : sp ≠ b := B.ne hsp
    have nos : od ≠ sp := fun e => by rw [e, upd_same] at hod; cases hod
    have hod' : H od = none := by rw [upd_ne nos] at hod; exact hod
    have nob : od ≠ b := B.ne hod'
    walk_at "r"
    have h1 : ((List.range n).map fun i : Nat => (i : Int)).length + 0 = n := by
      rw [List.length_map, List.length_range]
      omega
    have h2 : ListI (upd (upd H sp (.lst (rgV 0 (n : Int)))) od (.lst [])) sp ((List.range n).map fun i : Nat => (i : Int)) := by
      show (upd (upd H sp _) od _) sp = _
      rw [upd_ne (Ne.symm nos), upd_same, rgV_map]
    refine ⟨by omega, by omega, for_range (lo := 0) (n := n) (fun i σ H' => ∃ (xs ys : List Int) (v : Option V), σ = [some (.ref b), some (.int n), some (.ref sp), some (.ref od), v] ∧ xs.length + i = n ∧ ys.length = i ∧ Below n xs ∧ Below n ys ∧ ListI H' sp xs ∧ ListI H' od ys ∧ Bag H' b ∧ Mut b H H')
      ⟨(List.range n).map fun i : Nat => (i : Int), [], none, rfl, h1, rfl, below_rg n, (fun _ h => by simp at h), h2, upd_same, B.keep fun o e => (by rw [upd_ne (Ne.symm nob), upd_ne (Ne.symm nsb)]; exact e), ((Mut.refl _ _).new hsp).new hod⟩ ?_ ?_⟩
    · rintro i σ H' hi ⟨xs, ys, v, rfl, hl, hy, bx, by', hx, hyy, B', M'⟩
      refine ⟨_, rfl, Or.inl ⟨rfl, _, hyy.sz⟩, _, rfl, Or.inl ⟨rfl, _, hx.sz⟩, _, rfl, _, rfl, _, rfl, _, _, rfl, rfl, b, _, rfl, by omega, by omega, B', fun d H1 h0 h1 B1 M1 => ?_⟩
      obtain ⟨j, rfl⟩ := Int.eq_ofNat_of_zero_le h0
      have hj : j < xs.length := by omega
      have hj2 : j < (xs.map V.int).length := by rw [List.length_map]; exact hj
      have hx1 : ListI H1 sp xs := M1 _ _ nsb hx
      have hy1 : ListI H1 od ys := M1 _ _ nob hyy
      refine ⟨_, _, _, j, _, rfl, rfl, hx1, by omega, by omega, (ixN_seq (Evl.ixN_nat hj2)).1, ix_map hj, ?_⟩
      refine ⟨_, _, _, rfl, rfl, (by rw [upd_ne nos]; exact hy1), small1000 (by rw [List.length_map]; omega), ?_⟩
      refine ⟨xs.eraseIdx j, ys ++ [xs[j]], _, rfl, by rw [List.length_eraseIdx_of_lt hj]; omega, by rw [List.length_append]; simp; omega, fun x h => bx x (List.mem_of_mem_eraseIdx h), fun x h => ?_, ?_, ?_, ?_, ?_⟩
      · rcases List.mem_append.mp h with h | h
        · exact by' x h
        · rw [List.mem_singleton.mp h]
          exact bx _ (List.getElem_mem hj)
      · show (upd (upd H1 sp _) od _) sp = _
        rw [upd_ne (Ne.symm nos), upd_same, map_erase]
      · show (upd (upd H1 sp _) od _) od = _
        rw [upd_same, List.map_append]
        rfl
      · exact B1.keep fun o e => by rw [upd_ne (Ne.symm nob), upd_ne (Ne.symm nsb)]; exact e
      · intro a o ha e
        have e1 := M1 _ _ ha (M' a o ha e)
        rw [upd_ne (ne_of_none e hod'), upd_ne (ne_of_none e hsp)]
        exact e1
    · rintro σ H' ⟨xs, ys, v, rfl, hl, hy, bx, by', hx, hyy, B', M'⟩
      walk_at "r"
      exact k _ _ _ hod' nob hy by' hyy B' M'

end

section
variable {P : Program} {w : World} {K : PySem.W.Frag} {mg : Str → Option Value} {base : Heap} {A : Ad}
theorem ok_law_drawn (T : Txt K mg A) (g_law_order : Okd P w K mg base CX0 3 A.law_order P_law_order spOrder) (g_law_take : Okd P w K mg base CX0 1 A.law_take P_law_take spTake) (g_law_entry : Okd P w K mg base CX0 3 A.law_entry P_law_entry spEntry) : Okd P w K mg base CX0 4 A.law_drawn P_law_drawn spDrawn := by
  obtain ⟨fd, F⟩ := T.d_law_drawn
  obtain ⟨fd_law_order, G_law_order, b_law_order⟩ := g_law_order
  obtain ⟨fd_law_take, G_law_take, b_law_take⟩ := g_law_take
  obtain ⟨fd_law_entry, G_law_entry, b_law_entry⟩ := g_law_entry
  refine ⟨fd, F.ok sc_law_drawn (fun vs H Q E h => ?_) (fun cdv A' outer s H vs Q E hr h => ?_), F.binds fun _ _ _ _ _ _ us hl => match us, hl with | [_, _], _ => rfl⟩
  · obtain ⟨b, n, rfl, _⟩ := h
    rfl
  · obtain ⟨b, n, rfl, hn2, B, k⟩ := h
    refine ⟨_, (pss_cons (ps_set (i := 2) sc_law_drawn.nd rfl (Or.inl rfl) (pe_call G_law_order (hr.mono (by decide)) (by rfl) T.g_law_order T.k_law_order b_law_order .nil pass0 (pa_cons (pv 0) (pa_cons (pv 1) pa_nil))))
      (pss_cons (ps_set (i := 3) sc_law_drawn.nd rfl (Or.inl rfl) (pe_listRg (by rfl) (by rfl) T.n_list (prg_1 (by rfl) T.n_range (pv 1))))
      (pss_cons (ps_for PassesOwn.never rfl (pi_range1 (by rfl) T.n_range (pa_cons (pe_op op_fdivW (pv 1) pe_int) pa_nil)) (pg_name (i := 4) sc_law_drawn.nd rfl (Or.inl rfl)) (pss_one (ps_if (pt_cmpR op_gt (pe_call G_law_take (hr.mono (by decide)) (by rfl) T.g_law_take T.k_law_take b_law_take .nil pass0 (pa_cons (pv 0) (pa_cons pe_int pa_nil))) pe_int (nomark _)) (pss_cons (ps_asg (pe_ix ix_list (pv 2) (pe_op op_add (pe_op op_mul pe_int (pv 4)) pe_int) (fun _ _ => rfl)) (pg_sub (pv 3) (pe_ix ix_list (pv 2) (pe_op op_mul pe_int (pv 4)) (fun _ _ => rfl)) set_list))
      (pss_one (ps_asg (pe_ix ix_list (pv 2) (pe_op op_mul pe_int (pv 4)) (fun _ _ => rfl)) (pg_sub (pv 3) (pe_ix ix_list (pv 2) (pe_op op_add (pe_op op_mul pe_int (pv 4)) pe_int) (fun _ _ => rfl)) set_list)))) pss_nil)))
      (pss_cons (ps_set (i := 5) sc_law_drawn.nd rfl (Or.inl rfl) (pe_call G_law_take (hr.mono (by decide)) (by rfl) T.g_law_take T.k_law_take b_law_take .nil pass0 (pa_cons (pv 0) (pa_cons pe_int pa_nil))))
      (pss_cons (ps_if (pt_cmpR op_eq (pv 5) pe_int (nomark _)) (pss_one (ps_ret (pe_lc (own := [("k", 4)]) (by rfl) sc_law_drawn.nd (pi_range1 (by rfl) T.n_range (pa_cons (pv 1) pa_nil)) (blkOk_by (own := [("k", 4)]) (N := N_law_drawn) (sc := defScope s_law_drawn) (by decide +kernel)) (fun _ _ _ _ _ => (pg_name (i := 4) sc_law_drawn.nd rfl (Or.inl rfl))) (fun _ _ _ _ _ => pts_nil) (fun _ _ _ _ _ => (pe_call G_law_take (hr.mono (by decide)) (by rfl) T.g_law_take T.k_law_take b_law_take .nil pass0 (pa_cons (pv 0) (pa_cons (pv 1) pa_nil))))))) pss_nil)
      (pss_cons (ps_if (pt_cmpR op_eq (pv 5) pe_int (nomark _)) (pss_one (ps_ret (pe_lc (own := [("k", 4)]) (by rfl) sc_law_drawn.nd (pi_range1 (by rfl) T.n_range (pa_cons (pv 1) pa_nil)) (blkOk_by (own := [("k", 4)]) (N := N_law_drawn) (sc := defScope s_law_drawn) (by decide +kernel)) (fun _ _ _ _ _ => (pg_name (i := 4) sc_law_drawn.nd rfl (Or.inl rfl))) (fun _ _ _ _ _ => pts_nil) (fun _ _ _ _ _ => (pe_call G_law_entry (hr.mono (by decide)) (by rfl) T.g_law_entry T.k_law_entry b_law_entry .nil pass0 (pa_cons (pv 0) (pa_cons (pv 1) pa_nil))))))) pss_nil)
      (pss_cons (ps_if (PW.pt (pw_or (pt_cmpR op_lt (pv 5) pe_int (nomark _)) (pw_or1 (pt_cmpR op_eq (pv 1) pe_int (nomark _))))) (pss_one (ps_ret (pv 3))) pss_nil)
      (pss_cons (ps_set (i := 6) sc_law_drawn.nd rfl (Or.inl rfl) (pe_op op_add pe_int (pe_call G_law_take (hr.mono (by decide)) (by rfl) T.g_law_take T.k_law_take b_law_take .nil pass0 (pa_cons (pv 0) (pa_cons pe_int pa_nil)))))
      (pss_cons (ps_for PassesOwn.never rfl (pi_range1 (by rfl) T.n_range (pa_cons (pv 6) pa_nil)) (pg_name (i := 4) sc_law_drawn.nd rfl (Or.inl rfl)) (pss_cons (ps_set (i := 7) sc_law_drawn.nd rfl (Or.inl rfl) (pe_call G_law_take (hr.mono (by decide)) (by rfl) T.g_law_take T.k_law_take b_law_take .nil pass0 (pa_cons (pv 0) (pa_cons (pv 1) pa_nil))))
      (pss_one (ps_asg (pe_call G_law_entry (hr.mono (by decide)) (by rfl) T.g_law_entry T.k_law_entry b_law_entry .nil pass0 (pa_cons (pv 0) (pa_cons (pv 1) pa_nil))) (pg_sub (pv 3) (pv 7) set_list)))))
      (pss_one (ps_ret (pv 3)))))))))))), ?_⟩
    refine ⟨_, rfl, _, rfl, b, n, rfl, hn2, B, fun po xs H1 hpo npo lx bx hx B1 M1 => ?_⟩
    refine ⟨_, rfl, _, rfl, RgOk.of_le (by decide) (by omega) (by decide) (by omega), fun ps hps => ?_⟩
    have nps : ps ≠ b := B1.ne hps
    have nop : po ≠ ps := ne_of_none hx hps
    have hps0 : H ps = none := M1.free nps hps
    walk_at "r"
    have hdiv : ((n : Int) / 2).toNat = n / 2 := by omega
    refine ⟨by omega, by omega, for_range (lo := 0) (n := ((n : Int) / 2).toNat) (fun i σ H' => ∃ (sh : List Int) (v : Option V), σ = [some (.ref b), some (.int n), some (.ref po), some (.ref ps), v, none, none, none] ∧ sh.length = n ∧ ListI H' po xs ∧ ListI H' ps sh ∧ Bag H' b ∧ Mut b H H')
      ⟨(List.range n).map fun i : Nat => (i : Int), none, rfl, (by rw [List.length_map, List.length_range]), (by
        show (upd H1 ps _) po = _
        rw [upd_ne nop]
        exact hx), (by
        show (upd H1 ps _) ps = _
        rw [upd_same, rgV_map]), B1.keep fun o e => (by rw [upd_ne (Ne.symm nps)]; exact e), M1.new hps⟩ ?_ ?_⟩
    · rintro i σ H' hi ⟨sh, v, rfl, ls, hxo, hsh, B', M'⟩
      walk_at "r"
      refine ⟨b, _, rfl, by omega, by omega, B', fun d H2 h0 h1 B2 M2 => ?_⟩
      have hxo2 : ListI H2 po xs := M2 _ _ npo hxo
      have hsh2 : ListI H2 ps sh := M2 _ _ nps hsh
      have hi2 : 2 * i + 1 < xs.length := by omega
      have b1 := bx _ (List.getElem_mem (show 2 * i < xs.length by omega))
      have b2 := bx _ (List.getElem_mem hi2)
      obtain ⟨j1, e1⟩ := Int.eq_ofNat_of_zero_le b1.1
      obtain ⟨j2, e2⟩ := Int.eq_ofNat_of_zero_le b2.1
      have hj1 : j1 < sh.length := by omega
      have hj2 : j2 < sh.length := by omega
      walk_at "r"
      refine ite_b (fun c => ?_) (fun c => ?_)
      · -- shown[order[2 * k]] = order[2 * k + 1]
        refine ⟨_, rfl, _, rfl, _, _, rfl, rfl, Or.inl ⟨by decide, by decide⟩, _, _, rfl, rfl, _, _, _, _, rfl, rfl, hxo2.sz, at_of (by omega) (ix_map hi2), ?_⟩
        refine ⟨_, rfl, _, rfl, _, rfl, _, _, rfl, rfl, Or.inl ⟨by decide, by decide⟩, _, _, _, _, rfl, rfl, hxo2.sz, at_of (show (2 : Int) * (0 + (i : Int)) = ((2 * i : Nat) : Int) by omega) (ix_map (show 2 * i < xs.length by omega)), ?_⟩
        refine ⟨_, _, _, j1, rfl, rfl, hsh2, (by rw [e1]; exact Evl.ixN_nat (by rw [List.length_map]; exact hj1)), ?_⟩
        -- shown[order[2 * k + 1]] = order[2 * k]
        have hxo3 : ListI (upd H2 ps (.lst ((sh.map V.int).set j1 (V.int xs[2 * i + 1])))) po xs := by
          show (upd H2 ps _) po = _
          rw [upd_ne nop]
          exact hxo2
        refine ⟨_, rfl, _, rfl, _, _, rfl, rfl, Or.inl ⟨by decide, by decide⟩, _, _, _, _, rfl, rfl, hxo3.sz, at_of (show (2 : Int) * (0 + (i : Int)) = ((2 * i : Nat) : Int) by omega) (ix_map (show 2 * i < xs.length by omega)), ?_⟩
        refine ⟨_, rfl, _, rfl, _, rfl, _, _, rfl, rfl, Or.inl ⟨by decide, by decide⟩, _, _, rfl, rfl, _, _, _, _, rfl, rfl, hxo3.sz, at_of (by omega) (ix_map hi2), ?_⟩
        refine ⟨_, _, _, j2, rfl, rfl, upd_same, (by rw [e2]; exact Evl.ixN_nat (by rw [List.length_set, List.length_map]; exact hj2)), ?_⟩
        refine ⟨(sh.set j1 xs[2 * i + 1]).set j2 xs[2 * i], _, rfl, (by rw [List.length_set, List.length_set]; exact ls), ?_, ?_, ?_, ?_⟩
        · show (upd (upd H2 ps _) ps _) po = _
          rw [upd_ne nop, upd_ne nop]
          exact hxo2
        · show (upd (upd H2 ps _) ps _) ps = _
          rw [upd_same, set_map, set_map]
        · exact B2.keep fun o e => (by rw [upd_ne (Ne.symm nps), upd_ne (Ne.symm nps)]; exact e)
        · intro a o ha e
          rw [upd_ne (ne_of_none e hps0), upd_ne (ne_of_none e hps0)]
          exact M2 _ _ ha (M' a o ha e)
      · exact ⟨sh, _, rfl, ls, hxo2, hsh2, B2, M'.trans M2⟩
    rintro σ H3 ⟨sh, v, rfl, ls, hxo, hsh, B3, M3⟩
    walk_at "r"
    refine ⟨b, 8, rfl, by decide, by decide, B3, fun way H4 hw0 hw1 B4 M34 => ?_⟩
    have M4 : Mut b H H4 := M3.trans M34
    have hsh4 : ListI H4 ps sh := M34 _ _ nps hsh
    walk_at "r"
    refine ite_b (fun c => ?_) (fun c => ?_)
    · walk_at "r"
      refine ⟨by omega, by omega, fun D hD => lc_range (lo := 0) (n := n) (fun i H' => ∃ ys : List Int, ys.length = i ∧ ListI H' D ys ∧ Bag H' b ∧ Mut b H H') ⟨[], rfl, upd_same, B4.keep fun o e => (by rw [upd_ne (Ne.symm (B4.ne hD))]; exact e), M4.new hD⟩ ?_ ?_⟩
      · rintro i H' hi ⟨ys, ly, hy, B', M'⟩
        have nD : D ≠ b := B4.ne hD
        refine ⟨rfl, ?_⟩
        walk_at "r"
        refine ⟨b, _, rfl, by omega, by omega, B', fun d H5 _ _ B5 M5 => ?_⟩
        have hy5 : ListI H5 D ys := M5 _ _ nD hy
        refine ⟨_, hy5, small1000 (by rw [List.length_map]; omega), ys ++ [d], (by rw [List.length_append, ly]; rfl), ?_, B5.keep fun o e => (by rw [upd_ne (Ne.symm nD)]; exact e), ?_⟩
        · show (upd H5 D _) D = _
          rw [upd_same, List.map_append]
          rfl
        · intro a o ha e
          have e1 := M5 _ _ ha (M' a o ha e)
          rw [upd_ne (ne_of_none e (M4.free nD hD))]
          exact e1
      · rintro H' ⟨ys, ly, hy, B', M'⟩
        exact k D ys H' (M4.free (B4.ne hD) hD) (B4.ne hD) ly hy B' M'
    walk_at "r"
    refine ite_b (fun c2 => ?_) (fun c2 => ?_)
    · walk_at "r"
      refine ⟨by omega, by omega, fun D hD => lc_range (lo := 0) (n := n) (fun i H' => ∃ ys : List Int, ys.length = i ∧ ListI H' D ys ∧ Bag H' b ∧ Mut b H H') ⟨[], rfl, upd_same, B4.keep fun o e => (by rw [upd_ne (Ne.symm (B4.ne hD))]; exact e), M4.new hD⟩ ?_ ?_⟩
      · rintro i H' hi ⟨ys, ly, hy, B', M'⟩
        have nD : D ≠ b := B4.ne hD
        refine ⟨rfl, ?_⟩
        walk_at "r"
        refine ⟨b, _, rfl, by omega, hn2, B', fun d H5  B5 M5 => ?_⟩
        have hy5 : ListI H5 D ys := M5 _ _ nD hy
        refine ⟨_, hy5, small1000 (by rw [List.length_map]; omega), ys ++ [d], (by rw [List.length_append, ly]; rfl), ?_, B5.keep fun o e => (by rw [upd_ne (Ne.symm nD)]; exact e), ?_⟩
        · show (upd H5 D _) D = _
          rw [upd_same, List.map_append]
          rfl
        · intro a o ha e
          have e1 := M5 _ _ ha (M' a o ha e)
          rw [upd_ne (ne_of_none e (M4.free nD hD))]
          exact e1
      · rintro H' ⟨ys, ly, hy, B', M'⟩
        exact k D ys H' (M4.free (B4.ne hD) hD) (B4.ne hD) ly hy B' M'
    walk_at "r"
    have done : Q (.ref ps) H4 := k ps sh H4 hps0 nps ls hsh4 B4 M4
    refine ite_b (fun c3 => ?_) (fun c3 => ?_)
    · exact iteT ⟨_, rfl, done⟩
    walk_at "r"
    refine ite_b (fun c4 => ?_) (fun c4 => ?_)
    · exact ⟨_, rfl, done⟩
    have hn0 : 0 < n := by
      rcases Nat.eq_zero_or_pos n with z | z
      · rw [z] at c4
        exact absurd c4 (by decide)
      · exact z
    walk_at "r"
    refine ⟨b, 3, rfl, by decide, by decide, B4, fun many H5 hm0 hm1 B5 M5 => ?_⟩
    have hsh5 : ListI H5 ps sh := M5 _ _ nps hsh4
    walk_at "r"
    refine ⟨by omega, by omega, for_range (lo := 0) (n := (1 + many).toNat) (fun i σ H' => ∃ (sh : List Int) (v v2 : Option V), σ = [some (.ref b), some (.int n), some (.ref po), some (.ref ps), v, some (.int way), some (.int (1 + many)), v2] ∧ sh.length = n ∧ ListI H' ps sh ∧ Bag H' b ∧ Mut b H H')
      ⟨sh, _, none, rfl, ls, hsh5, B5, M4.trans M5⟩ ?_ ?_⟩
    · rintro i σ H' hi ⟨sh, v, v2, rfl, ls, hsh, B', M'⟩
      walk_at "r"
      refine ⟨b, _, rfl, by omega, by omega, B', fun d H6 h0 h1 B6 M6 => ?_⟩
      obtain ⟨j, rfl⟩ := Int.eq_ofNat_of_zero_le h0
      walk_at "r"
      refine ⟨b, n, rfl, hn0, hn2, B6, fun z H7 B7 M7 => ?_⟩
      have hsh7 : ListI H7 ps sh := M7 _ _ nps (M6 _ _ nps hsh)
      refine ⟨_, rfl, _, rfl, _, _, _, j, rfl, rfl, hsh7, Evl.ixN_nat (by rw [List.length_map]; omega), ?_⟩
      refine ⟨sh.set j z, _, _, rfl, (by rw [List.length_set]; exact ls), ?_, ?_, ?_⟩
      · show (upd H7 ps _) ps = _
        rw [upd_same, set_map]
      · exact B7.keep fun o e => (by rw [upd_ne (Ne.symm nps)]; exact e)
      · intro a o ha e
        rw [upd_ne (ne_of_none e hps0)]
        exact M7 _ _ ha (M6 _ _ ha (M' a o ha e))
    · rintro σ H' ⟨sh, v, v2, rfl, ls, hsh, B', M'⟩
      exact ⟨_, rfl, k ps sh H' hps0 nps ls hsh B' M'⟩

end

section
variable {P : Program} {w : World} {K : PySem.W.Frag} {mg : Str → Option Value} {base : Heap} {A : Ad}
theorem ok_check_image (T : Txt K mg A) (g_InvalidImage : Okd P w K mg base CX0 1 A.i_InvalidImage P_InvalidImage (spInit A.InvalidImage "record")) : Okd P w K mg base (L2.CX P w) 3 A.check_image P_check_image (spCI A) := by
  obtain ⟨fd, F⟩ := T.d_check_image
  obtain ⟨fd_InvalidImage, G_InvalidImage, b_InvalidImage⟩ := g_InvalidImage
  refine ⟨fd, F.okX sc_check_image (fun vs H Q E h => ?_) (fun cdv A' outer s H vs Q E hr h => ?_), F.binds fun _ _ _ _ _ _ us hl => match us, hl with | [_], _ => rfl⟩
  · obtain ⟨a, xs, rfl, _⟩ := h
    rfl
  · obtain ⟨a, xs, rfl, hx, hl, kq, kr⟩ := h
    refine ⟨_, (pss_cons (ps_set (i := 1) sc_check_image.nd rfl (Or.inl rfl) (pe_callB call_len_seq (by rfl) T.n_len PySem.boot_len (pa_cons (pv 0) pa_nil)))
      (pss_one (ps_for (passes_of rfl) rfl (pi_enum (by rfl) T.n_enumerate (pa_cons (pv 0) pa_nil)) (pg_tup (by rfl) (pgs_cons (pg_name (i := 2) sc_check_image.nd rfl (Or.inl rfl)) (pgs_cons (pg_name (i := 3) sc_check_image.nd rfl (Or.inl rfl)) pgs_nil))) (pss_one (ps_if (PW.pt (pw_or (pt_cmpR op_lt (pv 3) pe_int (nomark _)) (pw_or1 (pt_cmpR op_ge (pv 3) (pv 1) (nomark _))))) (pss_one (ps_raise rfl (takes_of rfl rfl rfl rfl) (pmk_oex T.e_InvalidImage.oex T.f_InvalidImage.i T.f_InvalidImage.t G_InvalidImage (hr.mono (by decide)) b_InvalidImage .nil pass0 rfl T.e_InvalidImage.g (pa_cons (pv 2) pa_nil)))) pss_nil))))), ?_⟩
    refine ⟨_, rfl, _, _, rfl, Or.inl (SqL.of hx), ?_⟩
    refine ⟨_, rfl, _, _, rfl, hx.sz, for_it walk_enum (fun i σ H' => ∃ v1 v2 : Option V, σ = [some (.ref a), some (.int ((xs.map V.int).length : Int)), v1, v2] ∧ Ex H H' ∧ ∀ j, j < i → badE xs j = false)
      ⟨none, none, rfl, Ex.refl H, fun j hj => absurd hj (Nat.not_lt_zero _)⟩ (fun i σ H' _ ⟨_, _, _, e, _⟩ => (hx.ex e).sz) ?_ ?_⟩
    · rintro i x σ H' H2 hi ⟨v1, v2, rfl, e, nb⟩ ⟨T0, y1, y2, rfl, hT, rfl, e1, e2⟩
      rw [List.length_map] at hi
      obtain ⟨z, hz, rfl⟩ := int_at e2
      cases e1
      have hbad : badE xs i = (decide (z < 0) || decide ((xs.length : Int) ≤ z)) := by
        unfold badE
        rw [getD_of hz]
      have raise : badE xs i = true → ∀ d H3, Ex (upd H' T0 (.tup [.int (i : Nat), .int z])) H3 → H3 d = some (.xd [("record", .int (i : Int))]) → E (.ref A.InvalidImage) (some d) H3 := fun hb d H3 ex hd => by
        rw [outE_image (firstOf_some hi hb nb)] at kr
        exact kr d H3 ((ex_new e hT).trans ex) hd
      refine ⟨T0, _, rfl, SqT.of upd_same, rfl, _, _, rfl, _, _, rfl, rfl, ?_⟩
      walk_at "r"
      refine ite_b (fun c => ?_) (fun c => ?_)
      · exact ⟨_, rfl, (by show 1 ≤ 1000; decide), mkO_go (raise (by rw [hbad, c]; rfl))⟩
      walk_at "r"
      rw [List.length_map]
      refine ite_b (fun c2 => ?_) (fun c2 => ?_)
      · exact ⟨_, rfl, (by show 1 ≤ 1000; decide), mkO_go (raise (by rw [hbad, c2, Bool.or_true]))⟩
      refine ⟨_, _, rfl, ex_new e hT, fun j hj => ?_⟩
      by_cases hji : j = i
      · rw [hji, hbad, c, c2]
        rfl
      · exact nb j (by omega)
    · rintro σ H' ⟨v1, v2, rfl, e, nb⟩
      rw [List.length_map] at nb
      exact kq (outE_ok (firstOf_none nb)) H' e

end

section
variable {P : Program} {w : World} {K : PySem.W.Frag} {mg : Str → Option Value} {base : Heap} {A : Ad}
theorem ok_is_state (T : Txt K mg A) (g_check_image : Okd P w K mg base (L2.CX P w) 3 A.check_image P_check_image (spCI A)) : Okd P w K mg base (L2.CX P w) 4 A.is_state P_is_state (spIS A) := by
  obtain ⟨fd, F⟩ := T.d_is_state
  obtain ⟨fd_check_image, G_check_image, b_check_image⟩ := g_check_image
  refine ⟨fd, F.okX sc_is_state (fun vs H Q E h => ?_) (fun cdv A' outer s H vs Q E hr h => ?_), F.binds fun _ _ _ _ _ _ us hl => match us, hl with | [_], _ => rfl⟩
  · obtain ⟨a, xs, rfl, _⟩ := h
    rfl
  · obtain ⟨a, xs, rfl, hx, hl, kq, kr⟩ := h
    refine ⟨_, (pss_cons (ps_expr (pe_callS G_check_image (hr.mono (by decide)) rfl T.g_check_image T.k_check_image b_check_image (fun σ => passAt (takes_of rfl rfl rfl rfl) σ) (pa_cons (pv 0) pa_nil)))
      (pss_one (ps_ret (pe_callB (cr_all (by rfl)) (by rfl) T.n_all (by decide +kernel) (pa_cons (pe_lc (own := [("record", 2), ("name", 1)]) (g := gTup K 2 (gCons (gName 2) (gCons (gName 1) gNil))) (tt := tYes) (by rfl) sc_is_state.nd (pi_enum (by rfl) T.n_enumerate (pa_cons (pv 0) pa_nil)) (blkOk_by (own := [("record", 2), ("name", 1)]) (N := N_is_state) (sc := defScope s_is_state) (by decide +kernel)) (fun _ _ _ _ _ => (pg_tup (by rfl) (pgs_cons (pg_name (i := 2) sc_is_state.nd rfl (Or.inl rfl)) (pgs_cons (pg_name (i := 1) sc_is_state.nd rfl (Or.inl rfl)) pgs_nil)))) (fun _ _ _ _ _ => pts_nil) (fun _ _ _ _ _ => (pe_cmpR op_eq (pe_ix (ix_listK (K := K) rfl) (pv 0) (pv 1) (fun _ _ => rfl)) (pv 2) (nomark _)))) pa_nil))))), ?_⟩
    refine ⟨_, rfl, a, xs, rfl, hx, hl, fun hok H1 e1 => ?_, kr⟩
    have hn : badIx xs = none := by
      cases h : badIx xs with
      | none => rfl
      | some k =>
        rw [outE_image h] at hok
        cases hok
    have hx1 := hx.ex e1
    refine ⟨_, rfl, _, _, rfl, hx1.sz, fun D hD => ?_⟩
    refine lc_it walk_enum (fun i H' => Ex H1 H' ∧ H' D = some (.lst (((List.range i).map fun j => !badS xs j).map V.bl))) ⟨Ex.new hD, upd_same⟩ (fun i H' _ p => (hx1.ex p.1).sz) ?_ ?_
    · rintro i x H' H2 hi ⟨e, hd⟩ ⟨T0, y1, y2, rfl, hT, rfl, q1, q2⟩
      rw [List.length_map] at hi
      obtain ⟨z, hz, rfl⟩ := int_at q2
      cases q1
      obtain ⟨j, rfl, hj⟩ := good_at hn hz
      have nDT : D ≠ T0 := ne_of_none hd hT
      have hx2 := hx1.ex (ex_new (o := .tup [.int (i : Nat), .int (j : Nat)]) e hT)
      refine ⟨T0, _, rfl, SqT.of upd_same, rfl, _, _, rfl, _, _, rfl, rfl, rfl, ?_⟩
      refine ⟨_, rfl, _, rfl, _, _, _, _, rfl, rfl, hx2.sz, at_map hj, _, rfl, rfl, ?_⟩
      refine ⟨_, (by rw [upd_ne nDT]; exact hd), small1000 (by rw [List.length_map, List.length_map, List.length_range]; omega), ?_, ?_⟩
      · exact fun b o hb => by
          rw [upd_ne (ne_of_none hb hD), upd_ne (ne_of_none (e b o hb) hT)]
          exact e b o hb
      · rw [upd_same, List.range_succ, List.map_append, List.map_append]
        have hS : badS xs i = !decide (V.int xs[j] = V.int (i : Int)) := by
          unfold badS
          rw [getD_of hz, Int.toNat_natCast, getD_at hj]
          simp
        show _ = some (HO.lst (_ ++ [V.bl (!badS xs i)]))
        rw [hS, Bool.not_not]
    · rintro H' ⟨e, hd⟩
      rw [List.length_map] at hd
      refine ⟨D, _, rfl, SqL.of hd, ?_⟩
      have hres : ((List.range xs.length).map fun j => !badS xs j).all id = (outS xs).isOk := by
        cases h : badSt xs with
        | none =>
          rw [outS_ok hn h]
          have q := firstOf_no h
          rw [List.all_map, List.all_eq_true.mpr]
          · rfl
          · intro j hj
            show (!badS xs j) = true
            rw [q j (List.mem_range.mp hj)]
            rfl
        | some k =>
          rw [outS_state hn h]
          unfold badSt firstOf at h
          rw [List.find?_range_eq_some] at h
          rw [List.all_map]
          show _ = false
          rw [Bool.eq_false_iff]
          intro z
          have := List.all_eq_true.mp z k h.2.1
          have t : (!badS xs k) = true := this
          rw [h.1] at t
          cases t
      rw [hres]
      exact kq hok H' (e1.trans e)

end

section
variable {P : Program} {w : World} {K : PySem.W.Frag} {mg : Str → Option Value} {base : Heap} {A : Ad}
theorem ok_check_state (T : Txt K mg A) (g_check_image : Okd P w K mg base (L2.CX P w) 3 A.check_image P_check_image (spCI A)) (g_NotState : Okd P w K mg base CX0 1 A.i_NotState P_NotState (spInit A.NotState "record")) : Okd P w K mg base (L2.CX P w) 4 A.check_state P_check_state (spCS A) := by
  obtain ⟨fd, F⟩ := T.d_check_state
  obtain ⟨fd_check_image, G_check_image, b_check_image⟩ := g_check_image
  obtain ⟨fd_NotState, G_NotState, b_NotState⟩ := g_NotState
  refine ⟨fd, F.okX sc_check_state (fun vs H Q E h => ?_) (fun cdv A' outer s H vs Q E hr h => ?_), F.binds fun _ _ _ _ _ _ us hl => match us, hl with | [_], _ => rfl⟩
  · obtain ⟨a, xs, rfl, _⟩ := h
    rfl
  · obtain ⟨a, xs, rfl, hx, hl, kq, kr⟩ := h
    refine ⟨_, (pss_cons (ps_expr (pe_callS G_check_image (hr.mono (by decide)) rfl T.g_check_image T.k_check_image b_check_image (fun σ => passAt (takes_of rfl rfl rfl rfl) σ) (pa_cons (pv 0) pa_nil)))
      (pss_one (ps_for (passes_of rfl) rfl (pi_enum (by rfl) T.n_enumerate (pa_cons (pv 0) pa_nil)) (pg_tup (by rfl) (pgs_cons (pg_name (i := 1) sc_check_state.nd rfl (Or.inl rfl)) (pgs_cons (pg_name (i := 2) sc_check_state.nd rfl (Or.inl rfl)) pgs_nil))) (pss_one (ps_if (pt_cmpR op_ne (pe_ix ix_list (pv 0) (pv 2) (fun _ _ => rfl)) (pv 1) (nomark _)) (pss_one (ps_raise rfl (takes_of rfl rfl rfl rfl) (pmk_oex T.e_NotState.oex T.f_NotState.i T.f_NotState.t G_NotState (hr.mono (by decide)) b_NotState .nil pass0 rfl T.e_NotState.g (pa_cons (pv 1) pa_nil)))) pss_nil))))), ?_⟩
    have kr1 : Rz A (outE xs) H E := by
      cases h : badIx xs with
      | none => rw [outE_ok h]; trivial
      | some k =>
        rw [outE_image h]
        rw [outS_image h] at kr
        exact kr
    refine ⟨_, rfl, a, xs, rfl, hx, hl, fun hok H1 e1 => ?_, kr1⟩
    have hn : badIx xs = none := by
      cases h : badIx xs with
      | none => rfl
      | some k =>
        rw [outE_image h] at hok
        cases hok
    have hx1 := hx.ex e1
    refine ⟨_, rfl, _, _, rfl, hx1.sz, for_it walk_enum (fun i σ H' => ∃ v1 v2 : Option V, σ = [some (.ref a), v1, v2] ∧ Ex H H' ∧ ∀ j, j < i → badS xs j = false)
      ⟨none, none, rfl, e1, fun j hj => absurd hj (Nat.not_lt_zero _)⟩ (fun i σ H' _ ⟨_, _, _, e, _⟩ => (hx.ex e).sz) ?_ ?_⟩
    · rintro i x σ H' H2 hi ⟨v1, v2, rfl, e, nb⟩ ⟨T0, y1, y2, rfl, hT, rfl, q1, q2⟩
      rw [List.length_map] at hi
      obtain ⟨z, hz, rfl⟩ := int_at q2
      cases q1
      obtain ⟨j, rfl, hj⟩ := good_at hn hz
      have hx2 := hx.ex (ex_new (o := .tup [.int (i : Nat), .int (j : Nat)]) e hT)
      have hS : badS xs i = !decide (V.int xs[j] = V.int (i : Int)) := by
        unfold badS
        rw [getD_of hz, Int.toNat_natCast, getD_at hj]
        simp
      refine ⟨T0, _, rfl, SqT.of upd_same, rfl, _, _, rfl, _, _, rfl, rfl, ?_⟩
      refine ⟨_, rfl, _, rfl, _, _, _, _, rfl, rfl, hx2.sz, at_map hj, _, rfl, rfl, _, rfl, ?_⟩
      refine ite_b (fun c => ?_) (fun c => ?_)
      · refine ⟨_, rfl, (by show 1 ≤ 1000; decide), mkO_go fun d H3 ex hd => ?_⟩
        rw [outS_state hn (firstOf_some hi (hS.trans c) nb)] at kr
        exact kr d H3 ((ex_new e hT).trans ex) hd
      · refine ⟨_, _, rfl, ex_new e hT, fun k hk => ?_⟩
        by_cases hki : k = i
        · rw [hki, hS]
          exact c
        · exact nb k (by omega)
    · rintro σ H' ⟨v1, v2, rfl, e, nb⟩
      rw [List.length_map] at nb
      exact kq (outS_ok hn (firstOf_none nb)) H' e

end

section
variable {P : Program} {w : World} {K : PySem.W.Frag} {mg : Str → Option Value} {base : Heap} {A : Ad}
theorem ok_check_pair (T : Txt K mg A) (g_check_state : Okd P w K mg base (L2.CX P w) 4 A.check_state P_check_state (spCS A)) : Okd P w K mg base (L2.CX P w) 5 A.check_pair P_check_pair (spCP A) := by
  obtain ⟨fd, F⟩ := T.d_check_pair
  obtain ⟨fd_check_state, G_check_state, b_check_state⟩ := g_check_state
  refine ⟨fd, F.okX sc_check_pair (fun vs H Q E h => ?_) (fun cdv A' outer s H vs Q E hr h => ?_), F.binds fun _ _ _ _ _ _ us hl => match us, hl with | [_, _], _ => rfl⟩
  · obtain ⟨a, b, xs, ys, rfl, _⟩ := h
    rfl
  · obtain ⟨a, b, xs, ys, rfl, hx, hy, hl, hm, kq, kr⟩ := h
    refine ⟨_, (pss_cons (ps_expr (pe_callS G_check_state (hr.mono (by decide)) rfl T.g_check_state T.k_check_state b_check_state (fun σ => passAt (takes_of rfl rfl rfl rfl) σ) (pa_cons (pv 0) pa_nil)))
      (pss_cons (ps_expr (pe_callS G_check_state (hr.mono (by decide)) rfl T.g_check_state T.k_check_state b_check_state (fun σ => passAt (takes_of rfl rfl rfl rfl) σ) (pa_cons (pv 1) pa_nil)))
      (pss_one (ps_if (pt_cmpR op_ne (pe_callB call_len_seq (by rfl) T.n_len PySem.boot_len (pa_cons (pv 0) pa_nil)) (pe_callB call_len_seq (by rfl) T.n_len PySem.boot_len (pa_cons (pv 1) pa_nil)) (nomark _)) (pss_one (ps_raise rfl (takes_of rfl rfl rfl rfl) (pmk_own0 PySem.F.excBase_ValueError T.q_UnequalSizes T.e_UnequalSizes.g T.e_UnequalSizes.k (raises_own T.e_UnequalSizes.sub T.e_UnequalSizes.ty) rfl))) pss_nil)))), ?_⟩
    have r1 : outS xs ≠ .ok → outP xs ys = outS xs := by
      intro h
      unfold outP
      cases e : outS xs with
      | ok => exact absurd e h
      | _ => rfl
    have r2 : outS xs = .ok → outS ys ≠ .ok → outP xs ys = outS ys := by
      intro h h'
      unfold outP
      rw [h]
      cases e : outS ys with
      | ok => exact absurd e h'
      | _ => rfl
    have kx : Rz A (outS xs) H E := by
      cases e : outS xs with
      | ok => trivial
      | _ => rw [← e, ← r1 (by rw [e]; intro z; cases z)]; exact kr
    refine ⟨_, rfl, a, xs, rfl, hx, hl, fun ho1 H1 e1 => ?_, kx⟩
    have ky : Rz A (outS ys) H1 E := by
      cases e : outS ys with
      | ok => trivial
      | _ => rw [← e, ← r2 ho1 (by rw [e]; intro z; cases z)]; exact kr.mono e1
    refine ⟨_, rfl, b, ys, rfl, hy.ex e1, hm, fun ho2 H2 e2 => ?_, ky⟩
    have hx2 := (hx.ex e1).ex e2
    have hy2 := (hy.ex e1).ex e2
    have hP : outP xs ys = if xs.length = ys.length then .ok else .sizes := by
      unfold outP
      rw [ho1, ho2]
    refine ⟨_, rfl, _, _, rfl, Or.inl (SqL.of hx2), _, rfl, _, _, rfl, Or.inl (SqL.of hy2), rfl, _, rfl, ?_⟩
    rw [List.length_map, List.length_map]
    refine ite_b (fun c => ?_) (fun c => ?_)
    · have hne : ¬ xs.length = ys.length := by
        intro z
        rw [z] at c
        simp at c
      rw [if_neg hne] at hP
      rw [hP] at kr
      exact kr H2 (e1.trans e2)
    · have heq : xs.length = ys.length := by
        simp at c
        exact_mod_cast c
      rw [if_pos heq] at hP
      exact kq hP H2 (e1.trans e2)

end

section
variable {P : Program} {w : World} {K : PySem.W.Frag} {mg : Str → Option Value} {base : Heap} {A : Ad}
theorem ok_law_entries_due (T : Txt K mg A)  : Okd P w K mg base CX0 1 A.law_entries_due P_law_entries_due spDueE := by
  obtain ⟨fd, F⟩ := T.d_law_entries_due

  refine ⟨fd, F.ok sc_law_entries_due (fun vs H Q E h => ?_) (fun cdv A' outer s H vs Q E hr h => ?_), F.binds fun _ _ _ _ _ _ us hl => match us, hl with | [_], _ => rfl⟩
  · obtain ⟨a, xs, rfl, _⟩ := h
    rfl
  · obtain ⟨a, xs, rfl, hx, hl, k⟩ := h
    refine ⟨_, (pss_cons (ps_for PassesOwn.never rfl (pi_range1 (by rfl) T.n_range (pa_cons (pe_callB call_len_seq (by rfl) T.n_len PySem.boot_len (pa_cons (pv 0) pa_nil)) pa_nil)) (pg_name (i := 1) sc_law_entries_due.nd rfl (Or.inl rfl)) (pss_one (ps_if (PW.pt (pw_or (pt_cmpR op_lt (pe_ix ix_list (pv 0) (pv 1) (fun _ _ => rfl)) pe_int (nomark _)) (pw_or1 (pt_cmpR op_ge (pe_ix ix_list (pv 0) (pv 1) (fun _ _ => rfl)) (pe_callB call_len_seq (by rfl) T.n_len PySem.boot_len (pa_cons (pv 0) pa_nil)) (nomark _))))) (pss_one (ps_ret (pe_tup (pa_cons pe_str (pa_cons (pv 1) pa_nil))))) pss_nil)))
      (pss_one (ps_ret (pe_tup (pa_cons pe_str (pa_cons pe_non pa_nil)))))), ?_⟩
    have hn : (xs.map V.int).length = xs.length := List.length_map ..
    refine ⟨_, rfl, _, _, rfl, Or.inl (SqL.of hx), _, rfl, (by rw [hn]; omega), (by rw [hn]; omega), ?_⟩
    have e0 : (((xs.map V.int).length : Int)).toNat = xs.length := by rw [hn]; omega
    refine for_range (lo := 0) (n := (((xs.map V.int).length : Int)).toNat) (fun i σ H' => H' = H ∧ ∃ v : Option V, σ = [some (.ref a), v] ∧ ∀ j, j < i → badE xs j = false) ⟨rfl, none, rfl, fun j hj => absurd hj (Nat.not_lt_zero _)⟩ ?_ ?_
    · rintro i σ H' hi ⟨rfl, v, rfl, nb⟩
      rw [e0] at hi
      obtain ⟨z, hz⟩ : ∃ z, xs[i]? = some z := ⟨_, List.getElem?_eq_getElem hi⟩
      have hz' : (xs.map V.int)[i]? = some (V.int z) := by rw [List.getElem?_map, hz]; rfl
      have hbad : badE xs i = (decide (z < 0) || decide ((xs.length : Int) ≤ z)) := by
        unfold badE
        rw [getD_of hz]
      have out : badE xs i = true → ∀ p, H' p = none → Q (.ref p) (upd H' p (.tup [.str "image", .int (0 + (i : Int))])) := fun hb p hp => by
        refine k p _ hp (Ex.new hp) ?_
        rw [upd_same, outE_image (firstOf_some hi hb nb), Int.zero_add]
        rfl
      refine ⟨_, rfl, _, rfl, _, _, _, _, rfl, rfl, hx.sz, at_of (Int.zero_add _) hz', _, _, rfl, rfl, _, rfl, ?_⟩
      refine ite_b (fun c => ?_) (fun c => ?_)
      · exact ⟨_, rfl, (by show 2 ≤ sizeLine; decide), fun p hp => out (by rw [hbad, c]; rfl) p hp⟩
      refine ⟨_, rfl, _, rfl, _, _, _, _, rfl, rfl, hx.sz, at_of (Int.zero_add _) hz', _, rfl, _, _, rfl, Or.inl (SqL.of hx), _, _, rfl, rfl, _, rfl, ?_⟩
      rw [hn]
      refine ite_b (fun c2 => ?_) (fun c2 => ?_)
      · exact ⟨_, rfl, (by show 2 ≤ sizeLine; decide), fun p hp => out (by rw [hbad, c2, Bool.or_true]) p hp⟩
      refine ⟨rfl, _, rfl, fun j hj => ?_⟩
      by_cases hji : j = i
      · rw [hji, hbad, c, c2]
        rfl
      · exact nb j (by omega)
    · rintro σ H' ⟨rfl, v, rfl, nb⟩
      rw [e0] at nb
      refine ⟨(by show 2 ≤ sizeLine; decide), fun p hp => k p _ hp (Ex.new hp) ?_⟩
      rw [upd_same, outE_ok (firstOf_none nb)]
      rfl

end

section
variable {P : Program} {w : World} {K : PySem.W.Frag} {mg : Str → Option Value} {base : Heap} {A : Ad}
theorem ok_law_state_due (T : Txt K mg A) (g_law_entries_due : Okd P w K mg base CX0 1 A.law_entries_due P_law_entries_due spDueE) : Okd P w K mg base CX0 2 A.law_state_due P_law_state_due spDueS := by
  obtain ⟨fd, F⟩ := T.d_law_state_due
  obtain ⟨fd_law_entries_due, G_law_entries_due, b_law_entries_due⟩ := g_law_entries_due
  refine ⟨fd, F.ok sc_law_state_due (fun vs H Q E h => ?_) (fun cdv A' outer s H vs Q E hr h => ?_), F.binds fun _ _ _ _ _ _ us hl => match us, hl with | [_], _ => rfl⟩
  · obtain ⟨a, xs, rfl, _⟩ := h
    rfl
  · obtain ⟨a, xs, rfl, hx, hl, k⟩ := h
    refine ⟨_, (pss_cons (ps_set (i := 1) sc_law_state_due.nd rfl (Or.inl rfl) (pe_call G_law_entries_due (hr.mono (by decide)) (by rfl) T.g_law_entries_due T.k_law_entries_due b_law_entries_due .nil pass0 (pa_cons (pv 0) pa_nil)))
      (pss_cons (ps_if (pt_cmpR op_eq (pe_ix ix_tup (pv 1) pe_int (fun _ _ => rfl)) pe_str (nomark _)) (pss_one (ps_ret (pv 1))) pss_nil)
      (pss_cons (ps_for PassesOwn.never rfl (pi_range1 (by rfl) T.n_range (pa_cons (pe_callB call_len_seq (by rfl) T.n_len PySem.boot_len (pa_cons (pv 0) pa_nil)) pa_nil)) (pg_name (i := 2) sc_law_state_due.nd rfl (Or.inl rfl)) (pss_one (ps_if (pt_cmpR op_ne (pe_ix ix_list (pv 0) (pe_ix ix_list (pv 0) (pv 2) (fun _ _ => rfl)) (fun _ _ => rfl)) (pv 2) (nomark _)) (pss_one (ps_ret (pe_tup (pa_cons pe_str (pa_cons (pv 2) pa_nil))))) pss_nil)))
      (pss_one (ps_ret (pe_tup (pa_cons pe_str (pa_cons pe_non pa_nil)))))))), ?_⟩
    refine ⟨_, rfl, a, xs, rfl, hx, hl, fun p H1 hp e1 hp1 => ?_⟩
    have hn : (xs.map V.int).length = xs.length := List.length_map ..
    cases hb : badIx xs with
    | some j =>
      rw [outE_image hb] at hp1
      refine ⟨_, rfl, _, _, _, _, rfl, rfl, SqT.of hp1, rfl, rfl, _, rfl, ?_⟩
      rw [outS_image hb] at k
      exact ⟨_, rfl, k p H1 hp e1 hp1⟩
    | none =>
      rw [outE_ok hb] at hp1
      have hx1 := hx.ex e1
      refine ⟨_, rfl, _, _, _, _, rfl, rfl, SqT.of hp1, rfl, rfl, _, rfl, ?_⟩
      refine ⟨_, rfl, _, _, rfl, Or.inl (SqL.of hx1), _, rfl, (by rw [hn]; omega), (by rw [hn]; omega), ?_⟩
      have e0 : (((xs.map V.int).length : Int)).toNat = xs.length := by rw [hn]; omega
      refine for_range (lo := 0) (n := (((xs.map V.int).length : Int)).toNat) (fun i σ H' => H' = H1 ∧ ∃ v : Option V, σ = [some (.ref a), some (.ref p), v] ∧ ∀ j, j < i → badS xs j = false) ⟨rfl, none, rfl, fun j hj => absurd hj (Nat.not_lt_zero _)⟩ ?_ ?_
      · rintro i σ H' hi ⟨rfl, v, rfl, nb⟩
        rw [e0] at hi
        obtain ⟨z, hz⟩ : ∃ z, xs[i]? = some z := ⟨_, List.getElem?_eq_getElem hi⟩
        obtain ⟨j, rfl, hj⟩ := good_at hb hz
        have hz' : (xs.map V.int)[i]? = some (V.int (j : Int)) := by rw [List.getElem?_map, hz]; rfl
        have hS : badS xs i = !decide (V.int xs[j] = V.int (0 + (i : Int))) := by
          unfold badS
          rw [getD_of hz, Int.toNat_natCast, getD_at hj, Int.zero_add]
          simp
        refine ⟨_, rfl, _, rfl, _, rfl, _, _, _, _, rfl, rfl, hx1.sz, at_of (Int.zero_add _) hz', _, _, _, _, rfl, rfl, hx1.sz, at_map hj, _, rfl, rfl, _, rfl, ?_⟩
        refine ite_b (fun c => ?_) (fun c => ?_)
        · refine ⟨_, rfl, (by show 2 ≤ sizeLine; decide), fun q hq => k q _ (fresh_back e1 hq) (ex_new e1 hq) ?_⟩
          rw [upd_same, outS_state hb (firstOf_some hi (hS.trans c) nb), Int.zero_add]
          rfl
        · refine ⟨rfl, _, rfl, fun m hm => ?_⟩
          by_cases hmi : m = i
          · rw [hmi, hS]
            exact c
          · exact nb m (by omega)
      · rintro σ H' ⟨rfl, v, rfl, nb⟩
        rw [e0] at nb
        refine ⟨(by show 2 ≤ sizeLine; decide), fun q hq => k q _ (fresh_back e1 hq) (ex_new e1 hq) ?_⟩
        rw [upd_same, outS_ok hb (firstOf_none nb)]
        rfl

end

section
variable {P : Program} {w : World} {K : PySem.W.Frag} {mg : Str → Option Value} {base : Heap} {A : Ad}
theorem ok_law_pair_due (T : Txt K mg A) (g_law_state_due : Okd P w K mg base CX0 2 A.law_state_due P_law_state_due spDueS) : Okd P w K mg base CX0 3 A.law_pair_due P_law_pair_due spDueP := by
  obtain ⟨fd, F⟩ := T.d_law_pair_due
  obtain ⟨fd_law_state_due, G_law_state_due, b_law_state_due⟩ := g_law_state_due
  refine ⟨fd, F.ok sc_law_pair_due (fun vs H Q E h => ?_) (fun cdv A' outer s H vs Q E hr h => ?_), F.binds fun _ _ _ _ _ _ us hl => match us, hl with | [_, _], _ => rfl⟩
  · obtain ⟨a, b, xs, ys, rfl, _⟩ := h
    rfl
  · obtain ⟨a, b, xs, ys, rfl, hx, hy, hl, hm, k⟩ := h
    refine ⟨_, (pss_cons (ps_set (i := 2) sc_law_pair_due.nd rfl (Or.inl rfl) (pe_call G_law_state_due (hr.mono (by decide)) (by rfl) T.g_law_state_due T.k_law_state_due b_law_state_due .nil pass0 (pa_cons (pv 0) pa_nil)))
      (pss_cons (ps_if (pt_cmpR op_ne (pe_ix ix_tup (pv 2) pe_int (fun _ _ => rfl)) pe_str (nomark _)) (pss_one (ps_ret (pv 2))) pss_nil)
      (pss_cons (ps_set (i := 2) sc_law_pair_due.nd rfl (Or.inl rfl) (pe_call G_law_state_due (hr.mono (by decide)) (by rfl) T.g_law_state_due T.k_law_state_due b_law_state_due .nil pass0 (pa_cons (pv 1) pa_nil)))
      (pss_cons (ps_if (pt_cmpR op_ne (pe_ix ix_tup (pv 2) pe_int (fun _ _ => rfl)) pe_str (nomark _)) (pss_one (ps_ret (pv 2))) pss_nil)
      (pss_cons (ps_if (pt_cmpR op_ne (pe_callB call_len_seq (by rfl) T.n_len PySem.boot_len (pa_cons (pv 0) pa_nil)) (pe_callB call_len_seq (by rfl) T.n_len PySem.boot_len (pa_cons (pv 1) pa_nil)) (nomark _)) (pss_one (ps_ret (pe_tup (pa_cons pe_str (pa_cons pe_non pa_nil))))) pss_nil)
      (pss_one (ps_ret (pe_tup (pa_cons pe_str (pa_cons pe_non pa_nil)))))))))), ?_⟩
    have tag : ∀ {o : Out}, o ≠ .ok → ∃ (s : Str) (v : V), o.list = [.str s, v] ∧ decide (V.str s = V.str "done") = false := by
      intro o h
      cases o with
      | ok => exact absurd rfl h
      | image k => exact ⟨_, _, rfl, by decide +kernel⟩
      | state k => exact ⟨_, _, rfl, by decide +kernel⟩
      | sizes => exact ⟨_, _, rfl, by decide +kernel⟩
    refine ⟨_, rfl, a, xs, rfl, hx, hl, fun p H1 hp e1 hp1 => ?_⟩
    by_cases h1 : outS xs = .ok
    · rw [h1] at hp1
      refine ⟨_, rfl, _, _, _, _, rfl, rfl, SqT.of hp1, rfl, rfl, _, rfl, ?_⟩
      refine ⟨_, rfl, b, ys, rfl, hy.ex e1, hm, fun q H2 hq e2 hq2 => ?_⟩
      have e12 := e1.trans e2
      by_cases h2 : outS ys = .ok
      · rw [h2] at hq2
        refine ⟨_, rfl, _, _, _, _, rfl, rfl, SqT.of hq2, rfl, rfl, _, rfl, ?_⟩
        refine ⟨_, rfl, _, _, rfl, Or.inl (SqL.of (hx.ex e12)), _, rfl, _, _, rfl, Or.inl (SqL.of (hy.ex e12)), rfl, _, rfl, ?_⟩
        have hP : outP xs ys = if xs.length = ys.length then .ok else .sizes := by
          unfold outP
          rw [h1, h2]
        rw [List.length_map, List.length_map]
        refine ite_b (fun c => ?_) (fun c => ?_)
        · have hne : ¬ xs.length = ys.length := by
            intro z
            rw [z] at c
            simp at c
          rw [if_neg hne] at hP
          refine ⟨(by show 2 ≤ sizeLine; decide), fun r hr => k r _ (fresh_back e12 hr) (ex_new e12 hr) ?_⟩
          rw [upd_same, hP]
          rfl
        · have heq : xs.length = ys.length := by
            simp at c
            exact_mod_cast c
          rw [if_pos heq] at hP
          refine ⟨(by show 2 ≤ sizeLine; decide), fun r hr => k r _ (fresh_back e12 hr) (ex_new e12 hr) ?_⟩
          rw [upd_same, hP]
          rfl
      · obtain ⟨s2, v2, el, hd⟩ := tag h2
        have hP : outP xs ys = outS ys := by
          unfold outP
          rw [h1]
          cases e : outS ys with
          | ok => exact absurd e h2
          | _ => rfl
        rw [hP] at k
        have hq3 := hq2
        rw [el] at hq3
        refine ⟨_, rfl, _, _, _, _, rfl, rfl, SqT.of hq3, rfl, rfl, _, rfl, ?_⟩
        rw [hd]
        exact ⟨_, rfl, k q H2 (fresh_back e1 hq) e12 hq2⟩
    · obtain ⟨s2, v2, el, hd⟩ := tag h1
      have hP : outP xs ys = outS xs := by
        unfold outP
        cases e : outS xs with
        | ok => exact absurd e h1
        | _ => rfl
      rw [hP] at k
      have hp3 := hp1
      rw [el] at hp3
      refine ⟨_, rfl, _, _, _, _, rfl, rfl, SqT.of hp3, rfl, rfl, _, rfl, ?_⟩
      rw [hd]
      exact ⟨_, rfl, k p H1 hp e1 hp1⟩

end

section
variable {P : Program} {w : World} {K : PySem.W.Frag} {mg : Str → Option Value} {base : Heap} {A : Ad}
theorem ok_law_told_image (T : Txt K mg A) (g_check_image : Okd P w K mg base (L2.CX P w) 3 A.check_image P_check_image (spCI A)) : Okd P w K mg base CX0 4 A.law_told_image P_law_told_image spDueE := by
  obtain ⟨fd, F⟩ := T.d_law_told_image
  obtain ⟨fd_check_image, G_check_image, b_check_image⟩ := g_check_image
  refine ⟨fd, F.ok sc_law_told_image (fun vs H Q E h => ?_) (fun cdv A' outer s H vs Q E hr h => ?_), F.binds fun _ _ _ _ _ _ us hl => match us, hl with | [_], _ => rfl⟩
  · obtain ⟨a, xs, rfl, _⟩ := h
    rfl
  · obtain ⟨a, xs, rfl, hx, hl, k⟩ := h
    refine ⟨_, (pss_cons (ps_try_manyN (tb := (fun W => tAsg (tCallS (spCI A) (WE W) (tCons (tVar 0) tNil)) (gName 1))) rfl rfl takes0 (fun W pn xe tk _ => (pss_one (ps_set (i := 1) sc_law_told_image.nd rfl (Or.inl rfl) (pe_callS G_check_image (hr.mono (by decide)) rfl T.g_check_image T.k_check_image b_check_image (fun σ => passAt tk σ) (pa_cons (pv 0) pa_nil))))) (HdsN.consN (i := 2) sc_law_told_image.nd rfl rfl ⟨rfl, by decide, .inl T.e_InvalidImage.g⟩ (fun a oe cls d pn hz hf => (pss_cons (ps_if (PW.pt (pw_or (pt_val (pe_callB (call_isS (K := K) rfl hz hf) (by rfl) T.n_isinstance (by decide +kernel) (pa_cons (pv 2) (pa_cons (pe_glob (v := .ref A.NotState) rfl T.e_NotState.g rfl) pa_nil)))) (pw_or1 (pt_val (pe_callB (call_isS (K := K) rfl hz hf) (by rfl) T.n_isinstance (by decide +kernel) (pa_cons (pv 2) (pa_cons (pe_glob (v := .ref A.UnequalSizes) rfl T.e_UnequalSizes.g rfl) pa_nil))))))) (pss_one (ps_ret (pe_tup (pa_cons pe_str (pa_cons pe_non pa_nil))))) pss_nil)
      (pss_one (ps_ret (pe_tup (pa_cons pe_str (pa_cons (pe_xf T.e_InvalidImage.xfc T.f_InvalidImage.nf hz hf (pv 2)) pa_nil))))))) HdsN.nil))
      (pss_one (ps_ret (pe_tup (pa_cons pe_str (pa_cons (pv 1) pa_nil)))))), ?_⟩
    refine ⟨_, rfl, a, xs, rfl, hx, hl, fun hok H1 e1 => ?_, ?_⟩
    · refine ⟨_, rfl, (by show 2 ≤ sizeLine; decide), fun p hp => k p _ (fresh_back e1 hp) (ex_new e1 hp) ?_⟩
      rw [upd_same]
      rw [hok]
      rfl
    · show Rz A (outE xs) H _
      cases ho : outE xs with
      | ok => trivial
      | image k0 =>
        intro d H1 e1 hd
        refine ⟨true, T.e_InvalidImage.exm, fun _ a0 ha0 => ?_, fun z => (nomatch z)⟩
        refine ⟨_, rfl, A.InvalidImage, d, _, _, _, false, rfl, rfl, rfl, hd, T.e_InvalidImage.exc T.cn T.ct, ClsV.own _, T.e_InvalidImage.kit_ne T.e_NotState (ne_ix T.nd 2 3 rfl rfl (by decide)) (ne_ix T.nd 0 3 rfl rfl (by decide)), _, rfl, ?_⟩
        refine ⟨_, rfl, A.InvalidImage, d, _, _, _, false, rfl, rfl, rfl, hd, T.e_InvalidImage.exc T.cn T.ct, ClsV.own _, T.e_InvalidImage.kit_ne T.e_UnequalSizes (ne_ix T.nd 2 15 rfl rfl (by decide)) (ne_ix T.nd 0 15 rfl rfl (by decide)), _, rfl, ?_⟩
        refine ⟨_, rfl, rfl, rfl, d, _, _, rfl, hd, rfl, (by show 2 ≤ sizeLine; decide), fun p hp => k p _ (fresh_back e1 hp) (ex_new e1 hp) ?_⟩
        rw [upd_same]
        exact congrArg some (congrArg HO.tup (by rw [ho]; rfl))
      | state k0 =>
        exfalso
        unfold outE at ho
        cases h : badIx xs with
        | none => rw [h] at ho; cases ho
        | some j => rw [h] at ho; cases ho
      | sizes =>
        exfalso
        unfold outE at ho
        cases h : badIx xs with
        | none => rw [h] at ho; cases ho
        | some j => rw [h] at ho; cases ho

end

section
variable {P : Program} {w : World} {K : PySem.W.Frag} {mg : Str → Option Value} {base : Heap} {A : Ad}
theorem ok_law_told_is_state (T : Txt K mg A) (g_is_state : Okd P w K mg base (L2.CX P w) 4 A.is_state P_is_state (spIS A)) : Okd P w K mg base CX0 5 A.law_told_is_state P_law_told_is_state spTruth := by
  obtain ⟨fd, F⟩ := T.d_law_told_is_state
  obtain ⟨fd_is_state, G_is_state, b_is_state⟩ := g_is_state
  refine ⟨fd, F.ok sc_law_told_is_state (fun vs H Q E h => ?_) (fun cdv A' outer s H vs Q E hr h => ?_), F.binds fun _ _ _ _ _ _ us hl => match us, hl with | [_], _ => rfl⟩
  · obtain ⟨a, xs, rfl, _⟩ := h
    rfl
  · obtain ⟨a, xs, rfl, hx, hl, k⟩ := h
    refine ⟨_, (pss_cons (ps_try_manyN (tb := (fun W => tAsg (tCallS (spIS A) (WE W) (tCons (tVar 0) tNil)) (gName 1))) rfl rfl takes0 (fun W pn xe tk _ => (pss_one (ps_set (i := 1) sc_law_told_is_state.nd rfl (Or.inl rfl) (pe_callS G_is_state (hr.mono (by decide)) rfl T.g_is_state T.k_is_state b_is_state (fun σ => passAt tk σ) (pa_cons (pv 0) pa_nil))))) (HdsN.consN (i := 2) sc_law_told_is_state.nd rfl rfl ⟨rfl, by decide, .inl T.e_InvalidImage.g⟩ (fun a oe cls d pn hz hf => (pss_cons (ps_if (PW.pt (pw_or (pt_val (pe_callB (call_isS (K := K) rfl hz hf) (by rfl) T.n_isinstance (by decide +kernel) (pa_cons (pv 2) (pa_cons (pe_glob (v := .ref A.NotState) rfl T.e_NotState.g rfl) pa_nil)))) (pw_or1 (pt_val (pe_callB (call_isS (K := K) rfl hz hf) (by rfl) T.n_isinstance (by decide +kernel) (pa_cons (pv 2) (pa_cons (pe_glob (v := .ref A.UnequalSizes) rfl T.e_UnequalSizes.g rfl) pa_nil))))))) (pss_one (ps_ret (pe_tup (pa_cons pe_str (pa_cons pe_non pa_nil))))) pss_nil)
      (pss_one (ps_ret (pe_tup (pa_cons pe_str (pa_cons (pe_xf T.e_InvalidImage.xfc T.f_InvalidImage.nf hz hf (pv 2)) pa_nil))))))) HdsN.nil))
      (pss_one (ps_ret (pe_tup (pa_cons pe_str (pa_cons (pv 1) pa_nil)))))), ?_⟩
    refine ⟨_, rfl, a, xs, rfl, hx, hl, fun hok H1 e1 => ?_, ?_⟩
    · refine ⟨_, rfl, (by show 2 ≤ sizeLine; decide), fun p hp => k p _ (fresh_back e1 hp) (ex_new e1 hp) ?_⟩
      rw [upd_same]
      unfold truthL
      rw [hok]
    · show Rz A (outE xs) H _
      cases ho : outE xs with
      | ok => trivial
      | image k0 =>
        intro d H1 e1 hd
        refine ⟨true, T.e_InvalidImage.exm, fun _ a0 ha0 => ?_, fun z => (nomatch z)⟩
        refine ⟨_, rfl, A.InvalidImage, d, _, _, _, false, rfl, rfl, rfl, hd, T.e_InvalidImage.exc T.cn T.ct, ClsV.own _, T.e_InvalidImage.kit_ne T.e_NotState (ne_ix T.nd 2 3 rfl rfl (by decide)) (ne_ix T.nd 0 3 rfl rfl (by decide)), _, rfl, ?_⟩
        refine ⟨_, rfl, A.InvalidImage, d, _, _, _, false, rfl, rfl, rfl, hd, T.e_InvalidImage.exc T.cn T.ct, ClsV.own _, T.e_InvalidImage.kit_ne T.e_UnequalSizes (ne_ix T.nd 2 15 rfl rfl (by decide)) (ne_ix T.nd 0 15 rfl rfl (by decide)), _, rfl, ?_⟩
        refine ⟨_, rfl, rfl, rfl, d, _, _, rfl, hd, rfl, (by show 2 ≤ sizeLine; decide), fun p hp => k p _ (fresh_back e1 hp) (ex_new e1 hp) ?_⟩
        rw [upd_same]
        exact congrArg some (congrArg HO.tup (by unfold truthL; rw [ho]; rfl))
      | state k0 =>
        exfalso
        unfold outE at ho
        cases h : badIx xs with
        | none => rw [h] at ho; cases ho
        | some j => rw [h] at ho; cases ho
      | sizes =>
        exfalso
        unfold outE at ho
        cases h : badIx xs with
        | none => rw [h] at ho; cases ho
        | some j => rw [h] at ho; cases ho

end

section
variable {P : Program} {w : World} {K : PySem.W.Frag} {mg : Str → Option Value} {base : Heap} {A : Ad}
theorem ok_law_told_state (T : Txt K mg A) (g_check_state : Okd P w K mg base (L2.CX P w) 4 A.check_state P_check_state (spCS A)) : Okd P w K mg base CX0 5 A.law_told_state P_law_told_state spDueS := by
  obtain ⟨fd, F⟩ := T.d_law_told_state
  obtain ⟨fd_check_state, G_check_state, b_check_state⟩ := g_check_state
  refine ⟨fd, F.ok sc_law_told_state (fun vs H Q E h => ?_) (fun cdv A' outer s H vs Q E hr h => ?_), F.binds fun _ _ _ _ _ _ us hl => match us, hl with | [_], _ => rfl⟩
  · obtain ⟨a, xs, rfl, _⟩ := h
    rfl
  · obtain ⟨a, xs, rfl, hx, hl, k⟩ := h
    refine ⟨_, (pss_cons (ps_try_manyN (tb := (fun W => tAsg (tCallS (spCS A) (WE W) (tCons (tVar 0) tNil)) (gName 1))) rfl rfl takes0 (fun W pn xe tk _ => (pss_one (ps_set (i := 1) sc_law_told_state.nd rfl (Or.inl rfl) (pe_callS G_check_state (hr.mono (by decide)) rfl T.g_check_state T.k_check_state b_check_state (fun σ => passAt tk σ) (pa_cons (pv 0) pa_nil))))) (HdsN.consN (i := 2) sc_law_told_state.nd rfl rfl ⟨rfl, by decide, .inl T.e_InvalidImage.g⟩ (fun a oe cls d pn hz hf => (pss_cons (ps_if (PW.pt (pw_or (pt_val (pe_callB (call_isS (K := K) rfl hz hf) (by rfl) T.n_isinstance (by decide +kernel) (pa_cons (pv 2) (pa_cons (pe_glob (v := .ref A.NotState) rfl T.e_NotState.g rfl) pa_nil)))) (pw_or1 (pt_val (pe_callB (call_isS (K := K) rfl hz hf) (by rfl) T.n_isinstance (by decide +kernel) (pa_cons (pv 2) (pa_cons (pe_glob (v := .ref A.UnequalSizes) rfl T.e_UnequalSizes.g rfl) pa_nil))))))) (pss_one (ps_ret (pe_tup (pa_cons pe_str (pa_cons pe_non pa_nil))))) pss_nil)
      (pss_one (ps_ret (pe_tup (pa_cons pe_str (pa_cons (pe_xf T.e_InvalidImage.xfc T.f_InvalidImage.nf hz hf (pv 2)) pa_nil))))))) (HdsN.consN (i := 2) sc_law_told_state.nd rfl rfl ⟨rfl, by decide, .inl T.e_NotState.g⟩ (fun a oe cls d pn hz hf => (pss_cons (ps_if (pt_val (pe_callB (call_isS (K := K) rfl hz hf) (by rfl) T.n_isinstance (by decide +kernel) (pa_cons (pv 2) (pa_cons (pe_glob (v := .ref A.UnequalSizes) rfl T.e_UnequalSizes.g rfl) pa_nil)))) (pss_one (ps_ret (pe_tup (pa_cons pe_str (pa_cons pe_non pa_nil))))) pss_nil)
      (pss_one (ps_ret (pe_tup (pa_cons pe_str (pa_cons (pe_xf T.e_NotState.xfc T.f_NotState.nf hz hf (pv 2)) pa_nil))))))) HdsN.nil)))
      (pss_one (ps_ret (pe_tup (pa_cons pe_str (pa_cons (pv 1) pa_nil)))))), ?_⟩
    refine ⟨_, rfl, a, xs, rfl, hx, hl, fun hok H1 e1 => ?_, ?_⟩
    · refine ⟨_, rfl, (by show 2 ≤ sizeLine; decide), fun p hp => k p _ (fresh_back e1 hp) (ex_new e1 hp) ?_⟩
      rw [upd_same]
      rw [hok]
      rfl
    · show Rz A (outS xs) H _
      cases ho : outS xs with
      | ok => trivial
      | image k0 =>
        intro d H1 e1 hd
        refine ⟨true, T.e_InvalidImage.exm, fun _ a0 ha0 => ?_, fun z => (nomatch z)⟩
        refine ⟨_, rfl, A.InvalidImage, d, _, _, _, false, rfl, rfl, rfl, hd, T.e_InvalidImage.exc T.cn T.ct, ClsV.own _, T.e_InvalidImage.kit_ne T.e_NotState (ne_ix T.nd 2 3 rfl rfl (by decide)) (ne_ix T.nd 0 3 rfl rfl (by decide)), _, rfl, ?_⟩
        refine ⟨_, rfl, A.InvalidImage, d, _, _, _, false, rfl, rfl, rfl, hd, T.e_InvalidImage.exc T.cn T.ct, ClsV.own _, T.e_InvalidImage.kit_ne T.e_UnequalSizes (ne_ix T.nd 2 15 rfl rfl (by decide)) (ne_ix T.nd 0 15 rfl rfl (by decide)), _, rfl, ?_⟩
        refine ⟨_, rfl, rfl, rfl, d, _, _, rfl, hd, rfl, (by show 2 ≤ sizeLine; decide), fun p hp => k p _ (fresh_back e1 hp) (ex_new e1 hp) ?_⟩
        rw [upd_same]
        exact congrArg some (congrArg HO.tup (by rw [ho]; rfl))
      | state k0 =>
        intro d H1 e1 hd
        refine ⟨false, T.e_NotState.exm_ne T.e_InvalidImage (ne_ix T.nd 3 2 rfl rfl (by decide)) (ne_ix T.nd 0 2 rfl rfl (by decide)), fun z => (nomatch z), fun _ => ?_⟩
        refine ⟨true, T.e_NotState.exm, fun _ a0 ha0 => ?_, fun z => (nomatch z)⟩
        refine ⟨_, rfl, A.NotState, d, _, _, _, false, rfl, rfl, rfl, hd, T.e_NotState.exc T.cn T.ct, ClsV.own _, T.e_NotState.kit_ne T.e_UnequalSizes (ne_ix T.nd 3 15 rfl rfl (by decide)) (ne_ix T.nd 0 15 rfl rfl (by decide)), _, rfl, ?_⟩
        refine ⟨_, rfl, rfl, rfl, d, _, _, rfl, hd, rfl, (by show 2 ≤ sizeLine; decide), fun p hp => k p _ (fresh_back e1 hp) (ex_new e1 hp) ?_⟩
        rw [upd_same]
        exact congrArg some (congrArg HO.tup (by rw [ho]; rfl))
      | sizes =>
        exfalso
        unfold outS at ho
        cases h : badIx xs with
        | none =>
          rw [h] at ho
          cases h2 : badSt xs with
          | none => rw [h2] at ho; cases ho
          | some j => rw [h2] at ho; cases ho
        | some j => rw [h] at ho; cases ho

end

section
variable {P : Program} {w : World} {K : PySem.W.Frag} {mg : Str → Option Value} {base : Heap} {A : Ad}
theorem ok_law_told_pair (T : Txt K mg A) (g_check_pair : Okd P w K mg base (L2.CX P w) 5 A.check_pair P_check_pair (spCP A)) : Okd P w K mg base CX0 6 A.law_told_pair P_law_told_pair spDueP := by
  obtain ⟨fd, F⟩ := T.d_law_told_pair
  obtain ⟨fd_check_pair, G_check_pair, b_check_pair⟩ := g_check_pair
  refine ⟨fd, F.ok sc_law_told_pair (fun vs H Q E h => ?_) (fun cdv A' outer s H vs Q E hr h => ?_), F.binds fun _ _ _ _ _ _ us hl => match us, hl with | [_, _], _ => rfl⟩
  · obtain ⟨a, b, xs, ys, rfl, _⟩ := h
    rfl
  · obtain ⟨a, b, xs, ys, rfl, hx, hy, hl, hm, k⟩ := h
    refine ⟨_, (pss_cons (ps_try_manyN (tb := (fun W => tAsg (tCallS (spCP A) (WE W) (tCons (tVar 0) (tCons (tVar 1) tNil))) (gName 2))) rfl rfl takes0 (fun W pn xe tk _ => (pss_one (ps_set (i := 2) sc_law_told_pair.nd rfl (Or.inl rfl) (pe_callS G_check_pair (hr.mono (by decide)) rfl T.g_check_pair T.k_check_pair b_check_pair (fun σ => passAt tk σ) (pa_cons (pv 0) (pa_cons (pv 1) pa_nil)))))) (HdsN.consN (i := 3) sc_law_told_pair.nd rfl rfl ⟨rfl, by decide, .inl T.e_InvalidImage.g⟩ (fun a oe cls d pn hz hf => (pss_cons (ps_if (PW.pt (pw_or (pt_val (pe_callB (call_isS (K := K) rfl hz hf) (by rfl) T.n_isinstance (by decide +kernel) (pa_cons (pv 3) (pa_cons (pe_glob (v := .ref A.NotState) rfl T.e_NotState.g rfl) pa_nil)))) (pw_or1 (pt_val (pe_callB (call_isS (K := K) rfl hz hf) (by rfl) T.n_isinstance (by decide +kernel) (pa_cons (pv 3) (pa_cons (pe_glob (v := .ref A.UnequalSizes) rfl T.e_UnequalSizes.g rfl) pa_nil))))))) (pss_one (ps_ret (pe_tup (pa_cons pe_str (pa_cons pe_non pa_nil))))) pss_nil)
      (pss_one (ps_ret (pe_tup (pa_cons pe_str (pa_cons (pe_xf T.e_InvalidImage.xfc T.f_InvalidImage.nf hz hf (pv 3)) pa_nil))))))) (HdsN.consN (i := 3) sc_law_told_pair.nd rfl rfl ⟨rfl, by decide, .inl T.e_NotState.g⟩ (fun a oe cls d pn hz hf => (pss_cons (ps_if (pt_val (pe_callB (call_isS (K := K) rfl hz hf) (by rfl) T.n_isinstance (by decide +kernel) (pa_cons (pv 3) (pa_cons (pe_glob (v := .ref A.UnequalSizes) rfl T.e_UnequalSizes.g rfl) pa_nil)))) (pss_one (ps_ret (pe_tup (pa_cons pe_str (pa_cons pe_non pa_nil))))) pss_nil)
      (pss_one (ps_ret (pe_tup (pa_cons pe_str (pa_cons (pe_xf T.e_NotState.xfc T.f_NotState.nf hz hf (pv 3)) pa_nil))))))) (HdsN.cons ⟨rfl, by decide, .inl T.e_UnequalSizes.g⟩ (fun a oe cls d pn hz hf => (pss_one (ps_ret (pe_tup (pa_cons pe_str (pa_cons pe_non pa_nil)))))) HdsN.nil))))
      (pss_one (ps_ret (pe_tup (pa_cons pe_str (pa_cons (pv 2) pa_nil)))))), ?_⟩
    refine ⟨_, rfl, _, rfl, a, b, xs, ys, rfl, hx, hy, hl, hm, fun hok H1 e1 => ?_, ?_⟩
    · refine ⟨_, rfl, (by show 2 ≤ sizeLine; decide), fun p hp => k p _ (fresh_back e1 hp) (ex_new e1 hp) ?_⟩
      rw [upd_same]
      rw [hok]
      rfl
    · show Rz A (outP xs ys) H _
      cases ho : outP xs ys with
      | ok => trivial
      | image k0 =>
        intro d H1 e1 hd
        refine ⟨true, T.e_InvalidImage.exm, fun _ a0 ha0 => ?_, fun z => (nomatch z)⟩
        refine ⟨_, rfl, A.InvalidImage, d, _, _, _, false, rfl, rfl, rfl, hd, T.e_InvalidImage.exc T.cn T.ct, ClsV.own _, T.e_InvalidImage.kit_ne T.e_NotState (ne_ix T.nd 2 3 rfl rfl (by decide)) (ne_ix T.nd 0 3 rfl rfl (by decide)), _, rfl, ?_⟩
        refine ⟨_, rfl, A.InvalidImage, d, _, _, _, false, rfl, rfl, rfl, hd, T.e_InvalidImage.exc T.cn T.ct, ClsV.own _, T.e_InvalidImage.kit_ne T.e_UnequalSizes (ne_ix T.nd 2 15 rfl rfl (by decide)) (ne_ix T.nd 0 15 rfl rfl (by decide)), _, rfl, ?_⟩
        refine ⟨_, rfl, rfl, rfl, d, _, _, rfl, hd, rfl, (by show 2 ≤ sizeLine; decide), fun p hp => k p _ (fresh_back e1 hp) (ex_new e1 hp) ?_⟩
        rw [upd_same]
        exact congrArg some (congrArg HO.tup (by rw [ho]; rfl))
      | state k0 =>
        intro d H1 e1 hd
        refine ⟨false, T.e_NotState.exm_ne T.e_InvalidImage (ne_ix T.nd 3 2 rfl rfl (by decide)) (ne_ix T.nd 0 2 rfl rfl (by decide)), fun z => (nomatch z), fun _ => ?_⟩
        refine ⟨true, T.e_NotState.exm, fun _ a0 ha0 => ?_, fun z => (nomatch z)⟩
        refine ⟨_, rfl, A.NotState, d, _, _, _, false, rfl, rfl, rfl, hd, T.e_NotState.exc T.cn T.ct, ClsV.own _, T.e_NotState.kit_ne T.e_UnequalSizes (ne_ix T.nd 3 15 rfl rfl (by decide)) (ne_ix T.nd 0 15 rfl rfl (by decide)), _, rfl, ?_⟩
        refine ⟨_, rfl, rfl, rfl, d, _, _, rfl, hd, rfl, (by show 2 ≤ sizeLine; decide), fun p hp => k p _ (fresh_back e1 hp) (ex_new e1 hp) ?_⟩
        rw [upd_same]
        exact congrArg some (congrArg HO.tup (by rw [ho]; rfl))
      | sizes =>
        intro H1 e1
        refine ⟨false, T.e_UnequalSizes.exm_ne T.e_InvalidImage (ne_ix T.nd 15 2 rfl rfl (by decide)) (ne_ix T.nd 0 2 rfl rfl (by decide)), fun z => (nomatch z), fun _ => ?_⟩
        refine ⟨false, T.e_UnequalSizes.exm_ne T.e_NotState (ne_ix T.nd 15 3 rfl rfl (by decide)) (ne_ix T.nd 0 3 rfl rfl (by decide)), fun z => (nomatch z), fun _ => ?_⟩
        refine ⟨true, T.e_UnequalSizes.exm, fun _ a0 ha0 => ?_, fun z => (nomatch z)⟩
        refine ⟨(by show 2 ≤ sizeLine; decide), fun p hp => k p _ (fresh_back e1 hp) (ex_new e1 hp) ?_⟩
        rw [upd_same]
        exact congrArg some (congrArg HO.tup (by rw [ho]; rfl))

end

section
variable {P : Program} {w : World} {K : PySem.W.Frag} {mg : Str → Option Value} {base : Heap} {A : Ad}
theorem ok_law_meets (T : Txt K mg A)  : Okd P w K mg base CX0 1 A.law_meets P_law_meets spMeets := by
  obtain ⟨fd, F⟩ := T.d_law_meets

  refine ⟨fd, F.ok sc_law_meets (fun vs H Q E h => ?_) (fun cdv A' outer s H vs Q E hr h => ?_), F.binds fun _ _ _ _ _ _ us hl => match us, hl with | [_, _], _ => rfl⟩
  · obtain ⟨p, q, s1, v, rfl, _⟩ := h
    rfl
  · obtain ⟨p, q, s1, v, rfl, hp, hq, hv, k⟩ := h
    refine ⟨_, (pss_cons (ps_if (pt_cmpR op_ne (pe_ix ix_tup (pv 0) pe_int (fun _ _ => rfl)) (pe_ix ix_tup (pv 1) pe_int (fun _ _ => rfl)) (nomark _)) (pss_one (ps_ret pe_bl)) pss_nil)
      (pss_cons (ps_if (pt_cmpR op_isN (pe_ix ix_tup (pv 1) pe_int (fun _ _ => rfl)) pe_non (nomark _)) (pss_one (ps_ret (pe_cmpR op_isN (pe_ix ix_tup (pv 0) pe_int (fun _ _ => rfl)) pe_non (nomark _)))) pss_nil)
      (pss_cons (ps_if (pt_val (pe_callB call_isi (by rfl) T.n_isinstance (by decide +kernel) (pa_cons (pe_ix ix_tup (pv 1) pe_int (fun _ _ => rfl)) (pa_cons (pe_bltn (v := .ty "bool") (u := .type "bool") (by rfl) T.n_bool (by decide +kernel) rfl) pa_nil)))) (pss_one (ps_ret (pe_and (pe_callB call_isi (by rfl) T.n_isinstance (by decide +kernel) (pa_cons (pe_ix ix_tup (pv 0) pe_int (fun _ _ => rfl)) (pa_cons (pe_bltn (v := .ty "bool") (u := .type "bool") (by rfl) T.n_bool (by decide +kernel) rfl) pa_nil))) (pe_one (pe_cmpR op_eq (pe_ix ix_tup (pv 0) pe_int (fun _ _ => rfl)) (pe_ix ix_tup (pv 1) pe_int (fun _ _ => rfl)) (nomark _)))))) pss_nil)
      (pss_one (ps_ret (pe_and (pe_callB call_isi (by rfl) T.n_isinstance (by decide +kernel) (pa_cons (pe_ix ix_tup (pv 0) pe_int (fun _ _ => rfl)) (pa_cons (pe_bltn (v := .ty "int") (u := .type "int") (by rfl) T.n_int (by decide +kernel) rfl) pa_nil))) (pe_and (pe_not (pe_callB call_isi (by rfl) T.n_isinstance (by decide +kernel) (pa_cons (pe_ix ix_tup (pv 0) pe_int (fun _ _ => rfl)) (pa_cons (pe_bltn (v := .ty "bool") (u := .type "bool") (by rfl) T.n_bool (by decide +kernel) rfl) pa_nil)))) (pe_one (pe_cmpR op_eq (pe_ix ix_tup (pv 0) pe_int (fun _ _ => rfl)) (pe_ix ix_tup (pv 1) pe_int (fun _ _ => rfl)) (nomark _)))))))))), ?_⟩
    have z1 : decide (V.str s1 = V.str s1) = true := decide_eq_true rfl
    refine ⟨_, rfl, _, _, _, _, rfl, rfl, SqT.of hp, rfl, _, rfl, _, _, _, _, rfl, rfl, SqT.of hq, rfl, rfl, _, rfl, ?_⟩
    rw [z1]
    refine ⟨_, rfl, _, _, _, _, rfl, rfl, SqT.of hq, rfl, rfl, _, rfl, ?_⟩
    rcases hv with rfl | ⟨b, rfl⟩ | ⟨i, rfl⟩
    · exact ⟨_, rfl, _, _, _, _, rfl, rfl, SqT.of hp, rfl, rfl, k⟩
    · refine ⟨_, rfl, _, _, _, _, rfl, rfl, SqT.of hq, rfl, _, _, _, _, true, rfl, ClsV.ty "bool", TyX.base (TyOf.bl b), kit_ty (by decide +kernel), _, rfl, ?_⟩
      refine ⟨_, rfl, _, _, _, _, rfl, rfl, SqT.of hp, rfl, _, _, _, _, true, rfl, ClsV.ty "bool", TyX.base (TyOf.bl b), kit_ty (by decide +kernel), _, rfl, ?_⟩
      refine ⟨_, rfl, _, _, _, _, rfl, rfl, SqT.of hp, rfl, _, rfl, _, _, _, _, rfl, rfl, SqT.of hq, rfl, rfl, ?_⟩
      rw [decide_eq_true rfl]
      exact k
    · refine ⟨_, rfl, _, _, _, _, rfl, rfl, SqT.of hq, rfl, _, _, _, _, false, rfl, ClsV.ty "bool", TyX.base (TyOf.int i), kit_ty (by decide +kernel), _, rfl, ?_⟩
      refine ⟨_, rfl, _, _, _, _, rfl, rfl, SqT.of hp, rfl, _, _, _, _, true, rfl, ClsV.ty "int", TyX.base (TyOf.int i), kit_ty (by decide +kernel), _, rfl, ?_⟩
      refine ⟨_, rfl, _, _, _, _, rfl, rfl, SqT.of hp, rfl, _, _, _, _, false, rfl, ClsV.ty "bool", TyX.base (TyOf.int i), kit_ty (by decide +kernel), _, rfl, _, rfl, ?_⟩
      refine ⟨_, rfl, _, _, _, _, rfl, rfl, SqT.of hp, rfl, _, rfl, _, _, _, _, rfl, rfl, SqT.of hq, rfl, rfl, ?_⟩
      rw [decide_eq_true rfl]
      exact k

end

section
variable {P : Program} {w : World} {K : PySem.W.Frag} {mg : Str → Option Value} {base : Heap} {A : Ad}
theorem ok_law_one_checked (T : Txt K mg A) (g_law_entries_due : Okd P w K mg base CX0 1 A.law_entries_due P_law_entries_due spDueE) (g_law_state_due : Okd P w K mg base CX0 2 A.law_state_due P_law_state_due spDueS) (g_law_told_image : Okd P w K mg base CX0 4 A.law_told_image P_law_told_image spDueE) (g_law_told_is_state : Okd P w K mg base CX0 5 A.law_told_is_state P_law_told_is_state spTruth) (g_law_told_state : Okd P w K mg base CX0 5 A.law_told_state P_law_told_state spDueS) (g_law_meets : Okd P w K mg base CX0 1 A.law_meets P_law_meets spMeets) : Okd P w K mg base CX0 6 A.law_one_checked P_law_one_checked spOne := by
  obtain ⟨fd, F⟩ := T.d_law_one_checked
  obtain ⟨fd_law_entries_due, G_law_entries_due, b_law_entries_due⟩ := g_law_entries_due
  obtain ⟨fd_law_state_due, G_law_state_due, b_law_state_due⟩ := g_law_state_due
  obtain ⟨fd_law_told_image, G_law_told_image, b_law_told_image⟩ := g_law_told_image
  obtain ⟨fd_law_told_is_state, G_law_told_is_state, b_law_told_is_state⟩ := g_law_told_is_state
  obtain ⟨fd_law_told_state, G_law_told_state, b_law_told_state⟩ := g_law_told_state
  obtain ⟨fd_law_meets, G_law_meets, b_law_meets⟩ := g_law_meets
  refine ⟨fd, F.ok sc_law_one_checked (fun vs H Q E h => ?_) (fun cdv A' outer s H vs Q E hr h => ?_), F.binds fun _ _ _ _ _ _ us hl => match us, hl with | [_], _ => rfl⟩
  · obtain ⟨a, xs, rfl, _⟩ := h
    rfl
  · obtain ⟨a, xs, rfl, hx, hl, k⟩ := h
    refine ⟨_, (pss_cons (ps_set (i := 1) sc_law_one_checked.nd rfl (Or.inl rfl) (pe_call G_law_entries_due (hr.mono (by decide)) (by rfl) T.g_law_entries_due T.k_law_entries_due b_law_entries_due .nil pass0 (pa_cons (pv 0) pa_nil)))
      (pss_cons (ps_set (i := 2) sc_law_one_checked.nd rfl (Or.inl rfl) (pe_call G_law_state_due (hr.mono (by decide)) (by rfl) T.g_law_state_due T.k_law_state_due b_law_state_due .nil pass0 (pa_cons (pv 0) pa_nil)))
      (pss_cons (ps_set (i := 3) sc_law_one_checked.nd rfl (Or.inl rfl) (pv 1))
      (pss_cut (ps_if (pt_cmpR op_eq (pe_ix ix_tup (pv 1) pe_int (fun _ _ => rfl)) pe_str (nomark _)) (pss_one (ps_set (i := 3) sc_law_one_checked.nd rfl (Or.inl rfl) (pe_tup (pa_cons pe_str (pa_cons (pe_cmpR op_eq (pe_ix ix_tup (pv 2) pe_int (fun _ _ => rfl)) pe_str (nomark _)) pa_nil))))) pss_nil)
      (pss_cons (ps_set (i := 4) sc_law_one_checked.nd rfl (Or.inl rfl) (pe_callTy call_list_of (by rfl) T.n_list (by decide +kernel) (pa_cons (pv 0) pa_nil)))
      (pss_cons (ps_if (PW.pt (pw_or (pt_not (pt_val (pe_call G_law_meets (hr.mono (by decide)) (by rfl) T.g_law_meets T.k_law_meets b_law_meets .nil pass0 (pa_cons (pe_call G_law_told_image (hr.mono (by decide)) (by rfl) T.g_law_told_image T.k_law_told_image b_law_told_image .nil pass0 (pa_cons (pv 4) pa_nil)) (pa_cons (pv 1) pa_nil))))) (pw_or1 (pt_cmpR (op_neD hr.units) (pv 4) (pv 0) (nomark _))))) (pss_one (ps_ret pe_bl)) pss_nil)
      (pss_cons (ps_if (PW.pt (pw_or (pt_not (pt_val (pe_call G_law_meets (hr.mono (by decide)) (by rfl) T.g_law_meets T.k_law_meets b_law_meets .nil pass0 (pa_cons (pe_call G_law_told_is_state (hr.mono (by decide)) (by rfl) T.g_law_told_is_state T.k_law_told_is_state b_law_told_is_state .nil pass0 (pa_cons (pv 4) pa_nil)) (pa_cons (pv 3) pa_nil))))) (pw_or1 (pt_cmpR (op_neD hr.units) (pv 4) (pv 0) (nomark _))))) (pss_one (ps_ret pe_bl)) pss_nil)
      (pss_one (ps_ret (pe_and (pe_call G_law_meets (hr.mono (by decide)) (by rfl) T.g_law_meets T.k_law_meets b_law_meets .nil pass0 (pa_cons (pe_call G_law_told_state (hr.mono (by decide)) (by rfl) T.g_law_told_state T.k_law_told_state b_law_told_state .nil pass0 (pa_cons (pv 4) pa_nil)) (pa_cons (pv 2) pa_nil))) (pe_one (pe_cmpR (op_eqD hr.units) (pv 4) (pv 0) (nomark _))))))))))))), ?_⟩
    have form : ∀ o : Out, ∃ (s : Str) (v : V), o.list = [.str s, v] ∧ (v = .non ∨ (∃ b, v = .bl b) ∨ ∃ i, v = .int i) := fun o => by
      obtain ⟨s2, v2, e, h⟩ := Out.form o
      exact ⟨s2, v2, e, h.elim Or.inl fun h => Or.inr (Or.inr h)⟩
    obtain ⟨sE, vE, elE, hvE⟩ := form (outE xs)
    obtain ⟨sS, vS, elS, hvS⟩ := form (outS xs)
    refine ⟨_, rfl, a, xs, rfl, hx, hl, fun p H1 hp e1 hp1 => ?_⟩
    refine ⟨_, rfl, a, xs, rfl, hx.ex e1, hl, fun q H2 hq e2 hq2 => ?_⟩
    have e12 := e1.trans e2
    have hx2 := hx.ex e12
    have tt : ∃ (sT : Str) (vT : V), truthL xs = [.str sT, vT] ∧ (vT = .non ∨ (∃ b, vT = .bl b) ∨ ∃ i, vT = .int i) := by
      unfold truthL
      cases h : outE xs with
      | ok => exact ⟨_, _, rfl, Or.inr (Or.inl ⟨_, rfl⟩)⟩
      | image k => exact form (.image k)
      | state k => exact form (.state k)
      | sizes => exact form .sizes
    obtain ⟨sT, vT, elT, hvT⟩ := tt
    rw [elE] at hp1
    refine ⟨_, rfl, fun σ G => ∃ t : Addr, σ = [some (.ref a), some (.ref p), some (.ref q), some (.ref t), none] ∧ Ex H2 G ∧ G t = some (.tup (truthL xs)), ?_, ?_⟩
    · refine ⟨_, rfl, _, _, _, _, rfl, rfl, SqT.of (e2 _ _ hp1), rfl, rfl, _, rfl, ?_⟩
      cases h : outE xs with
      | ok =>
        rw [h] at elE
        have es : sE = "done" := by
          injection elE with e _
          injection e with e
          exact e.symm
        rw [es, decide_eq_true rfl]
        have elS' := elS
        rw [elS] at hq2
        refine ⟨_, rfl, _, _, _, _, rfl, rfl, SqT.of hq2, rfl, rfl, (by show 2 ≤ sizeLine; decide), fun t ht => ⟨t, rfl, Ex.new ht, ?_⟩⟩
        rw [upd_same]
        unfold truthL
        rw [h]
        have hok : (outS xs).isOk = decide (V.str sS = V.str "done") := by
          cases h2 : outS xs with
          | ok =>
            rw [h2] at elS
            injection elS with e _
            injection e with e
            rw [← e]
            rfl
          | image k =>
            rw [h2] at elS
            injection elS with e _
            injection e with e
            rw [← e]
            show false = _
            decide +kernel
          | state k =>
            rw [h2] at elS
            injection elS with e _
            injection e with e
            rw [← e]
            show false = _
            decide +kernel
          | sizes =>
            rw [h2] at elS
            injection elS with e _
            injection e with e
            rw [← e]
            decide +kernel
        rw [← hok]
      | _ =>
        rw [h] at elE
        have es : decide (V.str sE = V.str "done") = false := by
          injection elE with e _
          injection e with e
          rw [← e]
          decide +kernel
        rw [es]
        refine ⟨p, rfl, Ex.refl _, ?_⟩
        rw [e2 _ _ hp1, ← elE]
        unfold truthL
        rw [h]
    · rintro σ G ⟨t, rfl, e3, ht⟩
      have hx3 := hx2.ex e3
      refine ⟨_, rfl, _, _, rfl, Or.inl (SqL.of hx3), fun o ho => ?_⟩
      have e4 : Ex H (upd G o (.lst (xs.map V.int))) := ex_new (e12.trans e3) ho
      have hh : ∀ G', Ex (upd G o (.lst (xs.map V.int))) G' → ListI G' o xs ∧ ListI G' a xs := fun G' g => ⟨g _ _ upd_same, hx.ex (e4.trans g)⟩
      rw [elT] at ht
      rw [elS] at hq2
      have et : ∀ G', Ex (upd G o (.lst (xs.map V.int))) G' → G' p = some (.tup [.str sE, vE]) ∧ G' q = some (.tup [.str sS, vS]) ∧ G' t = some (.tup [.str sT, vT]) := fun G' g =>
        ⟨g _ _ (ex_new e3 ho _ _ (e2 _ _ hp1)), g _ _ (ex_new e3 ho _ _ hq2), g _ _ (Ex.new ho _ _ ht)⟩
      obtain ⟨h1, h2⟩ := hh _ (Ex.refl _)
      refine ⟨_, rfl, o, xs, rfl, h1, hl, fun r G1 hr g1 hr1 => ?_⟩
      rw [elE] at hr1
      refine ⟨_, rfl, r, p, sE, vE, rfl, hr1, (et _ g1).1, hvE, _, rfl, ?_⟩
      refine ⟨_, rfl, _, rfl, dI xs, dI xs, dp_I (hh _ g1).1, dp_I (hh _ g1).2, shaped_I _, shaped_I _, _, rfl, ?_⟩
      rw [eqv_I]
      refine ⟨_, rfl, o, xs, rfl, (hh _ g1).1, hl, fun r2 G2 hr2 g2 hr3 => ?_⟩
      have g12 := g1.trans g2
      rw [elT] at hr3
      refine ⟨_, rfl, r2, t, sT, vT, rfl, hr3, (et _ g12).2.2, hvT, _, rfl, ?_⟩
      refine ⟨_, rfl, _, rfl, dI xs, dI xs, dp_I (hh _ g12).1, dp_I (hh _ g12).2, shaped_I _, shaped_I _, _, rfl, ?_⟩
      rw [eqv_I]
      refine ⟨_, rfl, o, xs, rfl, (hh _ g12).1, hl, fun r4 G3 hr4 g3 hr5 => ?_⟩
      have g123 := g12.trans g3
      rw [elS] at hr5
      refine ⟨_, rfl, r4, q, sS, vS, rfl, hr5, (et _ g123).2.1, hvS, _, rfl, ?_⟩
      refine ⟨_, rfl, _, rfl, dI xs, dI xs, dp_I (hh _ g123).1, dp_I (hh _ g123).2, shaped_I _, shaped_I _, ?_⟩
      rw [eqv_I]
      exact k _ (e4.trans g123)

end

section
variable {P : Program} {w : World} {K : PySem.W.Frag} {mg : Str → Option Value} {base : Heap} {A : Ad}
theorem ok_law_two_checked (T : Txt K mg A) (g_law_told_pair : Okd P w K mg base CX0 6 A.law_told_pair P_law_told_pair spDueP) (g_law_pair_due : Okd P w K mg base CX0 3 A.law_pair_due P_law_pair_due spDueP) (g_law_meets : Okd P w K mg base CX0 1 A.law_meets P_law_meets spMeets) : Okd P w K mg base CX0 7 A.law_two_checked P_law_two_checked spTwo := by
  obtain ⟨fd, F⟩ := T.d_law_two_checked
  obtain ⟨fd_law_told_pair, G_law_told_pair, b_law_told_pair⟩ := g_law_told_pair
  obtain ⟨fd_law_pair_due, G_law_pair_due, b_law_pair_due⟩ := g_law_pair_due
  obtain ⟨fd_law_meets, G_law_meets, b_law_meets⟩ := g_law_meets
  refine ⟨fd, F.ok sc_law_two_checked (fun vs H Q E h => ?_) (fun cdv A' outer s H vs Q E hr h => ?_), F.binds fun _ _ _ _ _ _ us hl => match us, hl with | [_, _], _ => rfl⟩
  · obtain ⟨a, b, xs, ys, rfl, _⟩ := h
    rfl
  · obtain ⟨a, b, xs, ys, rfl, hx, hy, hl, hm, k⟩ := h
    refine ⟨_, (pss_cons (ps_set (i := 2) sc_law_two_checked.nd rfl (Or.inl rfl) (pe_callTy call_list_of (by rfl) T.n_list (by decide +kernel) (pa_cons (pv 0) pa_nil)))
      (pss_cons (ps_set (i := 3) sc_law_two_checked.nd rfl (Or.inl rfl) (pe_callTy call_list_of (by rfl) T.n_list (by decide +kernel) (pa_cons (pv 1) pa_nil)))
      (pss_cons (ps_if (pt_not (pt_val (pe_call G_law_meets (hr.mono (by decide)) (by rfl) T.g_law_meets T.k_law_meets b_law_meets .nil pass0 (pa_cons (pe_call G_law_told_pair (hr.mono (by decide)) (by rfl) T.g_law_told_pair T.k_law_told_pair b_law_told_pair .nil pass0 (pa_cons (pv 2) (pa_cons (pv 3) pa_nil))) (pa_cons (pe_call G_law_pair_due (hr.mono (by decide)) (by rfl) T.g_law_pair_due T.k_law_pair_due b_law_pair_due .nil pass0 (pa_cons (pv 0) (pa_cons (pv 1) pa_nil))) pa_nil))))) (pss_one (ps_ret pe_bl)) pss_nil)
      (pss_one (ps_ret (pe_and (pe_cmpR (op_eqD hr.units) (pv 2) (pv 0) (nomark _)) (pe_one (pe_cmpR (op_eqD hr.units) (pv 3) (pv 1) (nomark _))))))))), ?_⟩
    obtain ⟨sP, vP, elP, hvP⟩ := Out.form (outP xs ys)
    have hvP' : vP = .non ∨ (∃ b, vP = .bl b) ∨ ∃ i, vP = .int i := hvP.elim Or.inl fun h => Or.inr (Or.inr h)
    refine ⟨_, rfl, _, _, rfl, Or.inl (SqL.of hx), fun o1 ho1 => ?_⟩
    have e1 : Ex H (upd H o1 (.lst (xs.map V.int))) := Ex.new ho1
    have hy1 := hy.ex e1
    refine ⟨_, rfl, _, _, rfl, Or.inl (SqL.of hy1), fun o2 ho2 => ?_⟩
    have e2 := ex_new (o := .lst (ys.map V.int)) e1 ho2
    have n12 : o1 ≠ o2 := ne_of_none upd_same ho2
    have ho : ∀ G, Ex (upd (upd H o1 (.lst (xs.map V.int))) o2 (.lst (ys.map V.int))) G → ListI G o1 xs ∧ ListI G o2 ys := fun G g => ⟨g _ _ (by rw [upd_ne n12, upd_same]), g _ _ upd_same⟩
    obtain ⟨h1, h2⟩ := ho _ (Ex.refl _)
    refine ⟨_, rfl, _, rfl, o1, o2, xs, ys, rfl, h1, h2, hl, hm, fun p H3 hp e3 hp3 => ?_⟩
    refine ⟨_, rfl, _, rfl, a, b, xs, ys, rfl, hx.ex (e2.trans e3), hy.ex (e2.trans e3), hl, hm, fun q H4 hq e4 hq4 => ?_⟩
    rw [elP] at hp3 hq4
    refine ⟨p, q, sP, vP, rfl, e4 _ _ hp3, hq4, hvP', _, rfl, ?_⟩
    have e34 := e3.trans e4
    obtain ⟨k1, k2⟩ := ho _ e34
    have hx4 := hx.ex (e2.trans e34)
    have hy4 := hy.ex (e2.trans e34)
    refine ⟨_, rfl, _, rfl, dI xs, dI xs, dp_I k1, dp_I hx4, shaped_I _, shaped_I _, _, rfl, ?_⟩
    rw [eqv_I]
    refine ⟨_, rfl, _, rfl, dI ys, dI ys, dp_I k2, dp_I hy4, shaped_I _, shaped_I _, ?_⟩
    rw [eqv_I]
    exact k H4 (e2.trans e34)

end

section
variable {P : Program} {w : World} {K : PySem.W.Frag} {mg : Str → Option Value} {base : Heap} {A : Ad}
theorem ok_law_marks (T : Txt K mg A)  : Okd P w K mg base CX0 1 A.law_marks P_law_marks (spMarks K A) := by
  obtain ⟨fd, F⟩ := T.d_law_marks

  refine ⟨fd, F.ok sc_law_marks (fun vs H Q E h => ?_) (fun cdv A' outer s H vs Q E hr h => ?_), F.binds fun _ _ _ _ _ _ us hl => match us, hl with | [_], _ => rfl⟩
  · obtain ⟨e, C, i, rfl, _⟩ := h
    rfl
  · obtain ⟨e, C, i, rfl, hE, hi, k⟩ := h
    refine ⟨_, (pss_cons (ps_set (i := 1) sc_law_marks.nd rfl (Or.inl rfl) (pe_lst (pa_cons (pe_callB call_isX (by rfl) T.n_isinstance (by decide +kernel) (pa_cons (pv 0) (pa_cons (pe_glob (v := .ref A.InvalidSize) rfl T.e_InvalidSize.g rfl) pa_nil))) (pa_cons (pe_callB call_isX (by rfl) T.n_isinstance (by decide +kernel) (pa_cons (pv 0) (pa_cons (pe_glob (v := .ref A.InvalidImage) rfl T.e_InvalidImage.g rfl) pa_nil))) (pa_cons (pe_callB call_isX (by rfl) T.n_isinstance (by decide +kernel) (pa_cons (pv 0) (pa_cons (pe_glob (v := .ref A.NotState) rfl T.e_NotState.g rfl) pa_nil))) pa_nil)))))
      (pss_cons (ps_set (i := 1) sc_law_marks.nd rfl (Or.inl rfl) (pe_op op_cat (pv 1) (pe_lst (pa_cons (pe_callB call_isX (by rfl) T.n_isinstance (by decide +kernel) (pa_cons (pv 0) (pa_cons (pe_glob (v := .ref A.Unrepairable) rfl T.e_Unrepairable.g rfl) pa_nil))) (pa_cons (pe_callB call_isX (by rfl) T.n_isinstance (by decide +kernel) (pa_cons (pv 0) (pa_cons (pe_glob (v := .ref A.InvalidRecord) rfl T.e_InvalidRecord.g rfl) pa_nil))) (pa_cons (pe_callB call_isX (by rfl) T.n_isinstance (by decide +kernel) (pa_cons (pv 0) (pa_cons (pe_glob (v := .ref A.Busy) rfl T.e_Busy.g rfl) pa_nil))) pa_nil))))))
      (pss_cons (ps_set (i := 1) sc_law_marks.nd rfl (Or.inl rfl) (pe_op op_cat (pv 1) (pe_lst (pa_cons (pe_callB call_isX (by rfl) T.n_isinstance (by decide +kernel) (pa_cons (pv 0) (pa_cons (pe_glob (v := .ref A.Written) rfl T.e_Written.g rfl) pa_nil))) (pa_cons (pe_callB call_isX (by rfl) T.n_isinstance (by decide +kernel) (pa_cons (pv 0) (pa_cons (pe_glob (v := .ref A.NotReady) rfl T.e_NotReady.g rfl) pa_nil))) (pa_cons (pe_callB call_isX (by rfl) T.n_isinstance (by decide +kernel) (pa_cons (pv 0) (pa_cons (pe_glob (v := .ref A.InvalidNumber) rfl T.e_InvalidNumber.g rfl) pa_nil))) pa_nil))))))
      (pss_cons (ps_set (i := 1) sc_law_marks.nd rfl (Or.inl rfl) (pe_op op_cat (pv 1) (pe_lst (pa_cons (pe_callB call_isX (by rfl) T.n_isinstance (by decide +kernel) (pa_cons (pv 0) (pa_cons (pe_glob (v := .ref A.InvalidRules) rfl T.e_InvalidRules.g rfl) pa_nil))) (pa_cons (pe_callB call_isX (by rfl) T.n_isinstance (by decide +kernel) (pa_cons (pv 0) (pa_cons (pe_glob (v := .ref A.InvalidStore) rfl T.e_InvalidStore.g rfl) pa_nil))) pa_nil)))))
      (pss_cons (ps_set (i := 1) sc_law_marks.nd rfl (Or.inl rfl) (pe_op op_cat (pv 1) (pe_lst (pa_cons (pe_callB call_isX (by rfl) T.n_isinstance (by decide +kernel) (pa_cons (pv 0) (pa_cons (pe_glob (v := .ref A.Ambiguous) rfl T.e_Ambiguous.g rfl) pa_nil))) (pa_cons (pe_callB call_isX (by rfl) T.n_isinstance (by decide +kernel) (pa_cons (pv 0) (pa_cons (pe_glob (v := .ref A.NoWriter) rfl T.e_NoWriter.g rfl) pa_nil))) (pa_cons (pe_callB call_isX (by rfl) T.n_isinstance (by decide +kernel) (pa_cons (pv 0) (pa_cons (pe_glob (v := .ref A.Unsafe) rfl T.e_Unsafe.g rfl) pa_nil))) pa_nil))))))
      (pss_cons (ps_set (i := 1) sc_law_marks.nd rfl (Or.inl rfl) (pe_op op_cat (pv 1) (pe_lst (pa_cons (pe_callB call_isX (by rfl) T.n_isinstance (by decide +kernel) (pa_cons (pv 0) (pa_cons (pe_glob (v := .ref A.UnequalSizes) rfl T.e_UnequalSizes.g rfl) pa_nil))) (pa_cons (pe_callB call_isX (by rfl) T.n_isinstance (by decide +kernel) (pa_cons (pv 0) (pa_cons (pe_glob (v := .ref A.InvalidUpdate) rfl T.e_InvalidUpdate.g rfl) pa_nil))) pa_nil)))))
      (pss_cons (ps_set (i := 1) sc_law_marks.nd rfl (Or.inl rfl) (pe_op op_cat (pv 1) (pe_lst (pa_cons (pe_callB call_isX (by rfl) T.n_isinstance (by decide +kernel) (pa_cons (pv 0) (pa_cons (pe_glob (v := .ref A.InvalidKind) rfl T.e_InvalidKind.g rfl) pa_nil))) (pa_cons (pe_callB call_isX (by rfl) T.n_isinstance (by decide +kernel) (pa_cons (pv 0) (pa_cons (pe_glob (v := .ref A.InvalidChange) rfl T.e_InvalidChange.g rfl) pa_nil))) pa_nil)))))
      (pss_cons (ps_set (i := 1) sc_law_marks.nd rfl (Or.inl rfl) (pe_op op_cat (pv 1) (pe_lst (pa_cons (pe_callB call_isX (by rfl) T.n_isinstance (by decide +kernel) (pa_cons (pv 0) (pa_cons (pe_glob (v := .ref A.InvalidOrder) rfl T.e_InvalidOrder.g rfl) pa_nil))) (pa_cons (pe_callB call_isX (by rfl) T.n_isinstance (by decide +kernel) (pa_cons (pv 0) (pa_cons (pe_glob (v := .ref A.NoStory) rfl T.e_NoStory.g rfl) pa_nil))) (pa_cons (pe_callB call_isX (by rfl) T.n_isinstance (by decide +kernel) (pa_cons (pv 0) (pa_cons (pe_glob (v := .ref A.NotInBook) rfl T.e_NotInBook.g rfl) pa_nil))) pa_nil))))))
      (pss_cons (ps_set (i := 1) sc_law_marks.nd rfl (Or.inl rfl) (pe_op op_cat (pv 1) (pe_lst (pa_cons (pe_callB call_isX (by rfl) T.n_isinstance (by decide +kernel) (pa_cons (pv 0) (pa_cons (pe_glob (v := .ref A.Down) rfl T.e_Down.g rfl) pa_nil))) (pa_cons (pe_callB call_isX (by rfl) T.n_isinstance (by decide +kernel) (pa_cons (pv 0) (pa_cons (pe_glob (v := .ref A.NotDown) rfl T.e_NotDown.g rfl) pa_nil))) (pa_cons (pe_callB call_isX (by rfl) T.n_isinstance (by decide +kernel) (pa_cons (pv 0) (pa_cons (pe_glob (v := .ref A.NothingToUndo) rfl T.e_NothingToUndo.g rfl) pa_nil))) pa_nil))))))
      (pss_one (ps_ret (pe_op op_cat (pv 1) (pe_lst (pa_cons (pe_callB call_isX (by rfl) T.n_isinstance (by decide +kernel) (pa_cons (pv 0) (pa_cons (pe_glob (v := .ref A.NothingToRedo) rfl T.e_NothingToRedo.g rfl) pa_nil))) pa_nil)))))))))))))), ?_⟩
    have hC := T.base hi
    have hk := T.kit hi
    refine ⟨_, rfl, e, C, _, _, _, rfl, ErrT.ex (by walk_at "ex") hE, hC.1, ClsV.own _, hk 0 _ rfl, _, rfl, e, C, _, _, _, rfl, ErrT.ex (by walk_at "ex") hE, hC.1, ClsV.own _, hk 1 _ rfl, _, rfl, e, C, _, _, _, rfl, ErrT.ex (by walk_at "ex") hE, hC.1, ClsV.own _, hk 2 _ rfl, (by show 3 ≤ sizeLine; decide), fun q0 hq0 => ?_⟩
    refine ⟨_, rfl, _, rfl, e, C, _, _, _, rfl, ErrT.ex (by walk_at "ex") hE, hC.1, ClsV.own _, hk 3 _ rfl, _, rfl, e, C, _, _, _, rfl, ErrT.ex (by walk_at "ex") hE, hC.1, ClsV.own _, hk 4 _ rfl, _, rfl, e, C, _, _, _, rfl, ErrT.ex (by walk_at "ex") hE, hC.1, ClsV.own _, hk 5 _ rfl, (by show 3 ≤ sizeLine; decide), fun q1 hq1 => ?_⟩
    refine ⟨_, _, _, _, rfl, rfl, (by rw [upd_ne (ne_of_none upd_same hq1)]; exact upd_same), upd_same, (by show 6 ≤ sizeLine; decide), fun p1 hp1 => ?_⟩
    refine ⟨_, rfl, _, rfl, e, C, _, _, _, rfl, ErrT.ex (by walk_at "ex") hE, hC.1, ClsV.own _, hk 6 _ rfl, _, rfl, e, C, _, _, _, rfl, ErrT.ex (by walk_at "ex") hE, hC.1, ClsV.own _, hk 7 _ rfl, _, rfl, e, C, _, _, _, rfl, ErrT.ex (by walk_at "ex") hE, hC.1, ClsV.own _, hk 8 _ rfl, (by show 3 ≤ sizeLine; decide), fun q2 hq2 => ?_⟩
    refine ⟨_, _, _, _, rfl, rfl, (by rw [upd_ne (ne_of_none upd_same hq2)]; exact upd_same), upd_same, (by show 9 ≤ sizeLine; decide), fun p2 hp2 => ?_⟩
    refine ⟨_, rfl, _, rfl, e, C, _, _, _, rfl, ErrT.ex (by walk_at "ex") hE, hC.1, ClsV.own _, hk 9 _ rfl, _, rfl, e, C, _, _, _, rfl, ErrT.ex (by walk_at "ex") hE, hC.1, ClsV.own _, hk 10 _ rfl, (by show 2 ≤ sizeLine; decide), fun q3 hq3 => ?_⟩
    refine ⟨_, _, _, _, rfl, rfl, (by rw [upd_ne (ne_of_none upd_same hq3)]; exact upd_same), upd_same, (by show 11 ≤ sizeLine; decide), fun p3 hp3 => ?_⟩
    refine ⟨_, rfl, _, rfl, e, C, _, _, _, rfl, ErrT.ex (by walk_at "ex") hE, hC.1, ClsV.own _, hk 11 _ rfl, _, rfl, e, C, _, _, _, rfl, ErrT.ex (by walk_at "ex") hE, hC.1, ClsV.own _, hk 12 _ rfl, _, rfl, e, C, _, _, _, rfl, ErrT.ex (by walk_at "ex") hE, hC.1, ClsV.own _, hk 13 _ rfl, (by show 3 ≤ sizeLine; decide), fun q4 hq4 => ?_⟩
    refine ⟨_, _, _, _, rfl, rfl, (by rw [upd_ne (ne_of_none upd_same hq4)]; exact upd_same), upd_same, (by show 14 ≤ sizeLine; decide), fun p4 hp4 => ?_⟩
    refine ⟨_, rfl, _, rfl, e, C, _, _, _, rfl, ErrT.ex (by walk_at "ex") hE, hC.1, ClsV.own _, hk 14 _ rfl, _, rfl, e, C, _, _, _, rfl, ErrT.ex (by walk_at "ex") hE, hC.1, ClsV.own _, hk 15 _ rfl, (by show 2 ≤ sizeLine; decide), fun q5 hq5 => ?_⟩
    refine ⟨_, _, _, _, rfl, rfl, (by rw [upd_ne (ne_of_none upd_same hq5)]; exact upd_same), upd_same, (by show 16 ≤ sizeLine; decide), fun p5 hp5 => ?_⟩
    refine ⟨_, rfl, _, rfl, e, C, _, _, _, rfl, ErrT.ex (by walk_at "ex") hE, hC.1, ClsV.own _, hk 16 _ rfl, _, rfl, e, C, _, _, _, rfl, ErrT.ex (by walk_at "ex") hE, hC.1, ClsV.own _, hk 17 _ rfl, (by show 2 ≤ sizeLine; decide), fun q6 hq6 => ?_⟩
    refine ⟨_, _, _, _, rfl, rfl, (by rw [upd_ne (ne_of_none upd_same hq6)]; exact upd_same), upd_same, (by show 18 ≤ sizeLine; decide), fun p6 hp6 => ?_⟩
    refine ⟨_, rfl, _, rfl, e, C, _, _, _, rfl, ErrT.ex (by walk_at "ex") hE, hC.1, ClsV.own _, hk 18 _ rfl, _, rfl, e, C, _, _, _, rfl, ErrT.ex (by walk_at "ex") hE, hC.1, ClsV.own _, hk 19 _ rfl, _, rfl, e, C, _, _, _, rfl, ErrT.ex (by walk_at "ex") hE, hC.1, ClsV.own _, hk 20 _ rfl, (by show 3 ≤ sizeLine; decide), fun q7 hq7 => ?_⟩
    refine ⟨_, _, _, _, rfl, rfl, (by rw [upd_ne (ne_of_none upd_same hq7)]; exact upd_same), upd_same, (by show 21 ≤ sizeLine; decide), fun p7 hp7 => ?_⟩
    refine ⟨_, rfl, _, rfl, e, C, _, _, _, rfl, ErrT.ex (by walk_at "ex") hE, hC.1, ClsV.own _, hk 21 _ rfl, _, rfl, e, C, _, _, _, rfl, ErrT.ex (by walk_at "ex") hE, hC.1, ClsV.own _, hk 22 _ rfl, _, rfl, e, C, _, _, _, rfl, ErrT.ex (by walk_at "ex") hE, hC.1, ClsV.own _, hk 23 _ rfl, (by show 3 ≤ sizeLine; decide), fun q8 hq8 => ?_⟩
    refine ⟨_, _, _, _, rfl, rfl, (by rw [upd_ne (ne_of_none upd_same hq8)]; exact upd_same), upd_same, (by show 24 ≤ sizeLine; decide), fun p8 hp8 => ?_⟩
    refine ⟨_, rfl, _, rfl, e, C, _, _, _, rfl, ErrT.ex (by walk_at "ex") hE, hC.1, ClsV.own _, hk 24 _ rfl, (by show 1 ≤ sizeLine; decide), fun q9 hq9 => ?_⟩
    refine ⟨_, _, _, _, rfl, rfl, (by rw [upd_ne (ne_of_none upd_same hq9)]; exact upd_same), upd_same, (by show 25 ≤ sizeLine; decide), fun p9 hp9 => ?_⟩
    exact k _ _ (fresh_back (H' := _) (by walk_at "ex") hp9) (by walk_at "ex") upd_same

end

section
variable {P : Program} {w : World} {K : PySem.W.Frag} {mg : Str → Option Value} {base : Heap} {A : Ad}
theorem errN {H : Hp} {a C : Addr} (h : H a = none) : ErrT (upd H a (ExO (.ref C) a)) a C := Or.inl upd_same
theorem made0 {H : Hp} {a : Addr} {xs : List V} (h : H a = none) : upd H a (.lst xs) a = some (.lst xs) := upd_same

theorem ok_law_errors_apart (T : Txt K mg A) (g_InvalidSize : Okd P w K mg base CX0 1 A.i_InvalidSize P_InvalidSize (spInit A.InvalidSize "size")) (g_InvalidImage : Okd P w K mg base CX0 1 A.i_InvalidImage P_InvalidImage (spInit A.InvalidImage "record")) (g_NotState : Okd P w K mg base CX0 1 A.i_NotState P_NotState (spInit A.NotState "record")) (g_Unrepairable : Okd P w K mg base CX0 2 A.i_Unrepairable P_Unrepairable (spInitL A.Unrepairable "group")) (g_InvalidRecord : Okd P w K mg base CX0 1 A.i_InvalidRecord P_InvalidRecord (spInit A.InvalidRecord "record")) (g_Busy : Okd P w K mg base CX0 1 A.i_Busy P_Busy (spInit A.Busy "record")) (g_Written : Okd P w K mg base CX0 1 A.i_Written P_Written (spInit A.Written "record")) (g_NotReady : Okd P w K mg base CX0 1 A.i_NotReady P_NotReady (spInit A.NotReady "record")) (g_InvalidNumber : Okd P w K mg base CX0 1 A.i_InvalidNumber P_InvalidNumber (spInit A.InvalidNumber "value")) (g_InvalidRules : Okd P w K mg base CX0 1 A.i_InvalidRules P_InvalidRules (spInit A.InvalidRules "name")) (g_InvalidStore : Okd P w K mg base CX0 1 A.i_InvalidStore P_InvalidStore (spInit A.InvalidStore "at")) (g_Ambiguous : Okd P w K mg base CX0 2 A.i_Ambiguous P_Ambiguous (spInitL A.Ambiguous "numbers")) (g_NoWriter : Okd P w K mg base CX0 1 A.i_NoWriter P_NoWriter (spInit A.NoWriter "writer")) (g_Unsafe : Okd P w K mg base CX0 1 A.i_Unsafe P_Unsafe (spInit A.Unsafe "refused")) (g_law_marks : Okd P w K mg base CX0 1 A.law_marks P_law_marks (spMarks K A)) : Okd P w K mg base CX0 4 A.law_errors_apart P_law_errors_apart spErr := by
  obtain ⟨fd, F⟩ := T.d_law_errors_apart
  obtain ⟨fd_InvalidSize, G_InvalidSize, b_InvalidSize⟩ := g_InvalidSize
  obtain ⟨fd_InvalidImage, G_InvalidImage, b_InvalidImage⟩ := g_InvalidImage
  obtain ⟨fd_NotState, G_NotState, b_NotState⟩ := g_NotState
  obtain ⟨fd_Unrepairable, G_Unrepairable, b_Unrepairable⟩ := g_Unrepairable
  obtain ⟨fd_InvalidRecord, G_InvalidRecord, b_InvalidRecord⟩ := g_InvalidRecord
  obtain ⟨fd_Busy, G_Busy, b_Busy⟩ := g_Busy
  obtain ⟨fd_Written, G_Written, b_Written⟩ := g_Written
  obtain ⟨fd_NotReady, G_NotReady, b_NotReady⟩ := g_NotReady
  obtain ⟨fd_InvalidNumber, G_InvalidNumber, b_InvalidNumber⟩ := g_InvalidNumber
  obtain ⟨fd_InvalidRules, G_InvalidRules, b_InvalidRules⟩ := g_InvalidRules
  obtain ⟨fd_InvalidStore, G_InvalidStore, b_InvalidStore⟩ := g_InvalidStore
  obtain ⟨fd_Ambiguous, G_Ambiguous, b_Ambiguous⟩ := g_Ambiguous
  obtain ⟨fd_NoWriter, G_NoWriter, b_NoWriter⟩ := g_NoWriter
  obtain ⟨fd_Unsafe, G_Unsafe, b_Unsafe⟩ := g_Unsafe
  obtain ⟨fd_law_marks, G_law_marks, b_law_marks⟩ := g_law_marks
  refine ⟨fd, F.ok sc_law_errors_apart (fun vs H Q E h => ?_) (fun cdv A' outer s H vs Q E hr h => ?_), F.binds fun _ _ _ _ _ _ us hl => match us, hl with | [_], _ => rfl⟩
  · obtain ⟨n, rfl, _⟩ := h
    rfl
  · obtain ⟨n, rfl, k⟩ := h
    refine ⟨_, (pss_cons (ps_set (i := 1) sc_law_errors_apart.nd rfl (Or.inl rfl) (pe_lst (pa_cons (pe_oexV T.e_InvalidSize.oex T.f_InvalidSize.i T.f_InvalidSize.t G_InvalidSize (hr.mono (by decide)) b_InvalidSize pass0 rfl T.e_InvalidSize.g (pa_cons (pv 0) pa_nil)) (pa_cons (pe_oexV T.e_InvalidImage.oex T.f_InvalidImage.i T.f_InvalidImage.t G_InvalidImage (hr.mono (by decide)) b_InvalidImage pass0 rfl T.e_InvalidImage.g (pa_cons (pv 0) pa_nil)) (pa_cons (pe_oexV T.e_NotState.oex T.f_NotState.i T.f_NotState.t G_NotState (hr.mono (by decide)) b_NotState pass0 rfl T.e_NotState.g (pa_cons (pv 0) pa_nil)) (pa_cons (pe_oexV T.e_Unrepairable.oex T.f_Unrepairable.i T.f_Unrepairable.t G_Unrepairable (hr.mono (by decide)) b_Unrepairable pass0 rfl T.e_Unrepairable.g (pa_cons (pe_lst (pa_cons (pv 0) pa_nil)) pa_nil)) pa_nil))))))
      (pss_cons (ps_set (i := 1) sc_law_errors_apart.nd rfl (Or.inl rfl) (pe_op op_cat (pv 1) (pe_lst (pa_cons (pe_oexV T.e_InvalidRecord.oex T.f_InvalidRecord.i T.f_InvalidRecord.t G_InvalidRecord (hr.mono (by decide)) b_InvalidRecord pass0 rfl T.e_InvalidRecord.g (pa_cons (pv 0) pa_nil)) (pa_cons (pe_oexV T.e_Busy.oex T.f_Busy.i T.f_Busy.t G_Busy (hr.mono (by decide)) b_Busy pass0 rfl T.e_Busy.g (pa_cons (pv 0) pa_nil)) (pa_cons (pe_oexV T.e_Written.oex T.f_Written.i T.f_Written.t G_Written (hr.mono (by decide)) b_Written pass0 rfl T.e_Written.g (pa_cons (pv 0) pa_nil)) (pa_cons (pe_oexV T.e_NotReady.oex T.f_NotReady.i T.f_NotReady.t G_NotReady (hr.mono (by decide)) b_NotReady pass0 rfl T.e_NotReady.g (pa_cons (pv 0) pa_nil)) (pa_cons (pe_oexV T.e_InvalidNumber.oex T.f_InvalidNumber.i T.f_InvalidNumber.t G_InvalidNumber (hr.mono (by decide)) b_InvalidNumber pass0 rfl T.e_InvalidNumber.g (pa_cons (pv 0) pa_nil)) pa_nil))))))))
      (pss_cons (ps_set (i := 1) sc_law_errors_apart.nd rfl (Or.inl rfl) (pe_op op_cat (pv 1) (pe_lst (pa_cons (pe_oexV T.e_InvalidRules.oex T.f_InvalidRules.i T.f_InvalidRules.t G_InvalidRules (hr.mono (by decide)) b_InvalidRules pass0 rfl T.e_InvalidRules.g (pa_cons pe_str pa_nil)) (pa_cons (pe_oexV T.e_InvalidStore.oex T.f_InvalidStore.i T.f_InvalidStore.t G_InvalidStore (hr.mono (by decide)) b_InvalidStore pass0 rfl T.e_InvalidStore.g (pa_cons (pv 0) pa_nil)) (pa_cons (pe_oexV T.e_Ambiguous.oex T.f_Ambiguous.i T.f_Ambiguous.t G_Ambiguous (hr.mono (by decide)) b_Ambiguous pass0 rfl T.e_Ambiguous.g (pa_cons (pe_lst (pa_cons (pv 0) (pa_cons (pe_op op_add (pv 0) pe_int) pa_nil))) pa_nil)) (pa_cons (pe_oexV T.e_NoWriter.oex T.f_NoWriter.i T.f_NoWriter.t G_NoWriter (hr.mono (by decide)) b_NoWriter pass0 rfl T.e_NoWriter.g (pa_cons (pv 0) pa_nil)) pa_nil)))))))
      (pss_cons (ps_set (i := 1) sc_law_errors_apart.nd rfl (Or.inl rfl) (pe_op op_cat (pv 1) (pe_lst (pa_cons (pe_oexV T.e_Unsafe.oex T.f_Unsafe.i T.f_Unsafe.t G_Unsafe (hr.mono (by decide)) b_Unsafe pass0 rfl T.e_Unsafe.g (pa_cons (pe_tup (pa_cons (pe_tup (pa_cons pe_str (pa_cons pe_int (pa_cons pe_int pa_nil)))) pa_nil)) pa_nil)) (pa_cons (pe_exc0 PySem.F.excBase_ValueError T.q_UnequalSizes T.e_UnequalSizes.g T.e_UnequalSizes.k rfl) (pa_cons (pe_exc0 PySem.F.excBase_ValueError T.q_InvalidUpdate T.e_InvalidUpdate.g T.e_InvalidUpdate.k rfl) (pa_cons (pe_exc0 PySem.F.excBase_ValueError T.q_InvalidKind T.e_InvalidKind.g T.e_InvalidKind.k rfl) pa_nil)))))))
      (pss_cons (ps_set (i := 1) sc_law_errors_apart.nd rfl (Or.inl rfl) (pe_op op_cat (pv 1) (pe_lst (pa_cons (pe_exc0 PySem.F.excBase_ValueError T.q_InvalidChange T.e_InvalidChange.g T.e_InvalidChange.k rfl) (pa_cons (pe_exc0 PySem.F.excBase_ValueError T.q_InvalidOrder T.e_InvalidOrder.g T.e_InvalidOrder.k rfl) (pa_cons (pe_exc0 PySem.F.excBase_ValueError T.q_NoStory T.e_NoStory.g T.e_NoStory.k rfl) (pa_cons (pe_exc0 PySem.F.excBase_ValueError T.q_NotInBook T.e_NotInBook.g T.e_NotInBook.k rfl) (pa_cons (pe_exc0 PySem.F.excBase_ValueError T.q_Down T.e_Down.g T.e_Down.k rfl) (pa_cons (pe_exc0 PySem.F.excBase_ValueError T.q_NotDown T.e_NotDown.g T.e_NotDown.k rfl) pa_nil)))))))))
      (pss_cons (ps_set (i := 1) sc_law_errors_apart.nd rfl (Or.inl rfl) (pe_op op_cat (pv 1) (pe_lst (pa_cons (pe_exc0 PySem.F.excBase_ValueError T.q_NothingToUndo T.e_NothingToUndo.g T.e_NothingToUndo.k rfl) (pa_cons (pe_exc0 PySem.F.excBase_ValueError T.q_NothingToRedo T.e_NothingToRedo.g T.e_NothingToRedo.k rfl) pa_nil)))))
      (pss_cons (ps_for PassesOwn.never rfl (pi_range1 (by rfl) T.n_range (pa_cons pe_int pa_nil)) (pg_name (i := 2) sc_law_errors_apart.nd rfl (Or.inl rfl)) (pss_cons (ps_if (PW.pt (pw_or (pt_not (pt_val (pe_callB call_isX (by rfl) T.n_isinstance (by decide +kernel) (pa_cons (pe_ix ix_list (pv 1) (pv 2) (fun _ _ => rfl)) (pa_cons (pe_glob (v := .ref A.MendError) rfl T.e_MendError.g rfl) pa_nil))))) (pw_or1 (pt_not (pt_val (pe_callB call_isX (by rfl) T.n_isinstance (by decide +kernel) (pa_cons (pe_ix ix_list (pv 1) (pv 2) (fun _ _ => rfl)) (pa_cons (pe_bltn (v := .ty "ValueError") (u := .type "ValueError") (by rfl) T.n_ValueError (by decide +kernel) rfl) pa_nil)))))))) (pss_one (ps_ret pe_bl)) pss_nil)
      (pss_cons (ps_set (i := 3) sc_law_errors_apart.nd rfl (Or.inl rfl) (pe_call G_law_marks (hr.mono (by decide)) (by rfl) T.g_law_marks T.k_law_marks b_law_marks .nil pass0 (pa_cons (pe_ix ix_list (pv 1) (pv 2) (fun _ _ => rfl)) pa_nil)))
      (pss_one (ps_for PassesOwn.never rfl (pi_range1 (by rfl) T.n_range (pa_cons pe_int pa_nil)) (pg_name (i := 4) sc_law_errors_apart.nd rfl (Or.inl rfl)) (pss_one (ps_if (pt_cmpR op_ne (pe_ix ix_list (pv 3) (pv 4) (fun _ _ => rfl)) (pe_cmpR op_eq (pv 4) (pv 2) (nomark _)) (nomark _)) (pss_one (ps_ret pe_bl)) pss_nil)))))))
      (pss_one (ps_ret pe_bl))))))))), ?_⟩
    have X : Ex H H := Ex.refl H
    refine ⟨_, rfl, (by show 1 ≤ 1000; decide), fun a0 fr0 => ⟨a0, _, rfl, upd_same, fun dx0 hdx0 ne0 => ⟨rfl, ?_⟩⟩⟩
    obtain ⟨x0, u0, w0⟩ := mkV_facts (f := "size") fr0 hdx0 ne0
    generalize L2.upd (L2.upd (L2.upd _ a0 _) dx0 _) a0 _ = G0 at *
    have X := X.trans (x0)
    have E0 : ErrT G0 a0 A.InvalidSize := Or.inr ⟨dx0, _, u0, w0⟩
    refine ⟨_, rfl, (by show 1 ≤ 1000; decide), fun a1 fr1 => ⟨a1, _, rfl, upd_same, fun dx1 hdx1 ne1 => ⟨rfl, ?_⟩⟩⟩
    obtain ⟨x1, u1, w1⟩ := mkV_facts (f := "record") fr1 hdx1 ne1
    generalize L2.upd (L2.upd (L2.upd _ a1 _) dx1 _) a1 _ = G1 at *
    have X := X.trans (x1)
    have E0 := ErrT.ex (x1) E0
    have E1 : ErrT G1 a1 A.InvalidImage := Or.inr ⟨dx1, _, u1, w1⟩
    refine ⟨_, rfl, (by show 1 ≤ 1000; decide), fun a2 fr2 => ⟨a2, _, rfl, upd_same, fun dx2 hdx2 ne2 => ⟨rfl, ?_⟩⟩⟩
    obtain ⟨x2, u2, w2⟩ := mkV_facts (f := "record") fr2 hdx2 ne2
    generalize L2.upd (L2.upd (L2.upd _ a2 _) dx2 _) a2 _ = G2 at *
    have X := X.trans (x2)
    have E0 := ErrT.ex (x2) E0
    have E1 := ErrT.ex (x2) E1
    have E2 : ErrT G2 a2 A.NotState := Or.inr ⟨dx2, _, u2, w2⟩
    refine ⟨_, rfl, (by show 1 ≤ sizeLine; decide), fun l3 hl3 => ⟨(by show 1 ≤ 1000; decide), fun a3 fr3 => ⟨a3, l3, _, rfl, upd_same, (by rw [upd_ne (ne_of_none upd_same fr3)]; exact upd_same), fun p3 dx3 hp3 hdx3 ne3 => ⟨rfl, ?_⟩⟩⟩⟩
    obtain ⟨x3, u3, w3, v3⟩ := mkL_facts (f := "group") upd_same fr3 hp3 hdx3 ne3
    generalize L2.upd (L2.upd (L2.upd (L2.upd _ a3 _) p3 _) dx3 _) a3 _ = G3 at *
    have X := X.trans ((Ex.new hl3).trans x3)
    have E0 := ErrT.ex ((Ex.new hl3).trans x3) E0
    have E1 := ErrT.ex ((Ex.new hl3).trans x3) E1
    have E2 := ErrT.ex ((Ex.new hl3).trans x3) E2
    have E3 : ErrT G3 a3 A.Unrepairable := Or.inr ⟨dx3, _, u3, w3⟩
    refine ⟨(by show 4 ≤ sizeLine; decide), fun q0 hq0 => ?_⟩
    have y0 := Ex.new (o := .lst [V.ref a0, V.ref a1, V.ref a2, V.ref a3]) hq0
    have X := X.trans (y0)
    have E0 := ErrT.ex (y0) E0
    have E1 := ErrT.ex (y0) E1
    have E2 := ErrT.ex (y0) E2
    have E3 := ErrT.ex (y0) E3
    have hf0 : ∀ (j : Nat) (e C : Addr), ([a0, a1, a2, a3] : List Addr)[j]? = some e → (cls A)[0 + j]? = some C → ErrT (L2.upd G3 q0 (.lst [V.ref a0, V.ref a1, V.ref a2, V.ref a3])) e C := by
      intro j e C h1 h2
      match j, e, C, h1, h2 with
      | 0, _, _, h1, h2 => exact Option.some.inj h1 ▸ Option.some.inj h2 ▸ E0
      | 1, _, _, h1, h2 => exact Option.some.inj h1 ▸ Option.some.inj h2 ▸ E1
      | 2, _, _, h1, h2 => exact Option.some.inj h1 ▸ Option.some.inj h2 ▸ E2
      | 3, _, _, h1, h2 => exact Option.some.inj h1 ▸ Option.some.inj h2 ▸ E3
      | j + 4, _, _, h1, _ => exact nomatch h1
    have hM : Made A _ q0 4 := ⟨[a0, a1, a2, a3], upd_same, rfl, by simpa using hf0⟩
    have hm := made0 (xs := [V.ref a0, V.ref a1, V.ref a2, V.ref a3]) hq0
    refine ⟨_, rfl, ?_⟩
    refine ⟨_, rfl, (by show 1 ≤ 1000; decide), fun a4 fr4 => ⟨a4, _, rfl, upd_same, fun dx4 hdx4 ne4 => ⟨rfl, ?_⟩⟩⟩
    obtain ⟨x4, u4, w4⟩ := mkV_facts (f := "record") fr4 hdx4 ne4
    generalize L2.upd (L2.upd (L2.upd _ a4 _) dx4 _) a4 _ = G4 at *
    have X := X.trans (x4)
    have hM := Made.ex (x4) hM
    have hm := (x4) _ _ hm
    have E4 : ErrT G4 a4 A.InvalidRecord := Or.inr ⟨dx4, _, u4, w4⟩
    refine ⟨_, rfl, (by show 1 ≤ 1000; decide), fun a5 fr5 => ⟨a5, _, rfl, upd_same, fun dx5 hdx5 ne5 => ⟨rfl, ?_⟩⟩⟩
    obtain ⟨x5, u5, w5⟩ := mkV_facts (f := "record") fr5 hdx5 ne5
    generalize L2.upd (L2.upd (L2.upd _ a5 _) dx5 _) a5 _ = G5 at *
    have X := X.trans (x5)
    have E4 := ErrT.ex (x5) E4
    have hM := Made.ex (x5) hM
    have hm := (x5) _ _ hm
    have E5 : ErrT G5 a5 A.Busy := Or.inr ⟨dx5, _, u5, w5⟩
    refine ⟨_, rfl, (by show 1 ≤ 1000; decide), fun a6 fr6 => ⟨a6, _, rfl, upd_same, fun dx6 hdx6 ne6 => ⟨rfl, ?_⟩⟩⟩
    obtain ⟨x6, u6, w6⟩ := mkV_facts (f := "record") fr6 hdx6 ne6
    generalize L2.upd (L2.upd (L2.upd _ a6 _) dx6 _) a6 _ = G6 at *
    have X := X.trans (x6)
    have E4 := ErrT.ex (x6) E4
    have E5 := ErrT.ex (x6) E5
    have hM := Made.ex (x6) hM
    have hm := (x6) _ _ hm
    have E6 : ErrT G6 a6 A.Written := Or.inr ⟨dx6, _, u6, w6⟩
    refine ⟨_, rfl, (by show 1 ≤ 1000; decide), fun a7 fr7 => ⟨a7, _, rfl, upd_same, fun dx7 hdx7 ne7 => ⟨rfl, ?_⟩⟩⟩
    obtain ⟨x7, u7, w7⟩ := mkV_facts (f := "record") fr7 hdx7 ne7
    generalize L2.upd (L2.upd (L2.upd _ a7 _) dx7 _) a7 _ = G7 at *
    have X := X.trans (x7)
    have E4 := ErrT.ex (x7) E4
    have E5 := ErrT.ex (x7) E5
    have E6 := ErrT.ex (x7) E6
    have hM := Made.ex (x7) hM
    have hm := (x7) _ _ hm
    have E7 : ErrT G7 a7 A.NotReady := Or.inr ⟨dx7, _, u7, w7⟩
    refine ⟨_, rfl, (by show 1 ≤ 1000; decide), fun a8 fr8 => ⟨a8, _, rfl, upd_same, fun dx8 hdx8 ne8 => ⟨rfl, ?_⟩⟩⟩
    obtain ⟨x8, u8, w8⟩ := mkV_facts (f := "value") fr8 hdx8 ne8
    generalize L2.upd (L2.upd (L2.upd _ a8 _) dx8 _) a8 _ = G8 at *
    have X := X.trans (x8)
    have E4 := ErrT.ex (x8) E4
    have E5 := ErrT.ex (x8) E5
    have E6 := ErrT.ex (x8) E6
    have E7 := ErrT.ex (x8) E7
    have hM := Made.ex (x8) hM
    have hm := (x8) _ _ hm
    have E8 : ErrT G8 a8 A.InvalidNumber := Or.inr ⟨dx8, _, u8, w8⟩
    refine ⟨(by show 5 ≤ sizeLine; decide), fun q1 hq1 => ?_⟩
    have y1 := Ex.new (o := .lst [V.ref a4, V.ref a5, V.ref a6, V.ref a7, V.ref a8]) hq1
    have X := X.trans (y1)
    have E4 := ErrT.ex (y1) E4
    have E5 := ErrT.ex (y1) E5
    have E6 := ErrT.ex (y1) E6
    have E7 := ErrT.ex (y1) E7
    have E8 := ErrT.ex (y1) E8
    have hf1 : ∀ (j : Nat) (e C : Addr), ([a4, a5, a6, a7, a8] : List Addr)[j]? = some e → (cls A)[4 + j]? = some C → ErrT (L2.upd G8 q1 (.lst [V.ref a4, V.ref a5, V.ref a6, V.ref a7, V.ref a8])) e C := by
      intro j e C h1 h2
      match j, e, C, h1, h2 with
      | 0, _, _, h1, h2 => exact Option.some.inj h1 ▸ Option.some.inj h2 ▸ E4
      | 1, _, _, h1, h2 => exact Option.some.inj h1 ▸ Option.some.inj h2 ▸ E5
      | 2, _, _, h1, h2 => exact Option.some.inj h1 ▸ Option.some.inj h2 ▸ E6
      | 3, _, _, h1, h2 => exact Option.some.inj h1 ▸ Option.some.inj h2 ▸ E7
      | 4, _, _, h1, h2 => exact Option.some.inj h1 ▸ Option.some.inj h2 ▸ E8
      | j + 5, _, _, h1, _ => exact nomatch h1
    have hM := Made.ex y1 hM
    have hm := y1 _ _ hm
    refine ⟨_, _, _, _, rfl, rfl, hm, upd_same, (by show 9 ≤ sizeLine; decide), fun p1 hp1 => ?_⟩
    have hM := Made.more hM hm hp1 hf1
    have X := X.trans (Ex.new (o := .lst ([V.ref a0, V.ref a1, V.ref a2, V.ref a3] ++ [V.ref a4, V.ref a5, V.ref a6, V.ref a7, V.ref a8])) hp1)
    have hm := made0 (xs := ([V.ref a0, V.ref a1, V.ref a2, V.ref a3] ++ [V.ref a4, V.ref a5, V.ref a6, V.ref a7, V.ref a8])) hp1
    refine ⟨_, rfl, ?_⟩
    refine ⟨(by show 1 ≤ 1000; decide), fun a9 fr9 => ⟨a9, _, rfl, upd_same, fun dx9 hdx9 ne9 => ⟨rfl, ?_⟩⟩⟩
    obtain ⟨x9, u9, w9⟩ := mkV_facts (f := "name") fr9 hdx9 ne9
    generalize L2.upd (L2.upd (L2.upd _ a9 _) dx9 _) a9 _ = G9 at *
    have X := X.trans (x9)
    have hM := Made.ex (x9) hM
    have hm := (x9) _ _ hm
    have E9 : ErrT G9 a9 A.InvalidRules := Or.inr ⟨dx9, _, u9, w9⟩
    refine ⟨_, rfl, (by show 1 ≤ 1000; decide), fun a10 fr10 => ⟨a10, _, rfl, upd_same, fun dx10 hdx10 ne10 => ⟨rfl, ?_⟩⟩⟩
    obtain ⟨x10, u10, w10⟩ := mkV_facts (f := "at") fr10 hdx10 ne10
    generalize L2.upd (L2.upd (L2.upd _ a10 _) dx10 _) a10 _ = G10 at *
    have X := X.trans (x10)
    have E9 := ErrT.ex (x10) E9
    have hM := Made.ex (x10) hM
    have hm := (x10) _ _ hm
    have E10 : ErrT G10 a10 A.InvalidStore := Or.inr ⟨dx10, _, u10, w10⟩
    refine ⟨_, rfl, _, rfl, _, _, rfl, rfl, (by show 2 ≤ sizeLine; decide), fun l11 hl11 => ⟨(by show 1 ≤ 1000; decide), fun a11 fr11 => ⟨a11, l11, _, rfl, upd_same, (by rw [upd_ne (ne_of_none upd_same fr11)]; exact upd_same), fun p11 dx11 hp11 hdx11 ne11 => ⟨rfl, ?_⟩⟩⟩⟩
    obtain ⟨x11, u11, w11, v11⟩ := mkL_facts (f := "numbers") upd_same fr11 hp11 hdx11 ne11
    generalize L2.upd (L2.upd (L2.upd (L2.upd _ a11 _) p11 _) dx11 _) a11 _ = G11 at *
    have X := X.trans ((Ex.new hl11).trans x11)
    have E9 := ErrT.ex ((Ex.new hl11).trans x11) E9
    have E10 := ErrT.ex ((Ex.new hl11).trans x11) E10
    have hM := Made.ex ((Ex.new hl11).trans x11) hM
    have hm := ((Ex.new hl11).trans x11) _ _ hm
    have E11 : ErrT G11 a11 A.Ambiguous := Or.inr ⟨dx11, _, u11, w11⟩
    refine ⟨_, rfl, (by show 1 ≤ 1000; decide), fun a12 fr12 => ⟨a12, _, rfl, upd_same, fun dx12 hdx12 ne12 => ⟨rfl, ?_⟩⟩⟩
    obtain ⟨x12, u12, w12⟩ := mkV_facts (f := "writer") fr12 hdx12 ne12
    generalize L2.upd (L2.upd (L2.upd _ a12 _) dx12 _) a12 _ = G12 at *
    have X := X.trans (x12)
    have E9 := ErrT.ex (x12) E9
    have E10 := ErrT.ex (x12) E10
    have E11 := ErrT.ex (x12) E11
    have hM := Made.ex (x12) hM
    have hm := (x12) _ _ hm
    have E12 : ErrT G12 a12 A.NoWriter := Or.inr ⟨dx12, _, u12, w12⟩
    refine ⟨(by show 4 ≤ sizeLine; decide), fun q2 hq2 => ?_⟩
    have y2 := Ex.new (o := .lst [V.ref a9, V.ref a10, V.ref a11, V.ref a12]) hq2
    have X := X.trans (y2)
    have E9 := ErrT.ex (y2) E9
    have E10 := ErrT.ex (y2) E10
    have E11 := ErrT.ex (y2) E11
    have E12 := ErrT.ex (y2) E12
    have hf2 : ∀ (j : Nat) (e C : Addr), ([a9, a10, a11, a12] : List Addr)[j]? = some e → (cls A)[9 + j]? = some C → ErrT (L2.upd G12 q2 (.lst [V.ref a9, V.ref a10, V.ref a11, V.ref a12])) e C := by
      intro j e C h1 h2
      match j, e, C, h1, h2 with
      | 0, _, _, h1, h2 => exact Option.some.inj h1 ▸ Option.some.inj h2 ▸ E9
      | 1, _, _, h1, h2 => exact Option.some.inj h1 ▸ Option.some.inj h2 ▸ E10
      | 2, _, _, h1, h2 => exact Option.some.inj h1 ▸ Option.some.inj h2 ▸ E11
      | 3, _, _, h1, h2 => exact Option.some.inj h1 ▸ Option.some.inj h2 ▸ E12
      | j + 4, _, _, h1, _ => exact nomatch h1
    have hM := Made.ex y2 hM
    have hm := y2 _ _ hm
    refine ⟨_, _, _, _, rfl, rfl, hm, upd_same, (by show 13 ≤ sizeLine; decide), fun p2 hp2 => ?_⟩
    have hM := Made.more hM hm hp2 hf2
    have X := X.trans (Ex.new (o := .lst (([V.ref a0, V.ref a1, V.ref a2, V.ref a3] ++ [V.ref a4, V.ref a5, V.ref a6, V.ref a7, V.ref a8]) ++ [V.ref a9, V.ref a10, V.ref a11, V.ref a12])) hp2)
    have hm := made0 (xs := (([V.ref a0, V.ref a1, V.ref a2, V.ref a3] ++ [V.ref a4, V.ref a5, V.ref a6, V.ref a7, V.ref a8]) ++ [V.ref a9, V.ref a10, V.ref a11, V.ref a12])) hp2
    refine ⟨_, rfl, ?_⟩
    refine ⟨(by show 3 ≤ sizeLine; decide), fun l13 hl13 => ⟨(by show 1 ≤ sizeLine; decide), fun t13 ht13 => ⟨(by show 1 ≤ 1000; decide), fun a13 fr13 => ⟨a13, _, rfl, upd_same, fun dx13 hdx13 ne13 => ⟨rfl, ?_⟩⟩⟩⟩⟩
    obtain ⟨x13, u13, w13⟩ := mkV_facts (f := "refused") fr13 hdx13 ne13
    generalize L2.upd (L2.upd (L2.upd _ a13 _) dx13 _) a13 _ = G13 at *
    have X := X.trans (((Ex.new hl13).trans (Ex.new ht13)).trans x13)
    have hM := Made.ex (((Ex.new hl13).trans (Ex.new ht13)).trans x13) hM
    have hm := (((Ex.new hl13).trans (Ex.new ht13)).trans x13) _ _ hm
    have E13 : ErrT G13 a13 A.Unsafe := Or.inr ⟨dx13, _, u13, w13⟩
    refine fun a14 fr14 => ?_
    have x14 := Ex.new (o := ExO (.ref A.UnequalSizes) a14) fr14
    have X := X.trans (x14)
    have E13 := ErrT.ex (x14) E13
    have hM := Made.ex (x14) hM
    have hm := (x14) _ _ hm
    have E14 := errN fr14 (C := A.UnequalSizes)
    generalize L2.upd _ a14 _ = G14 at *
    refine fun a15 fr15 => ?_
    have x15 := Ex.new (o := ExO (.ref A.InvalidUpdate) a15) fr15
    have X := X.trans (x15)
    have E13 := ErrT.ex (x15) E13
    have E14 := ErrT.ex (x15) E14
    have hM := Made.ex (x15) hM
    have hm := (x15) _ _ hm
    have E15 := errN fr15 (C := A.InvalidUpdate)
    generalize L2.upd _ a15 _ = G15 at *
    refine fun a16 fr16 => ?_
    have x16 := Ex.new (o := ExO (.ref A.InvalidKind) a16) fr16
    have X := X.trans (x16)
    have E13 := ErrT.ex (x16) E13
    have E14 := ErrT.ex (x16) E14
    have E15 := ErrT.ex (x16) E15
    have hM := Made.ex (x16) hM
    have hm := (x16) _ _ hm
    have E16 := errN fr16 (C := A.InvalidKind)
    generalize L2.upd _ a16 _ = G16 at *
    refine ⟨(by show 4 ≤ sizeLine; decide), fun q3 hq3 => ?_⟩
    have y3 := Ex.new (o := .lst [V.ref a13, V.ref a14, V.ref a15, V.ref a16]) hq3
    have X := X.trans (y3)
    have E13 := ErrT.ex (y3) E13
    have E14 := ErrT.ex (y3) E14
    have E15 := ErrT.ex (y3) E15
    have E16 := ErrT.ex (y3) E16
    have hf3 : ∀ (j : Nat) (e C : Addr), ([a13, a14, a15, a16] : List Addr)[j]? = some e → (cls A)[13 + j]? = some C → ErrT (L2.upd G16 q3 (.lst [V.ref a13, V.ref a14, V.ref a15, V.ref a16])) e C := by
      intro j e C h1 h2
      match j, e, C, h1, h2 with
      | 0, _, _, h1, h2 => exact Option.some.inj h1 ▸ Option.some.inj h2 ▸ E13
      | 1, _, _, h1, h2 => exact Option.some.inj h1 ▸ Option.some.inj h2 ▸ E14
      | 2, _, _, h1, h2 => exact Option.some.inj h1 ▸ Option.some.inj h2 ▸ E15
      | 3, _, _, h1, h2 => exact Option.some.inj h1 ▸ Option.some.inj h2 ▸ E16
      | j + 4, _, _, h1, _ => exact nomatch h1
    have hM := Made.ex y3 hM
    have hm := y3 _ _ hm
    refine ⟨_, _, _, _, rfl, rfl, hm, upd_same, (by show 17 ≤ sizeLine; decide), fun p3 hp3 => ?_⟩
    have hM := Made.more hM hm hp3 hf3
    have X := X.trans (Ex.new (o := .lst ((([V.ref a0, V.ref a1, V.ref a2, V.ref a3] ++ [V.ref a4, V.ref a5, V.ref a6, V.ref a7, V.ref a8]) ++ [V.ref a9, V.ref a10, V.ref a11, V.ref a12]) ++ [V.ref a13, V.ref a14, V.ref a15, V.ref a16])) hp3)
    have hm := made0 (xs := ((([V.ref a0, V.ref a1, V.ref a2, V.ref a3] ++ [V.ref a4, V.ref a5, V.ref a6, V.ref a7, V.ref a8]) ++ [V.ref a9, V.ref a10, V.ref a11, V.ref a12]) ++ [V.ref a13, V.ref a14, V.ref a15, V.ref a16])) hp3
    refine ⟨_, rfl, ?_⟩
    refine fun a17 fr17 => ?_
    have x17 := Ex.new (o := ExO (.ref A.InvalidChange) a17) fr17
    have X := X.trans (x17)
    have hM := Made.ex (x17) hM
    have hm := (x17) _ _ hm
    have E17 := errN fr17 (C := A.InvalidChange)
    generalize L2.upd _ a17 _ = G17 at *
    refine fun a18 fr18 => ?_
    have x18 := Ex.new (o := ExO (.ref A.InvalidOrder) a18) fr18
    have X := X.trans (x18)
    have E17 := ErrT.ex (x18) E17
    have hM := Made.ex (x18) hM
    have hm := (x18) _ _ hm
    have E18 := errN fr18 (C := A.InvalidOrder)
    generalize L2.upd _ a18 _ = G18 at *
    refine fun a19 fr19 => ?_
    have x19 := Ex.new (o := ExO (.ref A.NoStory) a19) fr19
    have X := X.trans (x19)
    have E17 := ErrT.ex (x19) E17
    have E18 := ErrT.ex (x19) E18
    have hM := Made.ex (x19) hM
    have hm := (x19) _ _ hm
    have E19 := errN fr19 (C := A.NoStory)
    generalize L2.upd _ a19 _ = G19 at *
    refine fun a20 fr20 => ?_
    have x20 := Ex.new (o := ExO (.ref A.NotInBook) a20) fr20
    have X := X.trans (x20)
    have E17 := ErrT.ex (x20) E17
    have E18 := ErrT.ex (x20) E18
    have E19 := ErrT.ex (x20) E19
    have hM := Made.ex (x20) hM
    have hm := (x20) _ _ hm
    have E20 := errN fr20 (C := A.NotInBook)
    generalize L2.upd _ a20 _ = G20 at *
    refine fun a21 fr21 => ?_
    have x21 := Ex.new (o := ExO (.ref A.Down) a21) fr21
    have X := X.trans (x21)
    have E17 := ErrT.ex (x21) E17
    have E18 := ErrT.ex (x21) E18
    have E19 := ErrT.ex (x21) E19
    have E20 := ErrT.ex (x21) E20
    have hM := Made.ex (x21) hM
    have hm := (x21) _ _ hm
    have E21 := errN fr21 (C := A.Down)
    generalize L2.upd _ a21 _ = G21 at *
    refine fun a22 fr22 => ?_
    have x22 := Ex.new (o := ExO (.ref A.NotDown) a22) fr22
    have X := X.trans (x22)
    have E17 := ErrT.ex (x22) E17
    have E18 := ErrT.ex (x22) E18
    have E19 := ErrT.ex (x22) E19
    have E20 := ErrT.ex (x22) E20
    have E21 := ErrT.ex (x22) E21
    have hM := Made.ex (x22) hM
    have hm := (x22) _ _ hm
    have E22 := errN fr22 (C := A.NotDown)
    generalize L2.upd _ a22 _ = G22 at *
    refine ⟨(by show 6 ≤ sizeLine; decide), fun q4 hq4 => ?_⟩
    have y4 := Ex.new (o := .lst [V.ref a17, V.ref a18, V.ref a19, V.ref a20, V.ref a21, V.ref a22]) hq4
    have X := X.trans (y4)
    have E17 := ErrT.ex (y4) E17
    have E18 := ErrT.ex (y4) E18
    have E19 := ErrT.ex (y4) E19
    have E20 := ErrT.ex (y4) E20
    have E21 := ErrT.ex (y4) E21
    have E22 := ErrT.ex (y4) E22
    have hf4 : ∀ (j : Nat) (e C : Addr), ([a17, a18, a19, a20, a21, a22] : List Addr)[j]? = some e → (cls A)[17 + j]? = some C → ErrT (L2.upd G22 q4 (.lst [V.ref a17, V.ref a18, V.ref a19, V.ref a20, V.ref a21, V.ref a22])) e C := by
      intro j e C h1 h2
      match j, e, C, h1, h2 with
      | 0, _, _, h1, h2 => exact Option.some.inj h1 ▸ Option.some.inj h2 ▸ E17
      | 1, _, _, h1, h2 => exact Option.some.inj h1 ▸ Option.some.inj h2 ▸ E18
      | 2, _, _, h1, h2 => exact Option.some.inj h1 ▸ Option.some.inj h2 ▸ E19
      | 3, _, _, h1, h2 => exact Option.some.inj h1 ▸ Option.some.inj h2 ▸ E20
      | 4, _, _, h1, h2 => exact Option.some.inj h1 ▸ Option.some.inj h2 ▸ E21
      | 5, _, _, h1, h2 => exact Option.some.inj h1 ▸ Option.some.inj h2 ▸ E22
      | j + 6, _, _, h1, _ => exact nomatch h1
    have hM := Made.ex y4 hM
    have hm := y4 _ _ hm
    refine ⟨_, _, _, _, rfl, rfl, hm, upd_same, (by show 23 ≤ sizeLine; decide), fun p4 hp4 => ?_⟩
    have hM := Made.more hM hm hp4 hf4
    have X := X.trans (Ex.new (o := .lst (((([V.ref a0, V.ref a1, V.ref a2, V.ref a3] ++ [V.ref a4, V.ref a5, V.ref a6, V.ref a7, V.ref a8]) ++ [V.ref a9, V.ref a10, V.ref a11, V.ref a12]) ++ [V.ref a13, V.ref a14, V.ref a15, V.ref a16]) ++ [V.ref a17, V.ref a18, V.ref a19, V.ref a20, V.ref a21, V.ref a22])) hp4)
    have hm := made0 (xs := (((([V.ref a0, V.ref a1, V.ref a2, V.ref a3] ++ [V.ref a4, V.ref a5, V.ref a6, V.ref a7, V.ref a8]) ++ [V.ref a9, V.ref a10, V.ref a11, V.ref a12]) ++ [V.ref a13, V.ref a14, V.ref a15, V.ref a16]) ++ [V.ref a17, V.ref a18, V.ref a19, V.ref a20, V.ref a21, V.ref a22])) hp4
    refine ⟨_, rfl, ?_⟩
    refine fun a23 fr23 => ?_
    have x23 := Ex.new (o := ExO (.ref A.NothingToUndo) a23) fr23
    have X := X.trans (x23)
    have hM := Made.ex (x23) hM
    have hm := (x23) _ _ hm
    have E23 := errN fr23 (C := A.NothingToUndo)
    generalize L2.upd _ a23 _ = G23 at *
    refine fun a24 fr24 => ?_
    have x24 := Ex.new (o := ExO (.ref A.NothingToRedo) a24) fr24
    have X := X.trans (x24)
    have E23 := ErrT.ex (x24) E23
    have hM := Made.ex (x24) hM
    have hm := (x24) _ _ hm
    have E24 := errN fr24 (C := A.NothingToRedo)
    generalize L2.upd _ a24 _ = G24 at *
    refine ⟨(by show 2 ≤ sizeLine; decide), fun q5 hq5 => ?_⟩
    have y5 := Ex.new (o := .lst [V.ref a23, V.ref a24]) hq5
    have X := X.trans (y5)
    have E23 := ErrT.ex (y5) E23
    have E24 := ErrT.ex (y5) E24
    have hf5 : ∀ (j : Nat) (e C : Addr), ([a23, a24] : List Addr)[j]? = some e → (cls A)[23 + j]? = some C → ErrT (L2.upd G24 q5 (.lst [V.ref a23, V.ref a24])) e C := by
      intro j e C h1 h2
      match j, e, C, h1, h2 with
      | 0, _, _, h1, h2 => exact Option.some.inj h1 ▸ Option.some.inj h2 ▸ E23
      | 1, _, _, h1, h2 => exact Option.some.inj h1 ▸ Option.some.inj h2 ▸ E24
      | j + 2, _, _, h1, _ => exact nomatch h1
    have hM := Made.ex y5 hM
    have hm := y5 _ _ hm
    refine ⟨_, _, _, _, rfl, rfl, hm, upd_same, (by show 25 ≤ sizeLine; decide), fun p5 hp5 => ?_⟩
    have hM := Made.more hM hm hp5 hf5
    have X := X.trans (Ex.new (o := .lst ((((([V.ref a0, V.ref a1, V.ref a2, V.ref a3] ++ [V.ref a4, V.ref a5, V.ref a6, V.ref a7, V.ref a8]) ++ [V.ref a9, V.ref a10, V.ref a11, V.ref a12]) ++ [V.ref a13, V.ref a14, V.ref a15, V.ref a16]) ++ [V.ref a17, V.ref a18, V.ref a19, V.ref a20, V.ref a21, V.ref a22]) ++ [V.ref a23, V.ref a24])) hp5)
    have hm := made0 (xs := ((((([V.ref a0, V.ref a1, V.ref a2, V.ref a3] ++ [V.ref a4, V.ref a5, V.ref a6, V.ref a7, V.ref a8]) ++ [V.ref a9, V.ref a10, V.ref a11, V.ref a12]) ++ [V.ref a13, V.ref a14, V.ref a15, V.ref a16]) ++ [V.ref a17, V.ref a18, V.ref a19, V.ref a20, V.ref a21, V.ref a22]) ++ [V.ref a23, V.ref a24])) hp5
    have hM : Made A (L2.upd (L2.upd G24 q5 (.lst [V.ref a23, V.ref a24])) p5 (.lst ((((([V.ref a0, V.ref a1, V.ref a2, V.ref a3] ++ [V.ref a4, V.ref a5, V.ref a6, V.ref a7, V.ref a8]) ++ [V.ref a9, V.ref a10, V.ref a11, V.ref a12]) ++ [V.ref a13, V.ref a14, V.ref a15, V.ref a16]) ++ [V.ref a17, V.ref a18, V.ref a19, V.ref a20, V.ref a21, V.ref a22]) ++ [V.ref a23, V.ref a24]))) p5 25 := hM
    obtain ⟨es, he, le, hE⟩ := hM
    clear hm
    generalize L2.upd (L2.upd G24 q5 (.lst [V.ref a23, V.ref a24])) p5 (.lst ((((([V.ref a0, V.ref a1, V.ref a2, V.ref a3] ++ [V.ref a4, V.ref a5, V.ref a6, V.ref a7, V.ref a8]) ++ [V.ref a9, V.ref a10, V.ref a11, V.ref a12]) ++ [V.ref a13, V.ref a14, V.ref a15, V.ref a16]) ++ [V.ref a17, V.ref a18, V.ref a19, V.ref a20, V.ref a21, V.ref a22]) ++ [V.ref a23, V.ref a24])) = Hf at *
    refine ⟨_, rfl, by decide, by decide, for_range (lo := 0) (n := 25) (fun i σ H' => Ex Hf H' ∧ ∃ v2 v3 v4 : Option V, σ = [some (.int n), some (.ref p5), v2, v3, v4]) ⟨Ex.refl _, none, none, none, rfl⟩ ?_ ?_⟩
    · rintro i σ H' hi ⟨e1, v2, v3, v4, rfl⟩
      have hie : i < es.length := by omega
      have hat : atI (es.map V.ref) (0 + (i : Int)) = some (V.ref es[i]) := at_of (Int.zero_add _) (by rw [List.getElem?_map, List.getElem?_eq_getElem hie]; rfl)
      obtain ⟨C, hC⟩ : ∃ C, (cls A)[i]? = some C := ⟨(cls A)[i]'(by show i < 25; omega), List.getElem?_eq_getElem _⟩
      have hEi : ErrT H' es[i] C := ErrT.ex e1 (hE i _ _ (List.getElem?_eq_getElem hie) hC)
      have hsq : SqL K H' p5 (es.map V.ref) := SqL.of (e1 _ _ he)
      obtain ⟨b1, b2, b3⟩ := T.base hC
      refine ⟨_, rfl, _, rfl, _, _, _, _, rfl, rfl, hsq, hat, es[i], C, _, _, true, rfl, hEi, b1, ClsV.own _, b2, _, rfl, ?_⟩
      refine ⟨_, rfl, _, rfl, _, _, _, _, rfl, rfl, hsq, hat, es[i], C, _, _, true, rfl, hEi, b1, ClsV.ty "ValueError", b3, _, rfl, ?_⟩
      refine ⟨_, rfl, _, rfl, _, _, _, _, rfl, rfl, hsq, hat, es[i], C, i, rfl, hEi, hC, fun r H2 hr e2 hr2 => ?_⟩
      refine ⟨_, rfl, by decide, by decide, for_range (lo := 0) (n := 25) (fun j σ H3 => Ex H2 H3 ∧ ∃ v4 : Option V, σ = [some (.int n), some (.ref p5), some (.int (0 + (i : Int))), some (.ref r), v4]) ⟨Ex.refl _, _, rfl⟩ ?_ ?_⟩
      · rintro j σ H3 hj ⟨e3, v4, rfl⟩
        have hrow : atI (markL i) (0 + (j : Int)) = some (V.bl (decide (j = i))) := at_of (Int.zero_add _) (by unfold markL; rw [List.getElem?_map, List.getElem?_range hj]; rfl)
        refine ⟨_, rfl, _, rfl, _, _, _, _, rfl, rfl, SqL.of (e3 _ _ hr2), hrow, _, rfl, _, rfl, rfl, rfl, _, rfl, ?_⟩
        have hz : (!decide (V.bl (decide (j = i)) = V.bl (decide (V.int (0 + (j : Int)) = V.int (0 + (i : Int)))))) = false := by
          have q : decide (j = i) = decide (V.int (0 + (j : Int)) = V.int (0 + (i : Int))) := by
            by_cases h : j = i
            · subst h; simp
            · rw [decide_eq_false h, decide_eq_false]
              intro z
              injection z with z
              omega
          rw [q]; simp
        rw [hz]
        exact ⟨e3, _, rfl⟩
      · rintro σ H3 ⟨e3, v4, rfl⟩
        exact ⟨e1.trans (e2.trans e3), _, _, _, rfl⟩
    · rintro σ H' ⟨e1, v2, v3, v4, rfl⟩
      exact k _ (X.trans e1)

end

section
variable {P : Program} {w : World} {K : PySem.W.Frag} {mg : Str → Option Value} {base : Heap} {A : Ad}
theorem lk1 {f : Str} {v : V} : ([(f, v)] : List (Str × V)).lookup f = some v := by simp [List.lookup]
theorem made1 {H : Hp} {a : Addr} {xs : List V} (h : H a = none) : upd H a (.lst xs) a = some (.lst xs) := upd_same

theorem ok_law_errors_keep (T : Txt K mg A) (g_InvalidSize : Okd P w K mg base CX0 1 A.i_InvalidSize P_InvalidSize (spInit A.InvalidSize "size")) (g_InvalidImage : Okd P w K mg base CX0 1 A.i_InvalidImage P_InvalidImage (spInit A.InvalidImage "record")) (g_NotState : Okd P w K mg base CX0 1 A.i_NotState P_NotState (spInit A.NotState "record")) (g_InvalidRecord : Okd P w K mg base CX0 1 A.i_InvalidRecord P_InvalidRecord (spInit A.InvalidRecord "record")) (g_Busy : Okd P w K mg base CX0 1 A.i_Busy P_Busy (spInit A.Busy "record")) (g_Written : Okd P w K mg base CX0 1 A.i_Written P_Written (spInit A.Written "record")) (g_NotReady : Okd P w K mg base CX0 1 A.i_NotReady P_NotReady (spInit A.NotReady "record")) (g_InvalidNumber : Okd P w K mg base CX0 1 A.i_InvalidNumber P_InvalidNumber (spInit A.InvalidNumber "value")) (g_InvalidStore : Okd P w K mg base CX0 1 A.i_InvalidStore P_InvalidStore (spInit A.InvalidStore "at")) (g_NoWriter : Okd P w K mg base CX0 1 A.i_NoWriter P_NoWriter (spInit A.NoWriter "writer")) (g_Unrepairable : Okd P w K mg base CX0 2 A.i_Unrepairable P_Unrepairable (spInitL A.Unrepairable "group")) (g_Ambiguous : Okd P w K mg base CX0 2 A.i_Ambiguous P_Ambiguous (spInitL A.Ambiguous "numbers")) (g_InvalidRules : Okd P w K mg base CX0 1 A.i_InvalidRules P_InvalidRules (spInit A.InvalidRules "name")) (g_Unsafe : Okd P w K mg base CX0 1 A.i_Unsafe P_Unsafe (spInit A.Unsafe "refused")) (g_law_meets : Okd P w K mg base CX0 1 A.law_meets P_law_meets spMeets) : Okd P w K mg base CX0 4 A.law_errors_keep P_law_errors_keep spErr := by
  obtain ⟨fd, F⟩ := T.d_law_errors_keep
  obtain ⟨fd_InvalidSize, G_InvalidSize, b_InvalidSize⟩ := g_InvalidSize
  obtain ⟨fd_InvalidImage, G_InvalidImage, b_InvalidImage⟩ := g_InvalidImage
  obtain ⟨fd_NotState, G_NotState, b_NotState⟩ := g_NotState
  obtain ⟨fd_InvalidRecord, G_InvalidRecord, b_InvalidRecord⟩ := g_InvalidRecord
  obtain ⟨fd_Busy, G_Busy, b_Busy⟩ := g_Busy
  obtain ⟨fd_Written, G_Written, b_Written⟩ := g_Written
  obtain ⟨fd_NotReady, G_NotReady, b_NotReady⟩ := g_NotReady
  obtain ⟨fd_InvalidNumber, G_InvalidNumber, b_InvalidNumber⟩ := g_InvalidNumber
  obtain ⟨fd_InvalidStore, G_InvalidStore, b_InvalidStore⟩ := g_InvalidStore
  obtain ⟨fd_NoWriter, G_NoWriter, b_NoWriter⟩ := g_NoWriter
  obtain ⟨fd_Unrepairable, G_Unrepairable, b_Unrepairable⟩ := g_Unrepairable
  obtain ⟨fd_Ambiguous, G_Ambiguous, b_Ambiguous⟩ := g_Ambiguous
  obtain ⟨fd_InvalidRules, G_InvalidRules, b_InvalidRules⟩ := g_InvalidRules
  obtain ⟨fd_Unsafe, G_Unsafe, b_Unsafe⟩ := g_Unsafe
  obtain ⟨fd_law_meets, G_law_meets, b_law_meets⟩ := g_law_meets
  refine ⟨fd, F.ok sc_law_errors_keep (fun vs H Q E h => ?_) (fun cdv A' outer s H vs Q E hr h => ?_), F.binds fun _ _ _ _ _ _ us hl => match us, hl with | [_], _ => rfl⟩
  · obtain ⟨n, rfl, _⟩ := h
    rfl
  · obtain ⟨n, rfl, k⟩ := h
    refine ⟨_, (pss_cons (ps_set (i := 1) sc_law_errors_keep.nd rfl (Or.inl rfl) (pe_lst (pa_cons (pe_xa (pe_oexV T.e_InvalidSize.oex T.f_InvalidSize.i T.f_InvalidSize.t G_InvalidSize (hr.mono (by decide)) b_InvalidSize pass0 rfl T.e_InvalidSize.g (pa_cons (pv 0) pa_nil))) (pa_cons (pe_xa (pe_oexV T.e_InvalidImage.oex T.f_InvalidImage.i T.f_InvalidImage.t G_InvalidImage (hr.mono (by decide)) b_InvalidImage pass0 rfl T.e_InvalidImage.g (pa_cons (pe_op op_add (pv 0) pe_int) pa_nil))) (pa_cons (pe_xa (pe_oexV T.e_NotState.oex T.f_NotState.i T.f_NotState.t G_NotState (hr.mono (by decide)) b_NotState pass0 rfl T.e_NotState.g (pa_cons (pe_op op_add (pv 0) pe_int) pa_nil))) pa_nil)))))
      (pss_cons (ps_set (i := 1) sc_law_errors_keep.nd rfl (Or.inl rfl) (pe_op op_cat (pv 1) (pe_lst (pa_cons (pe_xa (pe_oexV T.e_InvalidRecord.oex T.f_InvalidRecord.i T.f_InvalidRecord.t G_InvalidRecord (hr.mono (by decide)) b_InvalidRecord pass0 rfl T.e_InvalidRecord.g (pa_cons (pe_op op_add (pv 0) pe_int) pa_nil))) (pa_cons (pe_xa (pe_oexV T.e_Busy.oex T.f_Busy.i T.f_Busy.t G_Busy (hr.mono (by decide)) b_Busy pass0 rfl T.e_Busy.g (pa_cons (pe_op op_add (pv 0) pe_int) pa_nil))) (pa_cons (pe_xa (pe_oexV T.e_Written.oex T.f_Written.i T.f_Written.t G_Written (hr.mono (by decide)) b_Written pass0 rfl T.e_Written.g (pa_cons (pe_op op_add (pv 0) pe_int) pa_nil))) pa_nil))))))
      (pss_cons (ps_set (i := 1) sc_law_errors_keep.nd rfl (Or.inl rfl) (pe_op op_cat (pv 1) (pe_lst (pa_cons (pe_xa (pe_oexV T.e_NotReady.oex T.f_NotReady.i T.f_NotReady.t G_NotReady (hr.mono (by decide)) b_NotReady pass0 rfl T.e_NotReady.g (pa_cons (pe_op op_add (pv 0) pe_int) pa_nil))) (pa_cons (pe_xa (pe_oexV T.e_InvalidNumber.oex T.f_InvalidNumber.i T.f_InvalidNumber.t G_InvalidNumber (hr.mono (by decide)) b_InvalidNumber pass0 rfl T.e_InvalidNumber.g (pa_cons (pe_op op_add (pv 0) pe_int) pa_nil))) pa_nil)))))
      (pss_cons (ps_set (i := 1) sc_law_errors_keep.nd rfl (Or.inl rfl) (pe_op op_cat (pv 1) (pe_lst (pa_cons (pe_xa (pe_oexV T.e_InvalidStore.oex T.f_InvalidStore.i T.f_InvalidStore.t G_InvalidStore (hr.mono (by decide)) b_InvalidStore pass0 rfl T.e_InvalidStore.g (pa_cons (pe_op op_add (pv 0) pe_int) pa_nil))) (pa_cons (pe_xa (pe_oexV T.e_NoWriter.oex T.f_NoWriter.i T.f_NoWriter.t G_NoWriter (hr.mono (by decide)) b_NoWriter pass0 rfl T.e_NoWriter.g (pa_cons (pe_op op_add (pv 0) pe_int) pa_nil))) pa_nil)))))
      (pss_cons (ps_expr (pe_bm PySem.F.plainAttrs_list PySem.F.slot_list_append PySem.F.type_list_append mt_append (pv 1) (pa_cons (pe_xa (pe_oexV T.e_InvalidNumber.oex T.f_InvalidNumber.i T.f_InvalidNumber.t G_InvalidNumber (hr.mono (by decide)) b_InvalidNumber pass0 rfl T.e_InvalidNumber.g (pa_cons (pe_op op_sub (pe_un un_neg pe_int) (pv 0)) pa_nil))) pa_nil)))
      (pss_cons (ps_set (i := 2) sc_law_errors_keep.nd rfl (Or.inl rfl) (pe_op op_cat (pe_lc (own := [("k", 3)]) (tt := tYes) (by rfl) sc_law_errors_keep.nd (pi_range1 (by rfl) T.n_range (pa_cons pe_int pa_nil)) (blkOk_by (own := [("k", 3)]) (N := N_law_errors_keep) (sc := defScope s_law_errors_keep) (by decide +kernel)) (fun _ _ _ _ _ => (pg_name (i := 3) sc_law_errors_keep.nd rfl (Or.inl rfl))) (fun _ _ _ _ _ => pts_nil) (fun _ _ _ _ _ => (pe_op op_add (pv 0) (pv 3)))) (pe_lst (pa_cons (pe_op op_sub (pe_un un_neg pe_int) (pv 0)) pa_nil))))
      (pss_cons (ps_for PassesOwn.never rfl (pi_range1 (by rfl) T.n_range (pa_cons pe_int pa_nil)) (pg_name (i := 3) sc_law_errors_keep.nd rfl (Or.inl rfl)) (pss_one (ps_if (pt_not (pt_val (pe_call G_law_meets (hr.mono (by decide)) (by rfl) T.g_law_meets T.k_law_meets b_law_meets .nil pass0 (pa_cons (pe_tup (pa_cons pe_str (pa_cons (pe_ix ix_list (pv 1) (pv 3) (fun _ _ => rfl)) pa_nil))) (pa_cons (pe_tup (pa_cons pe_str (pa_cons (pe_ix ix_list (pv 2) (pv 3) (fun _ _ => rfl)) pa_nil))) pa_nil))))) (pss_one (ps_ret pe_bl)) pss_nil)))
      (pss_cons (ps_set (i := 4) sc_law_errors_keep.nd rfl (Or.inl rfl) (pe_xa (pe_oexV T.e_Unrepairable.oex T.f_Unrepairable.i T.f_Unrepairable.t G_Unrepairable (hr.mono (by decide)) b_Unrepairable pass0 rfl T.e_Unrepairable.g (pa_cons (pe_lst (pa_cons (pv 0) (pa_cons (pe_op op_add (pv 0) pe_int) pa_nil))) pa_nil))))
      (pss_cons (ps_set (i := 5) sc_law_errors_keep.nd rfl (Or.inl rfl) (pe_xa (pe_oexV T.e_Ambiguous.oex T.f_Ambiguous.i T.f_Ambiguous.t G_Ambiguous (hr.mono (by decide)) b_Ambiguous pass0 rfl T.e_Ambiguous.g (pa_cons (pe_lst (pa_cons (pe_op op_add (pv 0) pe_int) (pa_cons (pe_op op_add (pv 0) pe_int) pa_nil))) pa_nil))))
      (pss_cons (ps_if (PW.pt (pw_or (pt_not (pt_val (pe_callB call_isi (by rfl) T.n_isinstance (by decide +kernel) (pa_cons (pv 4) (pa_cons (pe_bltn (v := .ty "list") (u := .type "list") (by rfl) T.n_list (by decide +kernel) rfl) pa_nil))))) (pw_or1 (pt_not (pt_val (pe_callB call_isi (by rfl) T.n_isinstance (by decide +kernel) (pa_cons (pv 5) (pa_cons (pe_bltn (v := .ty "list") (u := .type "list") (by rfl) T.n_list (by decide +kernel) rfl) pa_nil)))))))) (pss_one (ps_ret pe_bl)) pss_nil)
      (pss_cons (ps_if (PW.pt (pw_or (pt_cmpR (op_neD hr.units) (pv 4) (pe_lst (pa_cons (pv 0) (pa_cons (pe_op op_add (pv 0) pe_int) pa_nil))) (nomark _)) (pw_or1 (pt_cmpR (op_neD hr.units) (pv 5) (pe_lst (pa_cons (pe_op op_add (pv 0) pe_int) (pa_cons (pe_op op_add (pv 0) pe_int) pa_nil))) (nomark _))))) (pss_one (ps_ret pe_bl)) pss_nil)
      (pss_cons (ps_set (i := 6) sc_law_errors_keep.nd rfl (Or.inl rfl) (pe_xa (pe_oexV T.e_InvalidRules.oex T.f_InvalidRules.i T.f_InvalidRules.t G_InvalidRules (hr.mono (by decide)) b_InvalidRules pass0 rfl T.e_InvalidRules.g (pa_cons pe_str pa_nil))))
      (pss_cons (ps_set (i := 7) sc_law_errors_keep.nd rfl (Or.inl rfl) (pe_xa (pe_oexV T.e_Unsafe.oex T.f_Unsafe.i T.f_Unsafe.t G_Unsafe (hr.mono (by decide)) b_Unsafe pass0 rfl T.e_Unsafe.g (pa_cons (pe_tup (pa_cons (pe_tup (pa_cons pe_str (pa_cons pe_int (pa_cons pe_int pa_nil)))) pa_nil)) pa_nil))))
      (pss_cons (ps_if (PW.pt (pw_or (pt_not (pt_val (pe_callB call_isi (by rfl) T.n_isinstance (by decide +kernel) (pa_cons (pv 6) (pa_cons (pe_bltn (v := .ty "str") (u := .type "str") (by rfl) T.n_str (by decide +kernel) rfl) pa_nil))))) (pw_or1 (pt_not (pt_val (pe_callB call_isi (by rfl) T.n_isinstance (by decide +kernel) (pa_cons (pv 7) (pa_cons (pe_bltn (v := .ty "tuple") (u := .type "tuple") (by rfl) T.n_tuple (by decide +kernel) rfl) pa_nil)))))))) (pss_one (ps_ret pe_bl)) pss_nil)
      (pss_one (ps_ret (pe_and (pe_cmpR op_eq (pv 6) pe_str (nomark _)) (pe_one (pe_cmpR (op_eqD hr.units) (pv 7) (pe_tup (pa_cons (pe_tup (pa_cons pe_str (pa_cons pe_int (pa_cons pe_int pa_nil)))) pa_nil)) (nomark _)))))))))))))))))))), ?_⟩
    have X : Ex H H := Ex.refl H
    refine ⟨_, rfl, (by show 1 ≤ 1000; decide), fun a0 fr0 => ⟨a0, _, rfl, upd_same, fun dx0 hdx0 ne0 => ⟨rfl, ?_⟩⟩⟩
    obtain ⟨x0, u0, w0⟩ := mkV_facts (f := "size") fr0 hdx0 ne0
    generalize L2.upd (L2.upd (L2.upd _ a0 _) dx0 _) a0 _ = G0 at *
    have X := X.trans (x0)
    refine ⟨a0, A.InvalidSize, dx0, _, _, rfl, u0, w0, T.e_InvalidSize.xfc, T.f_InvalidSize.nf, lk1, ?_⟩
    refine ⟨_, rfl, _, _, rfl, rfl, (by show 1 ≤ 1000; decide), fun a1 fr1 => ⟨a1, _, rfl, upd_same, fun dx1 hdx1 ne1 => ⟨rfl, ?_⟩⟩⟩
    obtain ⟨x1, u1, w1⟩ := mkV_facts (f := "record") fr1 hdx1 ne1
    generalize L2.upd (L2.upd (L2.upd _ a1 _) dx1 _) a1 _ = G1 at *
    have X := X.trans (x1)
    refine ⟨a1, A.InvalidImage, dx1, _, _, rfl, u1, w1, T.e_InvalidImage.xfc, T.f_InvalidImage.nf, lk1, ?_⟩
    refine ⟨_, rfl, _, _, rfl, rfl, (by show 1 ≤ 1000; decide), fun a2 fr2 => ⟨a2, _, rfl, upd_same, fun dx2 hdx2 ne2 => ⟨rfl, ?_⟩⟩⟩
    obtain ⟨x2, u2, w2⟩ := mkV_facts (f := "record") fr2 hdx2 ne2
    generalize L2.upd (L2.upd (L2.upd _ a2 _) dx2 _) a2 _ = G2 at *
    have X := X.trans (x2)
    refine ⟨a2, A.NotState, dx2, _, _, rfl, u2, w2, T.e_NotState.xfc, T.f_NotState.nf, lk1, ?_⟩
    have X0 := X
    refine ⟨(by show 3 ≤ sizeLine; decide), fun q0 hq0 => ?_⟩
    have y0 := Ex.new (o := .lst [V.int n, V.int (n + 1), V.int (n + 2)]) hq0
    have X := X.trans (y0)
    have hm := made1 (xs := [V.int n, V.int (n + 1), V.int (n + 2)]) hq0
    generalize L2.upd _ q0 _ = Z0 at *
    refine ⟨_, rfl, ?_⟩
    refine ⟨_, rfl, _, _, rfl, rfl, (by show 1 ≤ 1000; decide), fun a3 fr3 => ⟨a3, _, rfl, upd_same, fun dx3 hdx3 ne3 => ⟨rfl, ?_⟩⟩⟩
    obtain ⟨x3, u3, w3⟩ := mkV_facts (f := "record") fr3 hdx3 ne3
    generalize L2.upd (L2.upd (L2.upd _ a3 _) dx3 _) a3 _ = G3 at *
    have X := X.trans (x3)
    have hm := (x3) _ _ hm
    refine ⟨a3, A.InvalidRecord, dx3, _, _, rfl, u3, w3, T.e_InvalidRecord.xfc, T.f_InvalidRecord.nf, lk1, ?_⟩
    refine ⟨_, rfl, _, _, rfl, rfl, (by show 1 ≤ 1000; decide), fun a4 fr4 => ⟨a4, _, rfl, upd_same, fun dx4 hdx4 ne4 => ⟨rfl, ?_⟩⟩⟩
    obtain ⟨x4, u4, w4⟩ := mkV_facts (f := "record") fr4 hdx4 ne4
    generalize L2.upd (L2.upd (L2.upd _ a4 _) dx4 _) a4 _ = G4 at *
    have X := X.trans (x4)
    have hm := (x4) _ _ hm
    refine ⟨a4, A.Busy, dx4, _, _, rfl, u4, w4, T.e_Busy.xfc, T.f_Busy.nf, lk1, ?_⟩
    refine ⟨_, rfl, _, _, rfl, rfl, (by show 1 ≤ 1000; decide), fun a5 fr5 => ⟨a5, _, rfl, upd_same, fun dx5 hdx5 ne5 => ⟨rfl, ?_⟩⟩⟩
    obtain ⟨x5, u5, w5⟩ := mkV_facts (f := "record") fr5 hdx5 ne5
    generalize L2.upd (L2.upd (L2.upd _ a5 _) dx5 _) a5 _ = G5 at *
    have X := X.trans (x5)
    have hm := (x5) _ _ hm
    refine ⟨a5, A.Written, dx5, _, _, rfl, u5, w5, T.e_Written.xfc, T.f_Written.nf, lk1, ?_⟩
    have X0 := X
    refine ⟨(by show 3 ≤ sizeLine; decide), fun q1 hq1 => ?_⟩
    have y1 := Ex.new (o := .lst [V.int (n + 3), V.int (n + 4), V.int (n + 5)]) hq1
    have X := X.trans (y1)
    have hm := (y1) _ _ hm
    refine ⟨_, _, _, _, rfl, rfl, hm, upd_same, (by show 6 ≤ sizeLine; decide), fun p1 hp1 => ?_⟩
    have X := X.trans (Ex.new (o := .lst ([V.int n, V.int (n + 1), V.int (n + 2)] ++ [V.int (n + 3), V.int (n + 4), V.int (n + 5)])) hp1)
    have hm := made1 (xs := ([V.int n, V.int (n + 1), V.int (n + 2)] ++ [V.int (n + 3), V.int (n + 4), V.int (n + 5)])) hp1
    generalize L2.upd (L2.upd _ q1 _) p1 _ = Z1 at *
    refine ⟨_, rfl, ?_⟩
    refine ⟨_, rfl, _, _, rfl, rfl, (by show 1 ≤ 1000; decide), fun a6 fr6 => ⟨a6, _, rfl, upd_same, fun dx6 hdx6 ne6 => ⟨rfl, ?_⟩⟩⟩
    obtain ⟨x6, u6, w6⟩ := mkV_facts (f := "record") fr6 hdx6 ne6
    generalize L2.upd (L2.upd (L2.upd _ a6 _) dx6 _) a6 _ = G6 at *
    have X := X.trans (x6)
    have hm := (x6) _ _ hm
    refine ⟨a6, A.NotReady, dx6, _, _, rfl, u6, w6, T.e_NotReady.xfc, T.f_NotReady.nf, lk1, ?_⟩
    refine ⟨_, rfl, _, _, rfl, rfl, (by show 1 ≤ 1000; decide), fun a7 fr7 => ⟨a7, _, rfl, upd_same, fun dx7 hdx7 ne7 => ⟨rfl, ?_⟩⟩⟩
    obtain ⟨x7, u7, w7⟩ := mkV_facts (f := "value") fr7 hdx7 ne7
    generalize L2.upd (L2.upd (L2.upd _ a7 _) dx7 _) a7 _ = G7 at *
    have X := X.trans (x7)
    have hm := (x7) _ _ hm
    refine ⟨a7, A.InvalidNumber, dx7, _, _, rfl, u7, w7, T.e_InvalidNumber.xfc, T.f_InvalidNumber.nf, lk1, ?_⟩
    have X0 := X
    refine ⟨(by show 2 ≤ sizeLine; decide), fun q2 hq2 => ?_⟩
    have y2 := Ex.new (o := .lst [V.int (n + 6), V.int (n + 7)]) hq2
    have X := X.trans (y2)
    have hm := (y2) _ _ hm
    refine ⟨_, _, _, _, rfl, rfl, hm, upd_same, (by show 8 ≤ sizeLine; decide), fun p2 hp2 => ?_⟩
    have X := X.trans (Ex.new (o := .lst (([V.int n, V.int (n + 1), V.int (n + 2)] ++ [V.int (n + 3), V.int (n + 4), V.int (n + 5)]) ++ [V.int (n + 6), V.int (n + 7)])) hp2)
    have hm := made1 (xs := (([V.int n, V.int (n + 1), V.int (n + 2)] ++ [V.int (n + 3), V.int (n + 4), V.int (n + 5)]) ++ [V.int (n + 6), V.int (n + 7)])) hp2
    generalize L2.upd (L2.upd _ q2 _) p2 _ = Z2 at *
    refine ⟨_, rfl, ?_⟩
    refine ⟨_, rfl, _, _, rfl, rfl, (by show 1 ≤ 1000; decide), fun a8 fr8 => ⟨a8, _, rfl, upd_same, fun dx8 hdx8 ne8 => ⟨rfl, ?_⟩⟩⟩
    obtain ⟨x8, u8, w8⟩ := mkV_facts (f := "at") fr8 hdx8 ne8
    generalize L2.upd (L2.upd (L2.upd _ a8 _) dx8 _) a8 _ = G8 at *
    have X := X.trans (x8)
    have hm := (x8) _ _ hm
    refine ⟨a8, A.InvalidStore, dx8, _, _, rfl, u8, w8, T.e_InvalidStore.xfc, T.f_InvalidStore.nf, lk1, ?_⟩
    refine ⟨_, rfl, _, _, rfl, rfl, (by show 1 ≤ 1000; decide), fun a9 fr9 => ⟨a9, _, rfl, upd_same, fun dx9 hdx9 ne9 => ⟨rfl, ?_⟩⟩⟩
    obtain ⟨x9, u9, w9⟩ := mkV_facts (f := "writer") fr9 hdx9 ne9
    generalize L2.upd (L2.upd (L2.upd _ a9 _) dx9 _) a9 _ = G9 at *
    have X := X.trans (x9)
    have hm := (x9) _ _ hm
    refine ⟨a9, A.NoWriter, dx9, _, _, rfl, u9, w9, T.e_NoWriter.xfc, T.f_NoWriter.nf, lk1, ?_⟩
    have X0 := X
    refine ⟨(by show 2 ≤ sizeLine; decide), fun q3 hq3 => ?_⟩
    have y3 := Ex.new (o := .lst [V.int (n + 8), V.int (n + 9)]) hq3
    have X := X.trans (y3)
    have hm := (y3) _ _ hm
    refine ⟨_, _, _, _, rfl, rfl, hm, upd_same, (by show 10 ≤ sizeLine; decide), fun p3 hp3 => ?_⟩
    have X := X.trans (Ex.new (o := .lst ((([V.int n, V.int (n + 1), V.int (n + 2)] ++ [V.int (n + 3), V.int (n + 4), V.int (n + 5)]) ++ [V.int (n + 6), V.int (n + 7)]) ++ [V.int (n + 8), V.int (n + 9)])) hp3)
    have p3n : H p3 = none := fresh_back (ex_new (o := .lst [V.int (n + 8), V.int (n + 9)]) X0 hq3) hp3
    have hm := made1 (xs := ((([V.int n, V.int (n + 1), V.int (n + 2)] ++ [V.int (n + 3), V.int (n + 4), V.int (n + 5)]) ++ [V.int (n + 6), V.int (n + 7)]) ++ [V.int (n + 8), V.int (n + 9)])) hp3
    generalize L2.upd (L2.upd _ q3 _) p3 _ = Z3 at *
    refine ⟨_, rfl, Or.inl ⟨rfl, _, SqL.of hm⟩, ?_⟩
    refine ⟨_, rfl, _, rfl, _, _, rfl, rfl, (by show 1 ≤ 1000; decide), fun a10 fr10 => ⟨a10, _, rfl, upd_same, fun dx10 hdx10 ne10 => ⟨rfl, ?_⟩⟩⟩
    obtain ⟨x10, u10, w10⟩ := mkV_facts (f := "value") fr10 hdx10 ne10
    generalize L2.upd (L2.upd (L2.upd _ a10 _) dx10 _) a10 _ = G10 at *
    have X := X.trans (x10)
    have hm := (x10) _ _ hm
    refine ⟨a10, A.InvalidNumber, dx10, _, _, rfl, u10, w10, T.e_InvalidNumber.xfc, T.f_InvalidNumber.nf, lk1, ?_⟩
    refine ⟨_, _, _, rfl, rfl, hm, (by show 10 < sizeLine; decide), ?_⟩
    have hv : ListI (L2.upd G10 p3 (.lst (((([V.int n, V.int (n + 1), V.int (n + 2)] ++ [V.int (n + 3), V.int (n + 4), V.int (n + 5)]) ++ [V.int (n + 6), V.int (n + 7)]) ++ [V.int (n + 8), V.int (n + 9)]) ++ [V.int (-1 - n)]))) p3 [n, n + 1, n + 2, n + 3, n + 4, n + 5, n + 6, n + 7, n + 8, n + 9, -1 - n] := upd_same
    have X : ∀ b o, H b = some o → b ≠ p3 → L2.upd G10 p3 (.lst (((([V.int n, V.int (n + 1), V.int (n + 2)] ++ [V.int (n + 3), V.int (n + 4), V.int (n + 5)]) ++ [V.int (n + 6), V.int (n + 7)]) ++ [V.int (n + 8), V.int (n + 9)]) ++ [V.int (-1 - n)])) b = some o := fun b o hb nb => by
      rw [upd_ne nb]
      exact X b o hb
    have fresh3 : H p3 = none := p3n
    have X : Ex H (L2.upd G10 p3 (.lst (((([V.int n, V.int (n + 1), V.int (n + 2)] ++ [V.int (n + 3), V.int (n + 4), V.int (n + 5)]) ++ [V.int (n + 6), V.int (n + 7)]) ++ [V.int (n + 8), V.int (n + 9)]) ++ [V.int (-1 - n)]))) := fun b o hb => X b o hb (ne_of_none hb fresh3)
    generalize L2.upd G10 p3 _ = W1 at *
    refine ⟨_, rfl, by decide, by decide, fun D hD => lc_range (lo := 0) (n := 10) (fun i H' => Ex W1 H' ∧ ListI H' D ((List.range i).map fun k : Nat => n + (0 + (k : Int)))) ⟨Ex.new hD, upd_same⟩ ?_ ?_⟩
    · rintro i H' hi ⟨e, hd⟩
      refine ⟨rfl, _, rfl, _, rfl, _, _, rfl, rfl, _, hd, small1000 (by rw [List.length_map, List.length_map, List.length_range]; omega), ?_, ?_⟩
      · exact fun b o hb => by
          rw [upd_ne (ne_of_none hb hD)]
          exact e b o hb
      · show (L2.upd _ D _) D = _
        rw [upd_same, List.range_succ, List.map_append, List.map_append]
        rfl
    rintro H1 ⟨e1, hd⟩
    refine ⟨_, rfl, _, rfl, _, _, rfl, rfl, (by show 1 ≤ sizeLine; decide), fun q8 hq8 => ?_⟩
    have hd2 := Ex.new (o := .lst [V.int (-1 - n)]) hq8 _ _ hd
    refine ⟨_, _, _, _, rfl, rfl, hd2, upd_same, (by show 11 ≤ sizeLine; decide), fun p8 hp8 => ?_⟩
    have hdue : ListI (L2.upd (L2.upd H1 q8 (.lst [V.int (-1 - n)])) p8 (.lst (((List.range 10).map fun k : Nat => n + (0 + (k : Int))).map V.int ++ [V.int (-1 - n)]))) p8 [n, n + 1, n + 2, n + 3, n + 4, n + 5, n + 6, n + 7, n + 8, n + 9, -1 - n] := by
      show (L2.upd _ p8 _) p8 = _
      rw [upd_same]
      simp [List.range, List.range.loop]
    have x2 : Ex W1 (L2.upd (L2.upd H1 q8 (.lst [V.int (-1 - n)])) p8 (.lst (((List.range 10).map fun k : Nat => n + (0 + (k : Int))).map V.int ++ [V.int (-1 - n)]))) := ex_new (ex_new e1 hq8) hp8
    have hv := hv.ex x2
    have X := X.trans x2
    generalize L2.upd (L2.upd H1 q8 _) p8 _ = W2 at *
    have zl : ([n, n + 1, n + 2, n + 3, n + 4, n + 5, n + 6, n + 7, n + 8, n + 9, -1 - n] : List Int).length = 11 := rfl
    generalize [n, n + 1, n + 2, n + 3, n + 4, n + 5, n + 6, n + 7, n + 8, n + 9, -1 - n] = zs at *
    refine ⟨_, rfl, by decide, by decide, for_range (lo := 0) (n := 11) (fun i σ H' => Ex W2 H' ∧ ∃ v : Option V, σ = [some (.int n), some (.ref p3), some (.ref p8), v, none, none, none, none]) ⟨Ex.refl _, none, rfl⟩ ?_ ?_⟩
    · rintro i σ H' hi ⟨e, v, rfl⟩
      have hzi : i < zs.length := by omega
      have hat : atI (zs.map V.int) (0 + (i : Int)) = some (V.int zs[i]) := at_of (Int.zero_add _) (ix_map hzi)
      refine ⟨_, rfl, _, rfl, _, _, _, _, rfl, rfl, (hv.ex e).sz, hat, (by show 2 ≤ sizeLine; decide), fun t1 ht1 => ?_⟩
      refine ⟨_, rfl, _, rfl, _, _, _, _, rfl, rfl, (hdue.ex (ex_new e ht1)).sz, hat, (by show 2 ≤ sizeLine; decide), fun t2 ht2 => ?_⟩
      refine ⟨t1, t2, "kept", _, rfl, (by rw [upd_ne (ne_of_none upd_same ht2)]; exact upd_same), upd_same, Or.inr (Or.inr ⟨_, rfl⟩), _, rfl, ?_⟩
      exact ⟨ex_new (ex_new e ht1) ht2, _, rfl⟩
    rintro σ W3 ⟨e3, v, rfl⟩
    have X := X.trans e3
    clear hv hdue
    refine ⟨_, rfl, _, rfl, _, _, rfl, rfl, (by show 2 ≤ sizeLine; decide), fun l20 hl20 => ⟨(by show 1 ≤ 1000; decide), fun a20 fr20 => ⟨a20, l20, _, rfl, upd_same, (by rw [upd_ne (ne_of_none upd_same fr20)]; exact upd_same), fun p20 dx20 hp20 hdx20 ne20 => ⟨rfl, ?_⟩⟩⟩⟩
    obtain ⟨x20, u20, w20, v20⟩ := mkL_facts (f := "group") upd_same fr20 hp20 hdx20 ne20
    generalize L2.upd (L2.upd (L2.upd (L2.upd _ a20 _) p20 _) dx20 _) a20 _ = G20 at *
    have X := X.trans ((Ex.new hl20).trans x20)
    refine ⟨a20, A.Unrepairable, dx20, _, _, rfl, u20, w20, T.e_Unrepairable.xfc, T.f_Unrepairable.nf, lk1, ?_⟩
    have hg : ListI G20 p20 [n, n + 2] := v20
    refine ⟨_, rfl, _, _, rfl, rfl, _, rfl, _, _, rfl, rfl, (by show 2 ≤ sizeLine; decide), fun l21 hl21 => ⟨(by show 1 ≤ 1000; decide), fun a21 fr21 => ⟨a21, l21, _, rfl, upd_same, (by rw [upd_ne (ne_of_none upd_same fr21)]; exact upd_same), fun p21 dx21 hp21 hdx21 ne21 => ⟨rfl, ?_⟩⟩⟩⟩
    obtain ⟨x21, u21, w21, v21⟩ := mkL_facts (f := "numbers") upd_same fr21 hp21 hdx21 ne21
    generalize L2.upd (L2.upd (L2.upd (L2.upd _ a21 _) p21 _) dx21 _) a21 _ = G21 at *
    have X := X.trans ((Ex.new hl21).trans x21)
    have hg := ((Ex.new hl21).trans x21) _ _ hg
    refine ⟨a21, A.Ambiguous, dx21, _, _, rfl, u21, w21, T.e_Ambiguous.xfc, T.f_Ambiguous.nf, lk1, ?_⟩
    have hnu : ListI G21 p21 [n + 1, n + 3] := v21
    refine ⟨_, rfl, _, _, _, _, true, rfl, ClsV.ty "list", TyX.base (TyOf.lst hg), kit_ty (by decide +kernel), _, rfl, ?_⟩
    refine ⟨_, rfl, _, _, _, _, true, rfl, ClsV.ty "list", TyX.base (TyOf.lst hnu), kit_ty (by decide +kernel), _, rfl, ?_⟩
    refine ⟨_, rfl, _, rfl, _, rfl, _, _, rfl, rfl, (by show 2 ≤ sizeLine; decide), fun l30 hl30 => ?_⟩
    refine ⟨dI [n, n + 2], dI [n, n + 2], dp_I (ListI.ex (Ex.new hl30) hg), dp_I (xs := [n, n + 2]) upd_same, shaped_I _, shaped_I _, _, rfl, ?_⟩
    rw [eqv_I]
    have hnu2 := ListI.ex (Ex.new (o := .lst [V.int n, V.int (n + 2)]) hl30) hnu
    refine ⟨_, rfl, _, rfl, _, _, rfl, rfl, _, rfl, _, _, rfl, rfl, (by show 2 ≤ sizeLine; decide), fun l31 hl31 => ?_⟩
    refine ⟨dI [n + 1, n + 3], dI [n + 1, n + 3], dp_I (ListI.ex (Ex.new hl31) hnu2), dp_I (xs := [n + 1, n + 3]) upd_same, shaped_I _, shaped_I _, _, rfl, ?_⟩
    rw [eqv_I]
    have X := X.trans ((Ex.new (o := .lst [V.int n, V.int (n + 2)]) hl30).trans (Ex.new (o := .lst [V.int (n + 1), V.int (n + 3)]) hl31))
    generalize L2.upd (L2.upd _ l30 _) l31 _ = W4 at *
    clear hg hnu hnu2
    refine ⟨(by show 1 ≤ 1000; decide), fun a40 fr40 => ⟨a40, _, rfl, upd_same, fun dx40 hdx40 ne40 => ⟨rfl, ?_⟩⟩⟩
    obtain ⟨x40, u40, w40⟩ := mkV_facts (f := "name") fr40 hdx40 ne40
    generalize L2.upd (L2.upd (L2.upd _ a40 _) dx40 _) a40 _ = G40 at *
    have X := X.trans x40
    refine ⟨a40, A.InvalidRules, dx40, _, _, rfl, u40, w40, T.e_InvalidRules.xfc, T.f_InvalidRules.nf, lk1, ?_⟩
    refine ⟨(by show 3 ≤ sizeLine; decide), fun t50 ht50 => ⟨(by show 1 ≤ sizeLine; decide), fun t51 ht51 => ⟨(by show 1 ≤ 1000; decide), fun a51 fr51 => ⟨a51, _, rfl, upd_same, fun dx51 hdx51 ne51 => ⟨rfl, ?_⟩⟩⟩⟩⟩
    obtain ⟨x51, u51, w51⟩ := mkV_facts (f := "refused") fr51 hdx51 ne51
    have z50 := x51 t50 _ (Ex.new (o := .tup [V.ref t50]) ht51 _ _ (upd_same (o := .tup [V.str "ring", V.int 6, V.int 0])))
    have z51 := x51 t51 _ (upd_same (o := .tup [V.ref t50]))
    generalize L2.upd (L2.upd (L2.upd _ a51 _) dx51 _) a51 _ = G51 at *
    have X := X.trans (((Ex.new ht50).trans (Ex.new ht51)).trans x51)
    refine ⟨a51, A.Unsafe, dx51, _, _, rfl, u51, w51, T.e_Unsafe.xfc, T.f_Unsafe.nf, lk1, ?_⟩
    refine ⟨_, rfl, _, _, _, _, true, rfl, ClsV.ty "str", TyX.base (TyOf.str _), kit_ty (by decide +kernel), _, rfl, ?_⟩
    refine ⟨_, rfl, _, _, _, _, true, rfl, ClsV.ty "tuple", TyX.base (TyOf.tup z51), kit_ty (by decide +kernel), _, rfl, ?_⟩
    refine ⟨_, rfl, rfl, _, rfl, ?_⟩
    rw [decide_eq_true rfl]
    refine ⟨_, rfl, (by show 3 ≤ sizeLine; decide), fun t60 ht60 => ⟨(by show 1 ≤ sizeLine; decide), fun t61 ht61 => ?_⟩⟩
    have dp : ∀ {G : Hp} {a b : Addr}, G a = some (.tup [V.str "ring", V.int 6, V.int 0]) → G b = some (.tup [V.ref a]) → Dp K G (.ref b) (.tuple [.tuple [.str "ring", .int 6, .int 0]]) := fun h1 h2 =>
      .tup (SqT.of h2) (.cons (.tup (SqT.of h1) (.cons (.str _) (.cons (.int _) (.cons (.int _) .nil)))) .nil)
    refine ⟨_, _, dp (Ex.new ht61 _ _ (Ex.new ht60 _ _ z50)) (Ex.new ht61 _ _ (Ex.new ht60 _ _ z51)), dp (Ex.new ht61 _ _ upd_same) upd_same, by decide +kernel, by decide +kernel, ?_⟩
    rw [SeqAt.eqv_refl _ (by decide +kernel)]
    exact k _ (ex_new (ex_new X ht60) ht61)

end

section
variable {P : Program} {w : World} {K : PySem.W.Frag} {mg : Str → Option Value} {base : Heap} {A : Ad}
theorem ok_law {fd : FuncData} (T : Txt K mg A) (F : Fun K "law" "law" s_law A.law fd) (g_law_bag : Okd P w K mg base CX0 1 A.law_bag P_law_bag (spBag K)) (g_law_size : Okd P w K mg base CX0 3 A.law_size P_law_size spSize) (g_law_take : Okd P w K mg base CX0 1 A.law_take P_law_take spTake) (g_law_drawn : Okd P w K mg base CX0 4 A.law_drawn P_law_drawn spDrawn) (g_law_one_checked : Okd P w K mg base CX0 6 A.law_one_checked P_law_one_checked spOne) (g_law_two_checked : Okd P w K mg base CX0 7 A.law_two_checked P_law_two_checked spTwo) (g_law_errors_apart : Okd P w K mg base CX0 4 A.law_errors_apart P_law_errors_apart spErr) (g_law_errors_keep : Okd P w K mg base CX0 4 A.law_errors_keep P_law_errors_keep spErr) : FnOk P w K mg base CX0 8 A.law fd P_law (spLaw K) := by
  obtain ⟨fd_law_bag, G_law_bag, b_law_bag⟩ := g_law_bag
  obtain ⟨fd_law_size, G_law_size, b_law_size⟩ := g_law_size
  obtain ⟨fd_law_take, G_law_take, b_law_take⟩ := g_law_take
  obtain ⟨fd_law_drawn, G_law_drawn, b_law_drawn⟩ := g_law_drawn
  obtain ⟨fd_law_one_checked, G_law_one_checked, b_law_one_checked⟩ := g_law_one_checked
  obtain ⟨fd_law_two_checked, G_law_two_checked, b_law_two_checked⟩ := g_law_two_checked
  obtain ⟨fd_law_errors_apart, G_law_errors_apart, b_law_errors_apart⟩ := g_law_errors_apart
  obtain ⟨fd_law_errors_keep, G_law_errors_keep, b_law_errors_keep⟩ := g_law_errors_keep
  refine F.ok sc_law (fun vs H Q E h => ?_) (fun cdv A' outer s H vs Q E hr h => ?_)
  · obtain ⟨a, ns, rfl, _⟩ := h
    rfl
  · obtain ⟨a, ns, rfl, hS, hlen, k⟩ := h
    refine ⟨_, (pss_cons (ps_set (i := 1) sc_law.nd rfl (Or.inl rfl) (pe_call G_law_bag (hr.mono (by decide)) (by rfl) T.g_law_bag T.k_law_bag b_law_bag .nil pass0 (pa_cons (pv 0) pa_nil)))
      (pss_cons (ps_set (i := 2) sc_law.nd rfl (Or.inl rfl) (pe_call G_law_size (hr.mono (by decide)) (by rfl) T.g_law_size T.k_law_size b_law_size .nil pass0 (pa_cons (pv 1) pa_nil)))
      (pss_cons (ps_set (i := 3) sc_law.nd rfl (Or.inl rfl) (pv 2))
      (pss_cut (ps_if (pt_cmpR op_eq (pe_call G_law_take (hr.mono (by decide)) (by rfl) T.g_law_take T.k_law_take b_law_take .nil pass0 (pa_cons (pv 1) (pa_cons pe_int pa_nil))) pe_int (nomark _)) (pss_one (ps_set (i := 3) sc_law.nd rfl (Or.inl rfl) (pe_call G_law_size (hr.mono (by decide)) (by rfl) T.g_law_size T.k_law_size b_law_size .nil pass0 (pa_cons (pv 1) pa_nil)))) pss_nil)
      (pss_cons (ps_set (i := 4) sc_law.nd rfl (Or.inl rfl) (pe_call G_law_drawn (hr.mono (by decide)) (by rfl) T.g_law_drawn T.k_law_drawn b_law_drawn .nil pass0 (pa_cons (pv 1) (pa_cons (pv 2) pa_nil))))
      (pss_cons (ps_set (i := 5) sc_law.nd rfl (Or.inl rfl) (pe_call G_law_drawn (hr.mono (by decide)) (by rfl) T.g_law_drawn T.k_law_drawn b_law_drawn .nil pass0 (pa_cons (pv 1) (pa_cons (pv 3) pa_nil))))
      (pss_cons (ps_set (i := 6) sc_law.nd rfl (Or.inl rfl) (pe_call G_law_take (hr.mono (by decide)) (by rfl) T.g_law_take T.k_law_take b_law_take .nil pass0 (pa_cons (pv 1) (pa_cons pe_int pa_nil))))
      (pss_cons (ps_if (PW.pt (pw_or (pt_not (pt_val (pe_call G_law_one_checked (hr.mono (by decide)) (by rfl) T.g_law_one_checked T.k_law_one_checked b_law_one_checked .nil pass0 (pa_cons (pv 4) pa_nil)))) (pw_or1 (pt_not (pt_val (pe_call G_law_one_checked (hr.mono (by decide)) (by rfl) T.g_law_one_checked T.k_law_one_checked b_law_one_checked .nil pass0 (pa_cons (pv 5) pa_nil))))))) (pss_one (ps_ret pe_bl)) pss_nil)
      (pss_cons (ps_if (PW.pt (pw_or (pt_not (pt_val (pe_call G_law_two_checked (hr.mono (by decide)) (by rfl) T.g_law_two_checked T.k_law_two_checked b_law_two_checked .nil pass0 (pa_cons (pv 4) (pa_cons (pv 5) pa_nil))))) (pw_or1 (pt_not (pt_val (pe_call G_law_two_checked (hr.mono (by decide)) (by rfl) T.g_law_two_checked T.k_law_two_checked b_law_two_checked .nil pass0 (pa_cons (pv 5) (pa_cons (pv 4) pa_nil)))))))) (pss_one (ps_ret pe_bl)) pss_nil)
      (pss_cons (ps_if (pt_not (pt_val (pe_call G_law_two_checked (hr.mono (by decide)) (by rfl) T.g_law_two_checked T.k_law_two_checked b_law_two_checked .nil pass0 (pa_cons (pv 4) (pa_cons (pv 4) pa_nil))))) (pss_one (ps_ret pe_bl)) pss_nil)
      (pss_one (ps_ret (pe_and (pe_call G_law_errors_apart (hr.mono (by decide)) (by rfl) T.g_law_errors_apart T.k_law_errors_apart b_law_errors_apart .nil pass0 (pa_cons (pv 6) pa_nil)) (pe_one (pe_call G_law_errors_keep (hr.mono (by decide)) (by rfl) T.g_law_errors_keep T.k_law_errors_keep b_law_errors_keep .nil pass0 (pa_cons (pv 6) pa_nil)))))))))))))))), ?_⟩
    refine ⟨_, rfl, a, ns, rfl, hS, fun b g f s0 hb B => ?_⟩
    have B1 : Bag (upd H b (.lst (bagL g f s0))) b := ⟨g, f, s0, upd_same, B⟩
    generalize L2.upd H b _ = H1 at *
    refine ⟨_, rfl, b, rfl, B1, fun n H2 n0 n1 B2 M2 => ?_⟩
    obtain ⟨n, rfl⟩ := Int.eq_ofNat_of_zero_le n0
    refine ⟨_, rfl, ?_⟩
    refine ⟨fun σ G => ∃ m : Nat, m ≤ 64 ∧ σ = [some (.ref a), some (.ref b), some (.int (n : Int)), some (.int (m : Int)), none, none, none] ∧ Bag G b, ?_, ?_⟩
    · refine ⟨_, rfl, b, 4, rfl, by decide, by decide, B2, fun d H3 _ _ B3 M3 => ?_⟩
      refine ⟨rfl, _, rfl, ?_⟩
      refine ite_b (fun c => ?_) (fun c => ?_)
      · refine ⟨_, rfl, b, rfl, B3, fun m H4 m0 m1 B4 M4 => ?_⟩
        obtain ⟨m, rfl⟩ := Int.eq_ofNat_of_zero_le m0
        exact ⟨m, by omega, rfl, B4⟩
      · exact ⟨n, by omega, rfl, B3⟩
    rintro σ G ⟨m, hm, rfl, B3⟩
    refine ⟨_, rfl, _, rfl, b, n, rfl, by omega, B3, fun p xs H4 hp npb lx hx B4 M4 => ?_⟩
    refine ⟨_, rfl, _, rfl, b, m, rfl, hm, B4, fun q ys H5 hq nqb ly hy B5 M5 => ?_⟩
    have hx5 : ListI H5 p xs := M5 _ _ npb hx
    refine ⟨_, rfl, b, 64, rfl, by decide, by decide, B5, fun l H6 _ _ B6 M6 => ?_⟩
    have hx6 : ListI H6 p xs := M6 _ _ npb hx5
    have hy6 : ListI H6 q ys := M6 _ _ nqb hy
    have zx : xs.length ≤ 64 := by omega
    have zy : ys.length ≤ 64 := by omega
    refine ⟨_, rfl, p, xs, rfl, hx6, zx, fun G1 e1 => ⟨_, rfl, ?_⟩⟩
    refine ⟨_, rfl, q, ys, rfl, hy6.ex e1, zy, fun G2 e2 => ⟨_, rfl, ?_⟩⟩
    have x2 := e1.trans e2
    refine ⟨_, rfl, _, rfl, p, q, xs, ys, rfl, hx6.ex x2, hy6.ex x2, zx, zy, fun G3 e3 => ⟨_, rfl, ?_⟩⟩
    have x3 := x2.trans e3
    refine ⟨_, rfl, _, rfl, q, p, ys, xs, rfl, hy6.ex x3, hx6.ex x3, zy, zx, fun G4 e4 => ⟨_, rfl, ?_⟩⟩
    have x4 := x3.trans e4
    refine ⟨_, rfl, _, rfl, p, p, xs, xs, rfl, hx6.ex x4, hx6.ex x4, zx, zx, fun G5 e5 => ⟨_, rfl, ?_⟩⟩
    refine ⟨_, rfl, l, rfl, fun G6 e6 => ⟨_, rfl, ?_⟩⟩
    exact ⟨_, rfl, l, rfl, fun G7 e7 => k G7⟩

end
end Pv
namespace Pv
open PySem L2 Evl
theorem all_mk {l : PySem.W.OpenLaw} {w : World} {K : PySem.W.Frag} {h : Heap} {mg : Str → Option Value} {fa f_own f_check_image f_is_state f_check_state f_check_pair f_law_bag f_law_take f_law_order f_law_size f_law_entry f_law_drawn f_law_entries_due f_law_state_due f_law_pair_due f_law_told_image f_law_told_is_state f_law_told_state f_law_told_pair f_law_meets f_law_one_checked f_law_two_checked f_law_marks f_law_errors_apart f_law_errors_keep f_law c_MendError N_MendError_ c_InvalidSize N_InvalidSize_ i_InvalidSize c_InvalidImage N_InvalidImage_ i_InvalidImage c_NotState N_NotState_ i_NotState c_Unrepairable N_Unrepairable_ i_Unrepairable c_InvalidRecord N_InvalidRecord_ i_InvalidRecord c_Busy N_Busy_ i_Busy c_Written N_Written_ i_Written c_NotReady N_NotReady_ i_NotReady c_InvalidNumber N_InvalidNumber_ i_InvalidNumber c_InvalidRules N_InvalidRules_ i_InvalidRules c_InvalidStore N_InvalidStore_ i_InvalidStore c_Ambiguous N_Ambiguous_ i_Ambiguous c_NoWriter N_NoWriter_ i_NoWriter c_Unsafe N_Unsafe_ i_Unsafe c_UnequalSizes N_UnequalSizes_ c_InvalidUpdate N_InvalidUpdate_ c_InvalidKind N_InvalidKind_ c_InvalidChange N_InvalidChange_ c_InvalidOrder N_InvalidOrder_ c_NoStory N_NoStory_ c_NotInBook N_NotInBook_ c_Down N_Down_ c_NotDown N_NotDown_ c_NothingToUndo N_NothingToUndo_ c_NothingToRedo N_NothingToRedo_ : Addr}
    {od_own an_own od_check_image an_check_image od_is_state an_is_state od_check_state an_check_state od_check_pair an_check_pair od_law_bag an_law_bag od_law_take an_law_take od_law_order an_law_order od_law_size an_law_size od_law_entry an_law_entry od_law_drawn an_law_drawn od_law_entries_due an_law_entries_due od_law_state_due an_law_state_due od_law_pair_due an_law_pair_due od_law_told_image an_law_told_image od_law_told_is_state an_law_told_is_state od_law_told_state an_law_told_state od_law_told_pair an_law_told_pair od_law_meets an_law_meets od_law_one_checked an_law_one_checked od_law_two_checked an_law_two_checked od_law_marks an_law_marks od_law_errors_apart an_law_errors_apart od_law_errors_keep an_law_errors_keep od_law an_law dd_MendError dd_InvalidSize od_i_InvalidSize an_i_InvalidSize dd_InvalidImage od_i_InvalidImage an_i_InvalidImage dd_NotState od_i_NotState an_i_NotState dd_Unrepairable od_i_Unrepairable an_i_Unrepairable dd_InvalidRecord od_i_InvalidRecord an_i_InvalidRecord dd_Busy od_i_Busy an_i_Busy dd_Written od_i_Written an_i_Written dd_NotReady od_i_NotReady an_i_NotReady dd_InvalidNumber od_i_InvalidNumber an_i_InvalidNumber dd_InvalidRules od_i_InvalidRules an_i_InvalidRules dd_InvalidStore od_i_InvalidStore an_i_InvalidStore dd_Ambiguous od_i_Ambiguous an_i_Ambiguous dd_NoWriter od_i_NoWriter an_i_NoWriter dd_Unsafe od_i_Unsafe an_i_Unsafe dd_UnequalSizes dd_InvalidUpdate dd_InvalidKind dd_InvalidChange dd_InvalidOrder dd_NoStory dd_NotInBook dd_Down dd_NotDown dd_NothingToUndo dd_NothingToRedo : Option Addr}
    {sl_own sl_check_image sl_is_state sl_check_state sl_check_pair sl_law_bag sl_law_take sl_law_order sl_law_size sl_law_entry sl_law_drawn sl_law_entries_due sl_law_state_due sl_law_pair_due sl_law_told_image sl_law_told_is_state sl_law_told_state sl_law_told_pair sl_law_meets sl_law_one_checked sl_law_two_checked sl_law_marks sl_law_errors_apart sl_law_errors_keep sl_law sl_i_InvalidSize sl_i_InvalidImage sl_i_NotState sl_i_Unrepairable sl_i_InvalidRecord sl_i_Busy sl_i_Written sl_i_NotReady sl_i_InvalidNumber sl_i_InvalidRules sl_i_InvalidStore sl_i_Ambiguous sl_i_NoWriter sl_i_Unsafe : Array (Option Value)}
    {oc_own kV_own doc_own pm_own cd_own ct_own oc_check_image kV_check_image doc_check_image pm_check_image cd_check_image ct_check_image oc_is_state kV_is_state doc_is_state pm_is_state cd_is_state ct_is_state oc_check_state kV_check_state doc_check_state pm_check_state cd_check_state ct_check_state oc_check_pair kV_check_pair doc_check_pair pm_check_pair cd_check_pair ct_check_pair oc_law_bag kV_law_bag doc_law_bag pm_law_bag cd_law_bag ct_law_bag oc_law_take kV_law_take doc_law_take pm_law_take cd_law_take ct_law_take oc_law_order kV_law_order doc_law_order pm_law_order cd_law_order ct_law_order oc_law_size kV_law_size doc_law_size pm_law_size cd_law_size ct_law_size oc_law_entry kV_law_entry doc_law_entry pm_law_entry cd_law_entry ct_law_entry oc_law_drawn kV_law_drawn doc_law_drawn pm_law_drawn cd_law_drawn ct_law_drawn oc_law_entries_due kV_law_entries_due doc_law_entries_due pm_law_entries_due cd_law_entries_due ct_law_entries_due oc_law_state_due kV_law_state_due doc_law_state_due pm_law_state_due cd_law_state_due ct_law_state_due oc_law_pair_due kV_law_pair_due doc_law_pair_due pm_law_pair_due cd_law_pair_due ct_law_pair_due oc_law_told_image kV_law_told_image doc_law_told_image pm_law_told_image cd_law_told_image ct_law_told_image oc_law_told_is_state kV_law_told_is_state doc_law_told_is_state pm_law_told_is_state cd_law_told_is_state ct_law_told_is_state oc_law_told_state kV_law_told_state doc_law_told_state pm_law_told_state cd_law_told_state ct_law_told_state oc_law_told_pair kV_law_told_pair doc_law_told_pair pm_law_told_pair cd_law_told_pair ct_law_told_pair oc_law_meets kV_law_meets doc_law_meets pm_law_meets cd_law_meets ct_law_meets oc_law_one_checked kV_law_one_checked doc_law_one_checked pm_law_one_checked cd_law_one_checked ct_law_one_checked oc_law_two_checked kV_law_two_checked doc_law_two_checked pm_law_two_checked cd_law_two_checked ct_law_two_checked oc_law_marks kV_law_marks doc_law_marks pm_law_marks cd_law_marks ct_law_marks oc_law_errors_apart kV_law_errors_apart doc_law_errors_apart pm_law_errors_apart cd_law_errors_apart ct_law_errors_apart oc_law_errors_keep kV_law_errors_keep doc_law_errors_keep pm_law_errors_keep cd_law_errors_keep ct_law_errors_keep oc_law kV_law doc_law pm_law cd_law ct_law oc_i_InvalidSize kV_i_InvalidSize doc_i_InvalidSize pm_i_InvalidSize cd_i_InvalidSize ct_i_InvalidSize oc_i_InvalidImage kV_i_InvalidImage doc_i_InvalidImage pm_i_InvalidImage cd_i_InvalidImage ct_i_InvalidImage oc_i_NotState kV_i_NotState doc_i_NotState pm_i_NotState cd_i_NotState ct_i_NotState oc_i_Unrepairable kV_i_Unrepairable doc_i_Unrepairable pm_i_Unrepairable cd_i_Unrepairable ct_i_Unrepairable oc_i_InvalidRecord kV_i_InvalidRecord doc_i_InvalidRecord pm_i_InvalidRecord cd_i_InvalidRecord ct_i_InvalidRecord oc_i_Busy kV_i_Busy doc_i_Busy pm_i_Busy cd_i_Busy ct_i_Busy oc_i_Written kV_i_Written doc_i_Written pm_i_Written cd_i_Written ct_i_Written oc_i_NotReady kV_i_NotReady doc_i_NotReady pm_i_NotReady cd_i_NotReady ct_i_NotReady oc_i_InvalidNumber kV_i_InvalidNumber doc_i_InvalidNumber pm_i_InvalidNumber cd_i_InvalidNumber ct_i_InvalidNumber oc_i_InvalidRules kV_i_InvalidRules doc_i_InvalidRules pm_i_InvalidRules cd_i_InvalidRules ct_i_InvalidRules oc_i_InvalidStore kV_i_InvalidStore doc_i_InvalidStore pm_i_InvalidStore cd_i_InvalidStore ct_i_InvalidStore oc_i_Ambiguous kV_i_Ambiguous doc_i_Ambiguous pm_i_Ambiguous cd_i_Ambiguous ct_i_Ambiguous oc_i_NoWriter kV_i_NoWriter doc_i_NoWriter pm_i_NoWriter cd_i_NoWriter ct_i_NoWriter oc_i_Unsafe kV_i_Unsafe doc_i_Unsafe pm_i_Unsafe cd_i_Unsafe ct_i_Unsafe : Value}
    {nm_MendError q_MendError nm_InvalidSize q_InvalidSize nm_InvalidImage q_InvalidImage nm_NotState q_NotState nm_Unrepairable q_Unrepairable nm_InvalidRecord q_InvalidRecord nm_Busy q_Busy nm_Written q_Written nm_NotReady q_NotReady nm_InvalidNumber q_InvalidNumber nm_InvalidRules q_InvalidRules nm_InvalidStore q_InvalidStore nm_Ambiguous q_Ambiguous nm_NoWriter q_NoWriter nm_Unsafe q_Unsafe nm_UnequalSizes q_UnequalSizes nm_InvalidUpdate q_InvalidUpdate nm_InvalidKind q_InvalidKind nm_InvalidChange q_InvalidChange nm_InvalidOrder q_InvalidOrder nm_NoStory q_NoStory nm_NotInBook q_NotInBook nm_Down q_Down nm_NotDown q_NotDown nm_NothingToUndo q_NothingToUndo nm_NothingToRedo q_NothingToRedo : Str}
    {bs_MendError sub_MendError bm_MendError bs_InvalidSize sub_InvalidSize bs_InvalidImage sub_InvalidImage bs_NotState sub_NotState bs_Unrepairable sub_Unrepairable bs_InvalidRecord sub_InvalidRecord bs_Busy sub_Busy bs_Written sub_Written bs_NotReady sub_NotReady bs_InvalidNumber sub_InvalidNumber bs_InvalidRules sub_InvalidRules bs_InvalidStore sub_InvalidStore bs_Ambiguous sub_Ambiguous bs_NoWriter sub_NoWriter bs_Unsafe sub_Unsafe bs_UnequalSizes sub_UnequalSizes bs_InvalidUpdate sub_InvalidUpdate bs_InvalidKind sub_InvalidKind bs_InvalidChange sub_InvalidChange bs_InvalidOrder sub_InvalidOrder bs_NoStory sub_NoStory bs_NotInBook sub_NotInBook bs_Down sub_Down bs_NotDown sub_NotDown bs_NothingToUndo sub_NothingToUndo bs_NothingToRedo sub_NothingToRedo : List Value}
    {sn_MendError sn_InvalidSize sn_InvalidImage sn_NotState sn_Unrepairable sn_InvalidRecord sn_Busy sn_Written sn_NotReady sn_InvalidNumber sn_InvalidRules sn_InvalidStore sn_Ambiguous sn_NoWriter sn_Unsafe sn_UnequalSizes sn_InvalidUpdate sn_InvalidKind sn_InvalidChange sn_InvalidOrder sn_NoStory sn_NotInBook sn_Down sn_NotDown sn_NothingToUndo sn_NothingToRedo : List Str}
    {ab_MendError ab_InvalidSize ab_InvalidImage ab_NotState ab_Unrepairable ab_InvalidRecord ab_Busy ab_Written ab_NotReady ab_InvalidNumber ab_InvalidRules ab_InvalidStore ab_Ambiguous ab_NoWriter ab_Unsafe ab_UnequalSizes ab_InvalidUpdate ab_InvalidKind ab_InvalidChange ab_InvalidOrder ab_NoStory ab_NotInBook ab_Down ab_NotDown ab_NothingToUndo ab_NothingToRedo : Bool}
    {col_MendError col_InvalidSize col_InvalidImage col_NotState col_Unrepairable col_InvalidRecord col_Busy col_Written col_NotReady col_InvalidNumber col_InvalidRules col_InvalidStore col_Ambiguous col_NoWriter col_Unsafe col_UnequalSizes col_InvalidUpdate col_InvalidKind col_InvalidChange col_InvalidOrder col_NoStory col_NotInBook col_Down col_NotDown col_NothingToUndo col_NothingToRedo : Option Bool}
    {k0_MendError k1_MendError k2_MendError k3_MendError k5_MendError k0_InvalidSize k1_InvalidSize k2_InvalidSize k3_InvalidSize k5_InvalidSize k0_InvalidImage k1_InvalidImage k2_InvalidImage k3_InvalidImage k5_InvalidImage k0_NotState k1_NotState k2_NotState k3_NotState k5_NotState k0_Unrepairable k1_Unrepairable k2_Unrepairable k3_Unrepairable k5_Unrepairable k0_InvalidRecord k1_InvalidRecord k2_InvalidRecord k3_InvalidRecord k5_InvalidRecord k0_Busy k1_Busy k2_Busy k3_Busy k5_Busy k0_Written k1_Written k2_Written k3_Written k5_Written k0_NotReady k1_NotReady k2_NotReady k3_NotReady k5_NotReady k0_InvalidNumber k1_InvalidNumber k2_InvalidNumber k3_InvalidNumber k5_InvalidNumber k0_InvalidRules k1_InvalidRules k2_InvalidRules k3_InvalidRules k5_InvalidRules k0_InvalidStore k1_InvalidStore k2_InvalidStore k3_InvalidStore k5_InvalidStore k0_Ambiguous k1_Ambiguous k2_Ambiguous k3_Ambiguous k5_Ambiguous k0_NoWriter k1_NoWriter k2_NoWriter k3_NoWriter k5_NoWriter k0_Unsafe k1_Unsafe k2_Unsafe k3_Unsafe k5_Unsafe k0_UnequalSizes k1_UnequalSizes k2_UnequalSizes k3_UnequalSizes k5_UnequalSizes k0_InvalidUpdate k1_InvalidUpdate k2_InvalidUpdate k3_InvalidUpdate k5_InvalidUpdate k0_InvalidKind k1_InvalidKind k2_InvalidKind k3_InvalidKind k5_InvalidKind k0_InvalidChange k1_InvalidChange k2_InvalidChange k3_InvalidChange k5_InvalidChange k0_InvalidOrder k1_InvalidOrder k2_InvalidOrder k3_InvalidOrder k5_InvalidOrder k0_NoStory k1_NoStory k2_NoStory k3_NoStory k5_NoStory k0_NotInBook k1_NotInBook k2_NotInBook k3_NotInBook k5_NotInBook k0_Down k1_Down k2_Down k3_Down k5_Down k0_NotDown k1_NotDown k2_NotDown k3_NotDown k5_NotDown k0_NothingToUndo k1_NothingToUndo k2_NothingToUndo k3_NothingToUndo k5_NothingToUndo k0_NothingToRedo k1_NothingToRedo k2_NothingToRedo k3_NothingToRedo k5_NothingToRedo : Option Value}
    (X : K.In h) (G : h.Ns mainGlobals mg) (hfa : mg "law" = some (.ref fa))
    (a_own : PySem.W.nsIn K mainGlobals "_own" = some (some (.ref f_own)))
    (l_own : K.lookup f_own = some ⟨oc_own, od_own, .func (PySem.W.fnOf "_own" "_own" (defArgs s_own) (defBody s_own) (defScope s_own) .none kV_own doc_own pm_own an_own cd_own ct_own), sl_own⟩)
    (cd_is_own : PySem.W.codeIn K cd_own "_own" = true)
    (k_own : PySem.W.keepIn K (.ref f_own) = true)
    (a_check_image : PySem.W.nsIn K mainGlobals "check_image" = some (some (.ref f_check_image)))
    (l_check_image : K.lookup f_check_image = some ⟨oc_check_image, od_check_image, .func (PySem.W.fnOf "check_image" "check_image" (defArgs s_check_image) (defBody s_check_image) (defScope s_check_image) .none kV_check_image doc_check_image pm_check_image an_check_image cd_check_image ct_check_image), sl_check_image⟩)
    (cd_is_check_image : PySem.W.codeIn K cd_check_image "check_image" = true)
    (k_check_image : PySem.W.keepIn K (.ref f_check_image) = true)
    (a_is_state : PySem.W.nsIn K mainGlobals "is_state" = some (some (.ref f_is_state)))
    (l_is_state : K.lookup f_is_state = some ⟨oc_is_state, od_is_state, .func (PySem.W.fnOf "is_state" "is_state" (defArgs s_is_state) (defBody s_is_state) (defScope s_is_state) .none kV_is_state doc_is_state pm_is_state an_is_state cd_is_state ct_is_state), sl_is_state⟩)
    (cd_is_is_state : PySem.W.codeIn K cd_is_state "is_state" = true)
    (k_is_state : PySem.W.keepIn K (.ref f_is_state) = true)
    (a_check_state : PySem.W.nsIn K mainGlobals "check_state" = some (some (.ref f_check_state)))
    (l_check_state : K.lookup f_check_state = some ⟨oc_check_state, od_check_state, .func (PySem.W.fnOf "check_state" "check_state" (defArgs s_check_state) (defBody s_check_state) (defScope s_check_state) .none kV_check_state doc_check_state pm_check_state an_check_state cd_check_state ct_check_state), sl_check_state⟩)
    (cd_is_check_state : PySem.W.codeIn K cd_check_state "check_state" = true)
    (k_check_state : PySem.W.keepIn K (.ref f_check_state) = true)
    (a_check_pair : PySem.W.nsIn K mainGlobals "check_pair" = some (some (.ref f_check_pair)))
    (l_check_pair : K.lookup f_check_pair = some ⟨oc_check_pair, od_check_pair, .func (PySem.W.fnOf "check_pair" "check_pair" (defArgs s_check_pair) (defBody s_check_pair) (defScope s_check_pair) .none kV_check_pair doc_check_pair pm_check_pair an_check_pair cd_check_pair ct_check_pair), sl_check_pair⟩)
    (cd_is_check_pair : PySem.W.codeIn K cd_check_pair "check_pair" = true)
    (k_check_pair : PySem.W.keepIn K (.ref f_check_pair) = true)
    (a_law_bag : PySem.W.nsIn K mainGlobals "_law_bag" = some (some (.ref f_law_bag)))
    (l_law_bag : K.lookup f_law_bag = some ⟨oc_law_bag, od_law_bag, .func (PySem.W.fnOf "_law_bag" "_law_bag" (defArgs s_law_bag) (defBody s_law_bag) (defScope s_law_bag) .none kV_law_bag doc_law_bag pm_law_bag an_law_bag cd_law_bag ct_law_bag), sl_law_bag⟩)
    (cd_is_law_bag : PySem.W.codeIn K cd_law_bag "_law_bag" = true)
    (k_law_bag : PySem.W.keepIn K (.ref f_law_bag) = true)
    (a_law_take : PySem.W.nsIn K mainGlobals "_law_take" = some (some (.ref f_law_take)))
    (l_law_take : K.lookup f_law_take = some ⟨oc_law_take, od_law_take, .func (PySem.W.fnOf "_law_take" "_law_take" (defArgs s_law_take) (defBody s_law_take) (defScope s_law_take) .none kV_law_take doc_law_take pm_law_take an_law_take cd_law_take ct_law_take), sl_law_take⟩)
    (cd_is_law_take : PySem.W.codeIn K cd_law_take "_law_take" = true)
    (k_law_take : PySem.W.keepIn K (.ref f_law_take) = true)
    (a_law_order : PySem.W.nsIn K mainGlobals "_law_order" = some (some (.ref f_law_order)))
    (l_law_order : K.lookup f_law_order = some ⟨oc_law_order, od_law_order, .func (PySem.W.fnOf "_law_order" "_law_order" (defArgs s_law_order) (defBody s_law_order) (defScope s_law_order) .none kV_law_order doc_law_order pm_law_order an_law_order cd_law_order ct_law_order), sl_law_order⟩)
    (cd_is_law_order : PySem.W.codeIn K cd_law_order "_law_order" = true)
    (k_law_order : PySem.W.keepIn K (.ref f_law_order) = true)
    (a_law_size : PySem.W.nsIn K mainGlobals "_law_size" = some (some (.ref f_law_size)))
    (l_law_size : K.lookup f_law_size = some ⟨oc_law_size, od_law_size, .func (PySem.W.fnOf "_law_size" "_law_size" (defArgs s_law_size) (defBody s_law_size) (defScope s_law_size) .none kV_law_size doc_law_size pm_law_size an_law_size cd_law_size ct_law_size), sl_law_size⟩)
    (cd_is_law_size : PySem.W.codeIn K cd_law_size "_law_size" = true)
    (k_law_size : PySem.W.keepIn K (.ref f_law_size) = true)
    (a_law_entry : PySem.W.nsIn K mainGlobals "_law_entry" = some (some (.ref f_law_entry)))
    (l_law_entry : K.lookup f_law_entry = some ⟨oc_law_entry, od_law_entry, .func (PySem.W.fnOf "_law_entry" "_law_entry" (defArgs s_law_entry) (defBody s_law_entry) (defScope s_law_entry) .none kV_law_entry doc_law_entry pm_law_entry an_law_entry cd_law_entry ct_law_entry), sl_law_entry⟩)
    (cd_is_law_entry : PySem.W.codeIn K cd_law_entry "_law_entry" = true)
    (k_law_entry : PySem.W.keepIn K (.ref f_law_entry) = true)
    (a_law_drawn : PySem.W.nsIn K mainGlobals "_law_drawn" = some (some (.ref f_law_drawn)))
    (l_law_drawn : K.lookup f_law_drawn = some ⟨oc_law_drawn, od_law_drawn, .func (PySem.W.fnOf "_law_drawn" "_law_drawn" (defArgs s_law_drawn) (defBody s_law_drawn) (defScope s_law_drawn) .none kV_law_drawn doc_law_drawn pm_law_drawn an_law_drawn cd_law_drawn ct_law_drawn), sl_law_drawn⟩)
    (cd_is_law_drawn : PySem.W.codeIn K cd_law_drawn "_law_drawn" = true)
    (k_law_drawn : PySem.W.keepIn K (.ref f_law_drawn) = true)
    (a_law_entries_due : PySem.W.nsIn K mainGlobals "_law_entries_due" = some (some (.ref f_law_entries_due)))
    (l_law_entries_due : K.lookup f_law_entries_due = some ⟨oc_law_entries_due, od_law_entries_due, .func (PySem.W.fnOf "_law_entries_due" "_law_entries_due" (defArgs s_law_entries_due) (defBody s_law_entries_due) (defScope s_law_entries_due) .none kV_law_entries_due doc_law_entries_due pm_law_entries_due an_law_entries_due cd_law_entries_due ct_law_entries_due), sl_law_entries_due⟩)
    (cd_is_law_entries_due : PySem.W.codeIn K cd_law_entries_due "_law_entries_due" = true)
    (k_law_entries_due : PySem.W.keepIn K (.ref f_law_entries_due) = true)
    (a_law_state_due : PySem.W.nsIn K mainGlobals "_law_state_due" = some (some (.ref f_law_state_due)))
    (l_law_state_due : K.lookup f_law_state_due = some ⟨oc_law_state_due, od_law_state_due, .func (PySem.W.fnOf "_law_state_due" "_law_state_due" (defArgs s_law_state_due) (defBody s_law_state_due) (defScope s_law_state_due) .none kV_law_state_due doc_law_state_due pm_law_state_due an_law_state_due cd_law_state_due ct_law_state_due), sl_law_state_due⟩)
    (cd_is_law_state_due : PySem.W.codeIn K cd_law_state_due "_law_state_due" = true)
    (k_law_state_due : PySem.W.keepIn K (.ref f_law_state_due) = true)
    (a_law_pair_due : PySem.W.nsIn K mainGlobals "_law_pair_due" = some (some (.ref f_law_pair_due)))
    (l_law_pair_due : K.lookup f_law_pair_due = some ⟨oc_law_pair_due, od_law_pair_due, .func (PySem.W.fnOf "_law_pair_due" "_law_pair_due" (defArgs s_law_pair_due) (defBody s_law_pair_due) (defScope s_law_pair_due) .none kV_law_pair_due doc_law_pair_due pm_law_pair_due an_law_pair_due cd_law_pair_due ct_law_pair_due), sl_law_pair_due⟩)
    (cd_is_law_pair_due : PySem.W.codeIn K cd_law_pair_due "_law_pair_due" = true)
    (k_law_pair_due : PySem.W.keepIn K (.ref f_law_pair_due) = true)
    (a_law_told_image : PySem.W.nsIn K mainGlobals "_law_told_image" = some (some (.ref f_law_told_image)))
    (l_law_told_image : K.lookup f_law_told_image = some ⟨oc_law_told_image, od_law_told_image, .func (PySem.W.fnOf "_law_told_image" "_law_told_image" (defArgs s_law_told_image) (defBody s_law_told_image) (defScope s_law_told_image) .none kV_law_told_image doc_law_told_image pm_law_told_image an_law_told_image cd_law_told_image ct_law_told_image), sl_law_told_image⟩)
    (cd_is_law_told_image : PySem.W.codeIn K cd_law_told_image "_law_told_image" = true)
    (k_law_told_image : PySem.W.keepIn K (.ref f_law_told_image) = true)
    (a_law_told_is_state : PySem.W.nsIn K mainGlobals "_law_told_is_state" = some (some (.ref f_law_told_is_state)))
    (l_law_told_is_state : K.lookup f_law_told_is_state = some ⟨oc_law_told_is_state, od_law_told_is_state, .func (PySem.W.fnOf "_law_told_is_state" "_law_told_is_state" (defArgs s_law_told_is_state) (defBody s_law_told_is_state) (defScope s_law_told_is_state) .none kV_law_told_is_state doc_law_told_is_state pm_law_told_is_state an_law_told_is_state cd_law_told_is_state ct_law_told_is_state), sl_law_told_is_state⟩)
    (cd_is_law_told_is_state : PySem.W.codeIn K cd_law_told_is_state "_law_told_is_state" = true)
    (k_law_told_is_state : PySem.W.keepIn K (.ref f_law_told_is_state) = true)
    (a_law_told_state : PySem.W.nsIn K mainGlobals "_law_told_state" = some (some (.ref f_law_told_state)))
    (l_law_told_state : K.lookup f_law_told_state = some ⟨oc_law_told_state, od_law_told_state, .func (PySem.W.fnOf "_law_told_state" "_law_told_state" (defArgs s_law_told_state) (defBody s_law_told_state) (defScope s_law_told_state) .none kV_law_told_state doc_law_told_state pm_law_told_state an_law_told_state cd_law_told_state ct_law_told_state), sl_law_told_state⟩)
    (cd_is_law_told_state : PySem.W.codeIn K cd_law_told_state "_law_told_state" = true)
    (k_law_told_state : PySem.W.keepIn K (.ref f_law_told_state) = true)
    (a_law_told_pair : PySem.W.nsIn K mainGlobals "_law_told_pair" = some (some (.ref f_law_told_pair)))
    (l_law_told_pair : K.lookup f_law_told_pair = some ⟨oc_law_told_pair, od_law_told_pair, .func (PySem.W.fnOf "_law_told_pair" "_law_told_pair" (defArgs s_law_told_pair) (defBody s_law_told_pair) (defScope s_law_told_pair) .none kV_law_told_pair doc_law_told_pair pm_law_told_pair an_law_told_pair cd_law_told_pair ct_law_told_pair), sl_law_told_pair⟩)
    (cd_is_law_told_pair : PySem.W.codeIn K cd_law_told_pair "_law_told_pair" = true)
    (k_law_told_pair : PySem.W.keepIn K (.ref f_law_told_pair) = true)
    (a_law_meets : PySem.W.nsIn K mainGlobals "_law_meets" = some (some (.ref f_law_meets)))
    (l_law_meets : K.lookup f_law_meets = some ⟨oc_law_meets, od_law_meets, .func (PySem.W.fnOf "_law_meets" "_law_meets" (defArgs s_law_meets) (defBody s_law_meets) (defScope s_law_meets) .none kV_law_meets doc_law_meets pm_law_meets an_law_meets cd_law_meets ct_law_meets), sl_law_meets⟩)
    (cd_is_law_meets : PySem.W.codeIn K cd_law_meets "_law_meets" = true)
    (k_law_meets : PySem.W.keepIn K (.ref f_law_meets) = true)
    (a_law_one_checked : PySem.W.nsIn K mainGlobals "_law_one_checked" = some (some (.ref f_law_one_checked)))
    (l_law_one_checked : K.lookup f_law_one_checked = some ⟨oc_law_one_checked, od_law_one_checked, .func (PySem.W.fnOf "_law_one_checked" "_law_one_checked" (defArgs s_law_one_checked) (defBody s_law_one_checked) (defScope s_law_one_checked) .none kV_law_one_checked doc_law_one_checked pm_law_one_checked an_law_one_checked cd_law_one_checked ct_law_one_checked), sl_law_one_checked⟩)
    (cd_is_law_one_checked : PySem.W.codeIn K cd_law_one_checked "_law_one_checked" = true)
    (k_law_one_checked : PySem.W.keepIn K (.ref f_law_one_checked) = true)
    (a_law_two_checked : PySem.W.nsIn K mainGlobals "_law_two_checked" = some (some (.ref f_law_two_checked)))
    (l_law_two_checked : K.lookup f_law_two_checked = some ⟨oc_law_two_checked, od_law_two_checked, .func (PySem.W.fnOf "_law_two_checked" "_law_two_checked" (defArgs s_law_two_checked) (defBody s_law_two_checked) (defScope s_law_two_checked) .none kV_law_two_checked doc_law_two_checked pm_law_two_checked an_law_two_checked cd_law_two_checked ct_law_two_checked), sl_law_two_checked⟩)
    (cd_is_law_two_checked : PySem.W.codeIn K cd_law_two_checked "_law_two_checked" = true)
    (k_law_two_checked : PySem.W.keepIn K (.ref f_law_two_checked) = true)
    (a_law_marks : PySem.W.nsIn K mainGlobals "_law_marks" = some (some (.ref f_law_marks)))
    (l_law_marks : K.lookup f_law_marks = some ⟨oc_law_marks, od_law_marks, .func (PySem.W.fnOf "_law_marks" "_law_marks" (defArgs s_law_marks) (defBody s_law_marks) (defScope s_law_marks) .none kV_law_marks doc_law_marks pm_law_marks an_law_marks cd_law_marks ct_law_marks), sl_law_marks⟩)
    (cd_is_law_marks : PySem.W.codeIn K cd_law_marks "_law_marks" = true)
    (k_law_marks : PySem.W.keepIn K (.ref f_law_marks) = true)
    (a_law_errors_apart : PySem.W.nsIn K mainGlobals "_law_errors_apart" = some (some (.ref f_law_errors_apart)))
    (l_law_errors_apart : K.lookup f_law_errors_apart = some ⟨oc_law_errors_apart, od_law_errors_apart, .func (PySem.W.fnOf "_law_errors_apart" "_law_errors_apart" (defArgs s_law_errors_apart) (defBody s_law_errors_apart) (defScope s_law_errors_apart) .none kV_law_errors_apart doc_law_errors_apart pm_law_errors_apart an_law_errors_apart cd_law_errors_apart ct_law_errors_apart), sl_law_errors_apart⟩)
    (cd_is_law_errors_apart : PySem.W.codeIn K cd_law_errors_apart "_law_errors_apart" = true)
    (k_law_errors_apart : PySem.W.keepIn K (.ref f_law_errors_apart) = true)
    (a_law_errors_keep : PySem.W.nsIn K mainGlobals "_law_errors_keep" = some (some (.ref f_law_errors_keep)))
    (l_law_errors_keep : K.lookup f_law_errors_keep = some ⟨oc_law_errors_keep, od_law_errors_keep, .func (PySem.W.fnOf "_law_errors_keep" "_law_errors_keep" (defArgs s_law_errors_keep) (defBody s_law_errors_keep) (defScope s_law_errors_keep) .none kV_law_errors_keep doc_law_errors_keep pm_law_errors_keep an_law_errors_keep cd_law_errors_keep ct_law_errors_keep), sl_law_errors_keep⟩)
    (cd_is_law_errors_keep : PySem.W.codeIn K cd_law_errors_keep "_law_errors_keep" = true)
    (k_law_errors_keep : PySem.W.keepIn K (.ref f_law_errors_keep) = true)
    (a_law : PySem.W.nsIn K mainGlobals "law" = some (some (.ref f_law)))
    (l_law : K.lookup f_law = some ⟨oc_law, od_law, .func (PySem.W.fnOf "law" "law" (defArgs s_law) (defBody s_law) (defScope s_law) .none kV_law doc_law pm_law an_law cd_law ct_law), sl_law⟩)
    (cd_is_law : PySem.W.codeIn K cd_law "law" = true)
    (k_law : PySem.W.keepIn K (.ref f_law) = true)
    (a_MendError : PySem.W.nsIn K mainGlobals "MendError" = some (some (.ref c_MendError)))
    (x_MendError : K.lookup c_MendError = some (excClassObj nm_MendError q_MendError c_MendError N_MendError_ bs_MendError bm_MendError true sn_MendError sub_MendError ab_MendError col_MendError dd_MendError k0_MendError k1_MendError k2_MendError k3_MendError k5_MendError "ValueError.__new__"))
    (a_InvalidSize : PySem.W.nsIn K mainGlobals "InvalidSize" = some (some (.ref c_InvalidSize)))
    (x_InvalidSize : K.lookup c_InvalidSize = some (excClassObj nm_InvalidSize q_InvalidSize c_InvalidSize N_InvalidSize_ bs_InvalidSize [.ref c_MendError, .type "ValueError", .type "Exception", .type "BaseException", .type "object"] true sn_InvalidSize sub_InvalidSize ab_InvalidSize col_InvalidSize dd_InvalidSize k0_InvalidSize k1_InvalidSize k2_InvalidSize k3_InvalidSize k5_InvalidSize "ValueError.__new__"))
    (kc_InvalidSize : PySem.W.keepIn K (.ref c_InvalidSize) = true)
    (sa_InvalidSize : PySem.W.findIn K (.ref c_InvalidSize) "__setattr__" = some (some (.builtin "object.__setattr__")))
    (ga_InvalidSize : PySem.W.findIn K (.ref c_InvalidSize) "__getattribute__" = some (some (.builtin "BaseException.__getattribute__")))
    (gg_InvalidSize : PySem.W.findIn K (.ref c_InvalidSize) "__getattr__" = some none)
    (ca_InvalidSize : PySem.W.findIn K (.ref c_InvalidSize) "__class__" = some (some (.builtin "object.__class__")))
    (i_is_InvalidSize : PySem.W.findIn K (.ref c_InvalidSize) "__init__" = some (some (.ref i_InvalidSize)))
    (t_InvalidSize : PySem.W.typeIn K (.ref i_InvalidSize) = some (.type "function"))
    (nf_InvalidSize : PySem.W.findIn K (.ref c_InvalidSize) "size" = some none)
    (l_i_InvalidSize : K.lookup i_InvalidSize = some ⟨oc_i_InvalidSize, od_i_InvalidSize, .func (PySem.W.fnOf "__init__" "InvalidSize.__init__" (defArgs s_InvalidSize) (defBody s_InvalidSize) (defScope s_InvalidSize) .none kV_i_InvalidSize doc_i_InvalidSize pm_i_InvalidSize an_i_InvalidSize cd_i_InvalidSize ct_i_InvalidSize), sl_i_InvalidSize⟩)
    (cd_is_i_InvalidSize : PySem.W.codeIn K cd_i_InvalidSize "InvalidSize.__init__" = true)
    (k_i_InvalidSize : PySem.W.keepIn K (.ref i_InvalidSize) = true)
    (a_InvalidImage : PySem.W.nsIn K mainGlobals "InvalidImage" = some (some (.ref c_InvalidImage)))
    (x_InvalidImage : K.lookup c_InvalidImage = some (excClassObj nm_InvalidImage q_InvalidImage c_InvalidImage N_InvalidImage_ bs_InvalidImage [.ref c_MendError, .type "ValueError", .type "Exception", .type "BaseException", .type "object"] true sn_InvalidImage sub_InvalidImage ab_InvalidImage col_InvalidImage dd_InvalidImage k0_InvalidImage k1_InvalidImage k2_InvalidImage k3_InvalidImage k5_InvalidImage "ValueError.__new__"))
    (kc_InvalidImage : PySem.W.keepIn K (.ref c_InvalidImage) = true)
    (sa_InvalidImage : PySem.W.findIn K (.ref c_InvalidImage) "__setattr__" = some (some (.builtin "object.__setattr__")))
    (ga_InvalidImage : PySem.W.findIn K (.ref c_InvalidImage) "__getattribute__" = some (some (.builtin "BaseException.__getattribute__")))
    (gg_InvalidImage : PySem.W.findIn K (.ref c_InvalidImage) "__getattr__" = some none)
    (ca_InvalidImage : PySem.W.findIn K (.ref c_InvalidImage) "__class__" = some (some (.builtin "object.__class__")))
    (i_is_InvalidImage : PySem.W.findIn K (.ref c_InvalidImage) "__init__" = some (some (.ref i_InvalidImage)))
    (t_InvalidImage : PySem.W.typeIn K (.ref i_InvalidImage) = some (.type "function"))
    (nf_InvalidImage : PySem.W.findIn K (.ref c_InvalidImage) "record" = some none)
    (l_i_InvalidImage : K.lookup i_InvalidImage = some ⟨oc_i_InvalidImage, od_i_InvalidImage, .func (PySem.W.fnOf "__init__" "InvalidImage.__init__" (defArgs s_InvalidImage) (defBody s_InvalidImage) (defScope s_InvalidImage) .none kV_i_InvalidImage doc_i_InvalidImage pm_i_InvalidImage an_i_InvalidImage cd_i_InvalidImage ct_i_InvalidImage), sl_i_InvalidImage⟩)
    (cd_is_i_InvalidImage : PySem.W.codeIn K cd_i_InvalidImage "InvalidImage.__init__" = true)
    (k_i_InvalidImage : PySem.W.keepIn K (.ref i_InvalidImage) = true)
    (a_NotState : PySem.W.nsIn K mainGlobals "NotState" = some (some (.ref c_NotState)))
    (x_NotState : K.lookup c_NotState = some (excClassObj nm_NotState q_NotState c_NotState N_NotState_ bs_NotState [.ref c_MendError, .type "ValueError", .type "Exception", .type "BaseException", .type "object"] true sn_NotState sub_NotState ab_NotState col_NotState dd_NotState k0_NotState k1_NotState k2_NotState k3_NotState k5_NotState "ValueError.__new__"))
    (kc_NotState : PySem.W.keepIn K (.ref c_NotState) = true)
    (sa_NotState : PySem.W.findIn K (.ref c_NotState) "__setattr__" = some (some (.builtin "object.__setattr__")))
    (ga_NotState : PySem.W.findIn K (.ref c_NotState) "__getattribute__" = some (some (.builtin "BaseException.__getattribute__")))
    (gg_NotState : PySem.W.findIn K (.ref c_NotState) "__getattr__" = some none)
    (ca_NotState : PySem.W.findIn K (.ref c_NotState) "__class__" = some (some (.builtin "object.__class__")))
    (i_is_NotState : PySem.W.findIn K (.ref c_NotState) "__init__" = some (some (.ref i_NotState)))
    (t_NotState : PySem.W.typeIn K (.ref i_NotState) = some (.type "function"))
    (nf_NotState : PySem.W.findIn K (.ref c_NotState) "record" = some none)
    (l_i_NotState : K.lookup i_NotState = some ⟨oc_i_NotState, od_i_NotState, .func (PySem.W.fnOf "__init__" "NotState.__init__" (defArgs s_NotState) (defBody s_NotState) (defScope s_NotState) .none kV_i_NotState doc_i_NotState pm_i_NotState an_i_NotState cd_i_NotState ct_i_NotState), sl_i_NotState⟩)
    (cd_is_i_NotState : PySem.W.codeIn K cd_i_NotState "NotState.__init__" = true)
    (k_i_NotState : PySem.W.keepIn K (.ref i_NotState) = true)
    (a_Unrepairable : PySem.W.nsIn K mainGlobals "Unrepairable" = some (some (.ref c_Unrepairable)))
    (x_Unrepairable : K.lookup c_Unrepairable = some (excClassObj nm_Unrepairable q_Unrepairable c_Unrepairable N_Unrepairable_ bs_Unrepairable [.ref c_MendError, .type "ValueError", .type "Exception", .type "BaseException", .type "object"] true sn_Unrepairable sub_Unrepairable ab_Unrepairable col_Unrepairable dd_Unrepairable k0_Unrepairable k1_Unrepairable k2_Unrepairable k3_Unrepairable k5_Unrepairable "ValueError.__new__"))
    (kc_Unrepairable : PySem.W.keepIn K (.ref c_Unrepairable) = true)
    (sa_Unrepairable : PySem.W.findIn K (.ref c_Unrepairable) "__setattr__" = some (some (.builtin "object.__setattr__")))
    (ga_Unrepairable : PySem.W.findIn K (.ref c_Unrepairable) "__getattribute__" = some (some (.builtin "BaseException.__getattribute__")))
    (gg_Unrepairable : PySem.W.findIn K (.ref c_Unrepairable) "__getattr__" = some none)
    (ca_Unrepairable : PySem.W.findIn K (.ref c_Unrepairable) "__class__" = some (some (.builtin "object.__class__")))
    (i_is_Unrepairable : PySem.W.findIn K (.ref c_Unrepairable) "__init__" = some (some (.ref i_Unrepairable)))
    (t_Unrepairable : PySem.W.typeIn K (.ref i_Unrepairable) = some (.type "function"))
    (nf_Unrepairable : PySem.W.findIn K (.ref c_Unrepairable) "group" = some none)
    (l_i_Unrepairable : K.lookup i_Unrepairable = some ⟨oc_i_Unrepairable, od_i_Unrepairable, .func (PySem.W.fnOf "__init__" "Unrepairable.__init__" (defArgs s_Unrepairable) (defBody s_Unrepairable) (defScope s_Unrepairable) .none kV_i_Unrepairable doc_i_Unrepairable pm_i_Unrepairable an_i_Unrepairable cd_i_Unrepairable ct_i_Unrepairable), sl_i_Unrepairable⟩)
    (cd_is_i_Unrepairable : PySem.W.codeIn K cd_i_Unrepairable "Unrepairable.__init__" = true)
    (k_i_Unrepairable : PySem.W.keepIn K (.ref i_Unrepairable) = true)
    (a_InvalidRecord : PySem.W.nsIn K mainGlobals "InvalidRecord" = some (some (.ref c_InvalidRecord)))
    (x_InvalidRecord : K.lookup c_InvalidRecord = some (excClassObj nm_InvalidRecord q_InvalidRecord c_InvalidRecord N_InvalidRecord_ bs_InvalidRecord [.ref c_MendError, .type "ValueError", .type "Exception", .type "BaseException", .type "object"] true sn_InvalidRecord sub_InvalidRecord ab_InvalidRecord col_InvalidRecord dd_InvalidRecord k0_InvalidRecord k1_InvalidRecord k2_InvalidRecord k3_InvalidRecord k5_InvalidRecord "ValueError.__new__"))
    (kc_InvalidRecord : PySem.W.keepIn K (.ref c_InvalidRecord) = true)
    (sa_InvalidRecord : PySem.W.findIn K (.ref c_InvalidRecord) "__setattr__" = some (some (.builtin "object.__setattr__")))
    (ga_InvalidRecord : PySem.W.findIn K (.ref c_InvalidRecord) "__getattribute__" = some (some (.builtin "BaseException.__getattribute__")))
    (gg_InvalidRecord : PySem.W.findIn K (.ref c_InvalidRecord) "__getattr__" = some none)
    (ca_InvalidRecord : PySem.W.findIn K (.ref c_InvalidRecord) "__class__" = some (some (.builtin "object.__class__")))
    (i_is_InvalidRecord : PySem.W.findIn K (.ref c_InvalidRecord) "__init__" = some (some (.ref i_InvalidRecord)))
    (t_InvalidRecord : PySem.W.typeIn K (.ref i_InvalidRecord) = some (.type "function"))
    (nf_InvalidRecord : PySem.W.findIn K (.ref c_InvalidRecord) "record" = some none)
    (l_i_InvalidRecord : K.lookup i_InvalidRecord = some ⟨oc_i_InvalidRecord, od_i_InvalidRecord, .func (PySem.W.fnOf "__init__" "InvalidRecord.__init__" (defArgs s_InvalidRecord) (defBody s_InvalidRecord) (defScope s_InvalidRecord) .none kV_i_InvalidRecord doc_i_InvalidRecord pm_i_InvalidRecord an_i_InvalidRecord cd_i_InvalidRecord ct_i_InvalidRecord), sl_i_InvalidRecord⟩)
    (cd_is_i_InvalidRecord : PySem.W.codeIn K cd_i_InvalidRecord "InvalidRecord.__init__" = true)
    (k_i_InvalidRecord : PySem.W.keepIn K (.ref i_InvalidRecord) = true)
    (a_Busy : PySem.W.nsIn K mainGlobals "Busy" = some (some (.ref c_Busy)))
    (x_Busy : K.lookup c_Busy = some (excClassObj nm_Busy q_Busy c_Busy N_Busy_ bs_Busy [.ref c_MendError, .type "ValueError", .type "Exception", .type "BaseException", .type "object"] true sn_Busy sub_Busy ab_Busy col_Busy dd_Busy k0_Busy k1_Busy k2_Busy k3_Busy k5_Busy "ValueError.__new__"))
    (kc_Busy : PySem.W.keepIn K (.ref c_Busy) = true)
    (sa_Busy : PySem.W.findIn K (.ref c_Busy) "__setattr__" = some (some (.builtin "object.__setattr__")))
    (ga_Busy : PySem.W.findIn K (.ref c_Busy) "__getattribute__" = some (some (.builtin "BaseException.__getattribute__")))
    (gg_Busy : PySem.W.findIn K (.ref c_Busy) "__getattr__" = some none)
    (ca_Busy : PySem.W.findIn K (.ref c_Busy) "__class__" = some (some (.builtin "object.__class__")))
    (i_is_Busy : PySem.W.findIn K (.ref c_Busy) "__init__" = some (some (.ref i_Busy)))
    (t_Busy : PySem.W.typeIn K (.ref i_Busy) = some (.type "function"))
    (nf_Busy : PySem.W.findIn K (.ref c_Busy) "record" = some none)
    (l_i_Busy : K.lookup i_Busy = some ⟨oc_i_Busy, od_i_Busy, .func (PySem.W.fnOf "__init__" "Busy.__init__" (defArgs s_Busy) (defBody s_Busy) (defScope s_Busy) .none kV_i_Busy doc_i_Busy pm_i_Busy an_i_Busy cd_i_Busy ct_i_Busy), sl_i_Busy⟩)
    (cd_is_i_Busy : PySem.W.codeIn K cd_i_Busy "Busy.__init__" = true)
    (k_i_Busy : PySem.W.keepIn K (.ref i_Busy) = true)
    (a_Written : PySem.W.nsIn K mainGlobals "Written" = some (some (.ref c_Written)))
    (x_Written : K.lookup c_Written = some (excClassObj nm_Written q_Written c_Written N_Written_ bs_Written [.ref c_MendError, .type "ValueError", .type "Exception", .type "BaseException", .type "object"] true sn_Written sub_Written ab_Written col_Written dd_Written k0_Written k1_Written k2_Written k3_Written k5_Written "ValueError.__new__"))
    (kc_Written : PySem.W.keepIn K (.ref c_Written) = true)
    (sa_Written : PySem.W.findIn K (.ref c_Written) "__setattr__" = some (some (.builtin "object.__setattr__")))
    (ga_Written : PySem.W.findIn K (.ref c_Written) "__getattribute__" = some (some (.builtin "BaseException.__getattribute__")))
    (gg_Written : PySem.W.findIn K (.ref c_Written) "__getattr__" = some none)
    (ca_Written : PySem.W.findIn K (.ref c_Written) "__class__" = some (some (.builtin "object.__class__")))
    (i_is_Written : PySem.W.findIn K (.ref c_Written) "__init__" = some (some (.ref i_Written)))
    (t_Written : PySem.W.typeIn K (.ref i_Written) = some (.type "function"))
    (nf_Written : PySem.W.findIn K (.ref c_Written) "record" = some none)
    (l_i_Written : K.lookup i_Written = some ⟨oc_i_Written, od_i_Written, .func (PySem.W.fnOf "__init__" "Written.__init__" (defArgs s_Written) (defBody s_Written) (defScope s_Written) .none kV_i_Written doc_i_Written pm_i_Written an_i_Written cd_i_Written ct_i_Written), sl_i_Written⟩)
    (cd_is_i_Written : PySem.W.codeIn K cd_i_Written "Written.__init__" = true)
    (k_i_Written : PySem.W.keepIn K (.ref i_Written) = true)
    (a_NotReady : PySem.W.nsIn K mainGlobals "NotReady" = some (some (.ref c_NotReady)))
    (x_NotReady : K.lookup c_NotReady = some (excClassObj nm_NotReady q_NotReady c_NotReady N_NotReady_ bs_NotReady [.ref c_MendError, .type "ValueError", .type "Exception", .type "BaseException", .type "object"] true sn_NotReady sub_NotReady ab_NotReady col_NotReady dd_NotReady k0_NotReady k1_NotReady k2_NotReady k3_NotReady k5_NotReady "ValueError.__new__"))
    (kc_NotReady : PySem.W.keepIn K (.ref c_NotReady) = true)
    (sa_NotReady : PySem.W.findIn K (.ref c_NotReady) "__setattr__" = some (some (.builtin "object.__setattr__")))
    (ga_NotReady : PySem.W.findIn K (.ref c_NotReady) "__getattribute__" = some (some (.builtin "BaseException.__getattribute__")))
    (gg_NotReady : PySem.W.findIn K (.ref c_NotReady) "__getattr__" = some none)
    (ca_NotReady : PySem.W.findIn K (.ref c_NotReady) "__class__" = some (some (.builtin "object.__class__")))
    (i_is_NotReady : PySem.W.findIn K (.ref c_NotReady) "__init__" = some (some (.ref i_NotReady)))
    (t_NotReady : PySem.W.typeIn K (.ref i_NotReady) = some (.type "function"))
    (nf_NotReady : PySem.W.findIn K (.ref c_NotReady) "record" = some none)
    (l_i_NotReady : K.lookup i_NotReady = some ⟨oc_i_NotReady, od_i_NotReady, .func (PySem.W.fnOf "__init__" "NotReady.__init__" (defArgs s_NotReady) (defBody s_NotReady) (defScope s_NotReady) .none kV_i_NotReady doc_i_NotReady pm_i_NotReady an_i_NotReady cd_i_NotReady ct_i_NotReady), sl_i_NotReady⟩)
    (cd_is_i_NotReady : PySem.W.codeIn K cd_i_NotReady "NotReady.__init__" = true)
    (k_i_NotReady : PySem.W.keepIn K (.ref i_NotReady) = true)
    (a_InvalidNumber : PySem.W.nsIn K mainGlobals "InvalidNumber" = some (some (.ref c_InvalidNumber)))
    (x_InvalidNumber : K.lookup c_InvalidNumber = some (excClassObj nm_InvalidNumber q_InvalidNumber c_InvalidNumber N_InvalidNumber_ bs_InvalidNumber [.ref c_MendError, .type "ValueError", .type "Exception", .type "BaseException", .type "object"] true sn_InvalidNumber sub_InvalidNumber ab_InvalidNumber col_InvalidNumber dd_InvalidNumber k0_InvalidNumber k1_InvalidNumber k2_InvalidNumber k3_InvalidNumber k5_InvalidNumber "ValueError.__new__"))
    (kc_InvalidNumber : PySem.W.keepIn K (.ref c_InvalidNumber) = true)
    (sa_InvalidNumber : PySem.W.findIn K (.ref c_InvalidNumber) "__setattr__" = some (some (.builtin "object.__setattr__")))
    (ga_InvalidNumber : PySem.W.findIn K (.ref c_InvalidNumber) "__getattribute__" = some (some (.builtin "BaseException.__getattribute__")))
    (gg_InvalidNumber : PySem.W.findIn K (.ref c_InvalidNumber) "__getattr__" = some none)
    (ca_InvalidNumber : PySem.W.findIn K (.ref c_InvalidNumber) "__class__" = some (some (.builtin "object.__class__")))
    (i_is_InvalidNumber : PySem.W.findIn K (.ref c_InvalidNumber) "__init__" = some (some (.ref i_InvalidNumber)))
    (t_InvalidNumber : PySem.W.typeIn K (.ref i_InvalidNumber) = some (.type "function"))
    (nf_InvalidNumber : PySem.W.findIn K (.ref c_InvalidNumber) "value" = some none)
    (l_i_InvalidNumber : K.lookup i_InvalidNumber = some ⟨oc_i_InvalidNumber, od_i_InvalidNumber, .func (PySem.W.fnOf "__init__" "InvalidNumber.__init__" (defArgs s_InvalidNumber) (defBody s_InvalidNumber) (defScope s_InvalidNumber) .none kV_i_InvalidNumber doc_i_InvalidNumber pm_i_InvalidNumber an_i_InvalidNumber cd_i_InvalidNumber ct_i_InvalidNumber), sl_i_InvalidNumber⟩)
    (cd_is_i_InvalidNumber : PySem.W.codeIn K cd_i_InvalidNumber "InvalidNumber.__init__" = true)
    (k_i_InvalidNumber : PySem.W.keepIn K (.ref i_InvalidNumber) = true)
    (a_InvalidRules : PySem.W.nsIn K mainGlobals "InvalidRules" = some (some (.ref c_InvalidRules)))
    (x_InvalidRules : K.lookup c_InvalidRules = some (excClassObj nm_InvalidRules q_InvalidRules c_InvalidRules N_InvalidRules_ bs_InvalidRules [.ref c_MendError, .type "ValueError", .type "Exception", .type "BaseException", .type "object"] true sn_InvalidRules sub_InvalidRules ab_InvalidRules col_InvalidRules dd_InvalidRules k0_InvalidRules k1_InvalidRules k2_InvalidRules k3_InvalidRules k5_InvalidRules "ValueError.__new__"))
    (kc_InvalidRules : PySem.W.keepIn K (.ref c_InvalidRules) = true)
    (sa_InvalidRules : PySem.W.findIn K (.ref c_InvalidRules) "__setattr__" = some (some (.builtin "object.__setattr__")))
    (ga_InvalidRules : PySem.W.findIn K (.ref c_InvalidRules) "__getattribute__" = some (some (.builtin "BaseException.__getattribute__")))
    (gg_InvalidRules : PySem.W.findIn K (.ref c_InvalidRules) "__getattr__" = some none)
    (ca_InvalidRules : PySem.W.findIn K (.ref c_InvalidRules) "__class__" = some (some (.builtin "object.__class__")))
    (i_is_InvalidRules : PySem.W.findIn K (.ref c_InvalidRules) "__init__" = some (some (.ref i_InvalidRules)))
    (t_InvalidRules : PySem.W.typeIn K (.ref i_InvalidRules) = some (.type "function"))
    (nf_InvalidRules : PySem.W.findIn K (.ref c_InvalidRules) "name" = some none)
    (l_i_InvalidRules : K.lookup i_InvalidRules = some ⟨oc_i_InvalidRules, od_i_InvalidRules, .func (PySem.W.fnOf "__init__" "InvalidRules.__init__" (defArgs s_InvalidRules) (defBody s_InvalidRules) (defScope s_InvalidRules) .none kV_i_InvalidRules doc_i_InvalidRules pm_i_InvalidRules an_i_InvalidRules cd_i_InvalidRules ct_i_InvalidRules), sl_i_InvalidRules⟩)
    (cd_is_i_InvalidRules : PySem.W.codeIn K cd_i_InvalidRules "InvalidRules.__init__" = true)
    (k_i_InvalidRules : PySem.W.keepIn K (.ref i_InvalidRules) = true)
    (a_InvalidStore : PySem.W.nsIn K mainGlobals "InvalidStore" = some (some (.ref c_InvalidStore)))
    (x_InvalidStore : K.lookup c_InvalidStore = some (excClassObj nm_InvalidStore q_InvalidStore c_InvalidStore N_InvalidStore_ bs_InvalidStore [.ref c_MendError, .type "ValueError", .type "Exception", .type "BaseException", .type "object"] true sn_InvalidStore sub_InvalidStore ab_InvalidStore col_InvalidStore dd_InvalidStore k0_InvalidStore k1_InvalidStore k2_InvalidStore k3_InvalidStore k5_InvalidStore "ValueError.__new__"))
    (kc_InvalidStore : PySem.W.keepIn K (.ref c_InvalidStore) = true)
    (sa_InvalidStore : PySem.W.findIn K (.ref c_InvalidStore) "__setattr__" = some (some (.builtin "object.__setattr__")))
    (ga_InvalidStore : PySem.W.findIn K (.ref c_InvalidStore) "__getattribute__" = some (some (.builtin "BaseException.__getattribute__")))
    (gg_InvalidStore : PySem.W.findIn K (.ref c_InvalidStore) "__getattr__" = some none)
    (ca_InvalidStore : PySem.W.findIn K (.ref c_InvalidStore) "__class__" = some (some (.builtin "object.__class__")))
    (i_is_InvalidStore : PySem.W.findIn K (.ref c_InvalidStore) "__init__" = some (some (.ref i_InvalidStore)))
    (t_InvalidStore : PySem.W.typeIn K (.ref i_InvalidStore) = some (.type "function"))
    (nf_InvalidStore : PySem.W.findIn K (.ref c_InvalidStore) "at" = some none)
    (l_i_InvalidStore : K.lookup i_InvalidStore = some ⟨oc_i_InvalidStore, od_i_InvalidStore, .func (PySem.W.fnOf "__init__" "InvalidStore.__init__" (defArgs s_InvalidStore) (defBody s_InvalidStore) (defScope s_InvalidStore) .none kV_i_InvalidStore doc_i_InvalidStore pm_i_InvalidStore an_i_InvalidStore cd_i_InvalidStore ct_i_InvalidStore), sl_i_InvalidStore⟩)
    (cd_is_i_InvalidStore : PySem.W.codeIn K cd_i_InvalidStore "InvalidStore.__init__" = true)
    (k_i_InvalidStore : PySem.W.keepIn K (.ref i_InvalidStore) = true)
    (a_Ambiguous : PySem.W.nsIn K mainGlobals "Ambiguous" = some (some (.ref c_Ambiguous)))
    (x_Ambiguous : K.lookup c_Ambiguous = some (excClassObj nm_Ambiguous q_Ambiguous c_Ambiguous N_Ambiguous_ bs_Ambiguous [.ref c_MendError, .type "ValueError", .type "Exception", .type "BaseException", .type "object"] true sn_Ambiguous sub_Ambiguous ab_Ambiguous col_Ambiguous dd_Ambiguous k0_Ambiguous k1_Ambiguous k2_Ambiguous k3_Ambiguous k5_Ambiguous "ValueError.__new__"))
    (kc_Ambiguous : PySem.W.keepIn K (.ref c_Ambiguous) = true)
    (sa_Ambiguous : PySem.W.findIn K (.ref c_Ambiguous) "__setattr__" = some (some (.builtin "object.__setattr__")))
    (ga_Ambiguous : PySem.W.findIn K (.ref c_Ambiguous) "__getattribute__" = some (some (.builtin "BaseException.__getattribute__")))
    (gg_Ambiguous : PySem.W.findIn K (.ref c_Ambiguous) "__getattr__" = some none)
    (ca_Ambiguous : PySem.W.findIn K (.ref c_Ambiguous) "__class__" = some (some (.builtin "object.__class__")))
    (i_is_Ambiguous : PySem.W.findIn K (.ref c_Ambiguous) "__init__" = some (some (.ref i_Ambiguous)))
    (t_Ambiguous : PySem.W.typeIn K (.ref i_Ambiguous) = some (.type "function"))
    (nf_Ambiguous : PySem.W.findIn K (.ref c_Ambiguous) "numbers" = some none)
    (l_i_Ambiguous : K.lookup i_Ambiguous = some ⟨oc_i_Ambiguous, od_i_Ambiguous, .func (PySem.W.fnOf "__init__" "Ambiguous.__init__" (defArgs s_Ambiguous) (defBody s_Ambiguous) (defScope s_Ambiguous) .none kV_i_Ambiguous doc_i_Ambiguous pm_i_Ambiguous an_i_Ambiguous cd_i_Ambiguous ct_i_Ambiguous), sl_i_Ambiguous⟩)
    (cd_is_i_Ambiguous : PySem.W.codeIn K cd_i_Ambiguous "Ambiguous.__init__" = true)
    (k_i_Ambiguous : PySem.W.keepIn K (.ref i_Ambiguous) = true)
    (a_NoWriter : PySem.W.nsIn K mainGlobals "NoWriter" = some (some (.ref c_NoWriter)))
    (x_NoWriter : K.lookup c_NoWriter = some (excClassObj nm_NoWriter q_NoWriter c_NoWriter N_NoWriter_ bs_NoWriter [.ref c_MendError, .type "ValueError", .type "Exception", .type "BaseException", .type "object"] true sn_NoWriter sub_NoWriter ab_NoWriter col_NoWriter dd_NoWriter k0_NoWriter k1_NoWriter k2_NoWriter k3_NoWriter k5_NoWriter "ValueError.__new__"))
    (kc_NoWriter : PySem.W.keepIn K (.ref c_NoWriter) = true)
    (sa_NoWriter : PySem.W.findIn K (.ref c_NoWriter) "__setattr__" = some (some (.builtin "object.__setattr__")))
    (ga_NoWriter : PySem.W.findIn K (.ref c_NoWriter) "__getattribute__" = some (some (.builtin "BaseException.__getattribute__")))
    (gg_NoWriter : PySem.W.findIn K (.ref c_NoWriter) "__getattr__" = some none)
    (ca_NoWriter : PySem.W.findIn K (.ref c_NoWriter) "__class__" = some (some (.builtin "object.__class__")))
    (i_is_NoWriter : PySem.W.findIn K (.ref c_NoWriter) "__init__" = some (some (.ref i_NoWriter)))
    (t_NoWriter : PySem.W.typeIn K (.ref i_NoWriter) = some (.type "function"))
    (nf_NoWriter : PySem.W.findIn K (.ref c_NoWriter) "writer" = some none)
    (l_i_NoWriter : K.lookup i_NoWriter = some ⟨oc_i_NoWriter, od_i_NoWriter, .func (PySem.W.fnOf "__init__" "NoWriter.__init__" (defArgs s_NoWriter) (defBody s_NoWriter) (defScope s_NoWriter) .none kV_i_NoWriter doc_i_NoWriter pm_i_NoWriter an_i_NoWriter cd_i_NoWriter ct_i_NoWriter), sl_i_NoWriter⟩)
    (cd_is_i_NoWriter : PySem.W.codeIn K cd_i_NoWriter "NoWriter.__init__" = true)
    (k_i_NoWriter : PySem.W.keepIn K (.ref i_NoWriter) = true)
    (a_Unsafe : PySem.W.nsIn K mainGlobals "Unsafe" = some (some (.ref c_Unsafe)))
    (x_Unsafe : K.lookup c_Unsafe = some (excClassObj nm_Unsafe q_Unsafe c_Unsafe N_Unsafe_ bs_Unsafe [.ref c_MendError, .type "ValueError", .type "Exception", .type "BaseException", .type "object"] true sn_Unsafe sub_Unsafe ab_Unsafe col_Unsafe dd_Unsafe k0_Unsafe k1_Unsafe k2_Unsafe k3_Unsafe k5_Unsafe "ValueError.__new__"))
    (kc_Unsafe : PySem.W.keepIn K (.ref c_Unsafe) = true)
    (sa_Unsafe : PySem.W.findIn K (.ref c_Unsafe) "__setattr__" = some (some (.builtin "object.__setattr__")))
    (ga_Unsafe : PySem.W.findIn K (.ref c_Unsafe) "__getattribute__" = some (some (.builtin "BaseException.__getattribute__")))
    (gg_Unsafe : PySem.W.findIn K (.ref c_Unsafe) "__getattr__" = some none)
    (ca_Unsafe : PySem.W.findIn K (.ref c_Unsafe) "__class__" = some (some (.builtin "object.__class__")))
    (i_is_Unsafe : PySem.W.findIn K (.ref c_Unsafe) "__init__" = some (some (.ref i_Unsafe)))
    (t_Unsafe : PySem.W.typeIn K (.ref i_Unsafe) = some (.type "function"))
    (nf_Unsafe : PySem.W.findIn K (.ref c_Unsafe) "refused" = some none)
    (l_i_Unsafe : K.lookup i_Unsafe = some ⟨oc_i_Unsafe, od_i_Unsafe, .func (PySem.W.fnOf "__init__" "Unsafe.__init__" (defArgs s_Unsafe) (defBody s_Unsafe) (defScope s_Unsafe) .none kV_i_Unsafe doc_i_Unsafe pm_i_Unsafe an_i_Unsafe cd_i_Unsafe ct_i_Unsafe), sl_i_Unsafe⟩)
    (cd_is_i_Unsafe : PySem.W.codeIn K cd_i_Unsafe "Unsafe.__init__" = true)
    (k_i_Unsafe : PySem.W.keepIn K (.ref i_Unsafe) = true)
    (a_UnequalSizes : PySem.W.nsIn K mainGlobals "UnequalSizes" = some (some (.ref c_UnequalSizes)))
    (x_UnequalSizes : K.lookup c_UnequalSizes = some (excClassObj nm_UnequalSizes q_UnequalSizes c_UnequalSizes N_UnequalSizes_ bs_UnequalSizes [.ref c_MendError, .type "ValueError", .type "Exception", .type "BaseException", .type "object"] true sn_UnequalSizes sub_UnequalSizes ab_UnequalSizes col_UnequalSizes dd_UnequalSizes k0_UnequalSizes k1_UnequalSizes k2_UnequalSizes k3_UnequalSizes k5_UnequalSizes "ValueError.__new__"))
    (kc_UnequalSizes : PySem.W.keepIn K (.ref c_UnequalSizes) = true)
    (sa_UnequalSizes : PySem.W.findIn K (.ref c_UnequalSizes) "__setattr__" = some (some (.builtin "object.__setattr__")))
    (ga_UnequalSizes : PySem.W.findIn K (.ref c_UnequalSizes) "__getattribute__" = some (some (.builtin "BaseException.__getattribute__")))
    (gg_UnequalSizes : PySem.W.findIn K (.ref c_UnequalSizes) "__getattr__" = some none)
    (ca_UnequalSizes : PySem.W.findIn K (.ref c_UnequalSizes) "__class__" = some (some (.builtin "object.__class__")))
    (q_is_UnequalSizes : PySem.W.excIn K c_UnequalSizes [.type "ValueError", .type "Exception", .type "BaseException", .type "object"] "ValueError.__new__" = true)
    (a_InvalidUpdate : PySem.W.nsIn K mainGlobals "InvalidUpdate" = some (some (.ref c_InvalidUpdate)))
    (x_InvalidUpdate : K.lookup c_InvalidUpdate = some (excClassObj nm_InvalidUpdate q_InvalidUpdate c_InvalidUpdate N_InvalidUpdate_ bs_InvalidUpdate [.ref c_MendError, .type "ValueError", .type "Exception", .type "BaseException", .type "object"] true sn_InvalidUpdate sub_InvalidUpdate ab_InvalidUpdate col_InvalidUpdate dd_InvalidUpdate k0_InvalidUpdate k1_InvalidUpdate k2_InvalidUpdate k3_InvalidUpdate k5_InvalidUpdate "ValueError.__new__"))
    (kc_InvalidUpdate : PySem.W.keepIn K (.ref c_InvalidUpdate) = true)
    (sa_InvalidUpdate : PySem.W.findIn K (.ref c_InvalidUpdate) "__setattr__" = some (some (.builtin "object.__setattr__")))
    (ga_InvalidUpdate : PySem.W.findIn K (.ref c_InvalidUpdate) "__getattribute__" = some (some (.builtin "BaseException.__getattribute__")))
    (gg_InvalidUpdate : PySem.W.findIn K (.ref c_InvalidUpdate) "__getattr__" = some none)
    (ca_InvalidUpdate : PySem.W.findIn K (.ref c_InvalidUpdate) "__class__" = some (some (.builtin "object.__class__")))
    (q_is_InvalidUpdate : PySem.W.excIn K c_InvalidUpdate [.type "ValueError", .type "Exception", .type "BaseException", .type "object"] "ValueError.__new__" = true)
    (a_InvalidKind : PySem.W.nsIn K mainGlobals "InvalidKind" = some (some (.ref c_InvalidKind)))
    (x_InvalidKind : K.lookup c_InvalidKind = some (excClassObj nm_InvalidKind q_InvalidKind c_InvalidKind N_InvalidKind_ bs_InvalidKind [.ref c_MendError, .type "ValueError", .type "Exception", .type "BaseException", .type "object"] true sn_InvalidKind sub_InvalidKind ab_InvalidKind col_InvalidKind dd_InvalidKind k0_InvalidKind k1_InvalidKind k2_InvalidKind k3_InvalidKind k5_InvalidKind "ValueError.__new__"))
    (kc_InvalidKind : PySem.W.keepIn K (.ref c_InvalidKind) = true)
    (sa_InvalidKind : PySem.W.findIn K (.ref c_InvalidKind) "__setattr__" = some (some (.builtin "object.__setattr__")))
    (ga_InvalidKind : PySem.W.findIn K (.ref c_InvalidKind) "__getattribute__" = some (some (.builtin "BaseException.__getattribute__")))
    (gg_InvalidKind : PySem.W.findIn K (.ref c_InvalidKind) "__getattr__" = some none)
    (ca_InvalidKind : PySem.W.findIn K (.ref c_InvalidKind) "__class__" = some (some (.builtin "object.__class__")))
    (q_is_InvalidKind : PySem.W.excIn K c_InvalidKind [.type "ValueError", .type "Exception", .type "BaseException", .type "object"] "ValueError.__new__" = true)
    (a_InvalidChange : PySem.W.nsIn K mainGlobals "InvalidChange" = some (some (.ref c_InvalidChange)))
    (x_InvalidChange : K.lookup c_InvalidChange = some (excClassObj nm_InvalidChange q_InvalidChange c_InvalidChange N_InvalidChange_ bs_InvalidChange [.ref c_MendError, .type "ValueError", .type "Exception", .type "BaseException", .type "object"] true sn_InvalidChange sub_InvalidChange ab_InvalidChange col_InvalidChange dd_InvalidChange k0_InvalidChange k1_InvalidChange k2_InvalidChange k3_InvalidChange k5_InvalidChange "ValueError.__new__"))
    (kc_InvalidChange : PySem.W.keepIn K (.ref c_InvalidChange) = true)
    (sa_InvalidChange : PySem.W.findIn K (.ref c_InvalidChange) "__setattr__" = some (some (.builtin "object.__setattr__")))
    (ga_InvalidChange : PySem.W.findIn K (.ref c_InvalidChange) "__getattribute__" = some (some (.builtin "BaseException.__getattribute__")))
    (gg_InvalidChange : PySem.W.findIn K (.ref c_InvalidChange) "__getattr__" = some none)
    (ca_InvalidChange : PySem.W.findIn K (.ref c_InvalidChange) "__class__" = some (some (.builtin "object.__class__")))
    (q_is_InvalidChange : PySem.W.excIn K c_InvalidChange [.type "ValueError", .type "Exception", .type "BaseException", .type "object"] "ValueError.__new__" = true)
    (a_InvalidOrder : PySem.W.nsIn K mainGlobals "InvalidOrder" = some (some (.ref c_InvalidOrder)))
    (x_InvalidOrder : K.lookup c_InvalidOrder = some (excClassObj nm_InvalidOrder q_InvalidOrder c_InvalidOrder N_InvalidOrder_ bs_InvalidOrder [.ref c_MendError, .type "ValueError", .type "Exception", .type "BaseException", .type "object"] true sn_InvalidOrder sub_InvalidOrder ab_InvalidOrder col_InvalidOrder dd_InvalidOrder k0_InvalidOrder k1_InvalidOrder k2_InvalidOrder k3_InvalidOrder k5_InvalidOrder "ValueError.__new__"))
    (kc_InvalidOrder : PySem.W.keepIn K (.ref c_InvalidOrder) = true)
    (sa_InvalidOrder : PySem.W.findIn K (.ref c_InvalidOrder) "__setattr__" = some (some (.builtin "object.__setattr__")))
    (ga_InvalidOrder : PySem.W.findIn K (.ref c_InvalidOrder) "__getattribute__" = some (some (.builtin "BaseException.__getattribute__")))
    (gg_InvalidOrder : PySem.W.findIn K (.ref c_InvalidOrder) "__getattr__" = some none)
    (ca_InvalidOrder : PySem.W.findIn K (.ref c_InvalidOrder) "__class__" = some (some (.builtin "object.__class__")))
    (q_is_InvalidOrder : PySem.W.excIn K c_InvalidOrder [.type "ValueError", .type "Exception", .type "BaseException", .type "object"] "ValueError.__new__" = true)
    (a_NoStory : PySem.W.nsIn K mainGlobals "NoStory" = some (some (.ref c_NoStory)))
    (x_NoStory : K.lookup c_NoStory = some (excClassObj nm_NoStory q_NoStory c_NoStory N_NoStory_ bs_NoStory [.ref c_MendError, .type "ValueError", .type "Exception", .type "BaseException", .type "object"] true sn_NoStory sub_NoStory ab_NoStory col_NoStory dd_NoStory k0_NoStory k1_NoStory k2_NoStory k3_NoStory k5_NoStory "ValueError.__new__"))
    (kc_NoStory : PySem.W.keepIn K (.ref c_NoStory) = true)
    (sa_NoStory : PySem.W.findIn K (.ref c_NoStory) "__setattr__" = some (some (.builtin "object.__setattr__")))
    (ga_NoStory : PySem.W.findIn K (.ref c_NoStory) "__getattribute__" = some (some (.builtin "BaseException.__getattribute__")))
    (gg_NoStory : PySem.W.findIn K (.ref c_NoStory) "__getattr__" = some none)
    (ca_NoStory : PySem.W.findIn K (.ref c_NoStory) "__class__" = some (some (.builtin "object.__class__")))
    (q_is_NoStory : PySem.W.excIn K c_NoStory [.type "ValueError", .type "Exception", .type "BaseException", .type "object"] "ValueError.__new__" = true)
    (a_NotInBook : PySem.W.nsIn K mainGlobals "NotInBook" = some (some (.ref c_NotInBook)))
    (x_NotInBook : K.lookup c_NotInBook = some (excClassObj nm_NotInBook q_NotInBook c_NotInBook N_NotInBook_ bs_NotInBook [.ref c_MendError, .type "ValueError", .type "Exception", .type "BaseException", .type "object"] true sn_NotInBook sub_NotInBook ab_NotInBook col_NotInBook dd_NotInBook k0_NotInBook k1_NotInBook k2_NotInBook k3_NotInBook k5_NotInBook "ValueError.__new__"))
    (kc_NotInBook : PySem.W.keepIn K (.ref c_NotInBook) = true)
    (sa_NotInBook : PySem.W.findIn K (.ref c_NotInBook) "__setattr__" = some (some (.builtin "object.__setattr__")))
    (ga_NotInBook : PySem.W.findIn K (.ref c_NotInBook) "__getattribute__" = some (some (.builtin "BaseException.__getattribute__")))
    (gg_NotInBook : PySem.W.findIn K (.ref c_NotInBook) "__getattr__" = some none)
    (ca_NotInBook : PySem.W.findIn K (.ref c_NotInBook) "__class__" = some (some (.builtin "object.__class__")))
    (q_is_NotInBook : PySem.W.excIn K c_NotInBook [.type "ValueError", .type "Exception", .type "BaseException", .type "object"] "ValueError.__new__" = true)
    (a_Down : PySem.W.nsIn K mainGlobals "Down" = some (some (.ref c_Down)))
    (x_Down : K.lookup c_Down = some (excClassObj nm_Down q_Down c_Down N_Down_ bs_Down [.ref c_MendError, .type "ValueError", .type "Exception", .type "BaseException", .type "object"] true sn_Down sub_Down ab_Down col_Down dd_Down k0_Down k1_Down k2_Down k3_Down k5_Down "ValueError.__new__"))
    (kc_Down : PySem.W.keepIn K (.ref c_Down) = true)
    (sa_Down : PySem.W.findIn K (.ref c_Down) "__setattr__" = some (some (.builtin "object.__setattr__")))
    (ga_Down : PySem.W.findIn K (.ref c_Down) "__getattribute__" = some (some (.builtin "BaseException.__getattribute__")))
    (gg_Down : PySem.W.findIn K (.ref c_Down) "__getattr__" = some none)
    (ca_Down : PySem.W.findIn K (.ref c_Down) "__class__" = some (some (.builtin "object.__class__")))
    (q_is_Down : PySem.W.excIn K c_Down [.type "ValueError", .type "Exception", .type "BaseException", .type "object"] "ValueError.__new__" = true)
    (a_NotDown : PySem.W.nsIn K mainGlobals "NotDown" = some (some (.ref c_NotDown)))
    (x_NotDown : K.lookup c_NotDown = some (excClassObj nm_NotDown q_NotDown c_NotDown N_NotDown_ bs_NotDown [.ref c_MendError, .type "ValueError", .type "Exception", .type "BaseException", .type "object"] true sn_NotDown sub_NotDown ab_NotDown col_NotDown dd_NotDown k0_NotDown k1_NotDown k2_NotDown k3_NotDown k5_NotDown "ValueError.__new__"))
    (kc_NotDown : PySem.W.keepIn K (.ref c_NotDown) = true)
    (sa_NotDown : PySem.W.findIn K (.ref c_NotDown) "__setattr__" = some (some (.builtin "object.__setattr__")))
    (ga_NotDown : PySem.W.findIn K (.ref c_NotDown) "__getattribute__" = some (some (.builtin "BaseException.__getattribute__")))
    (gg_NotDown : PySem.W.findIn K (.ref c_NotDown) "__getattr__" = some none)
    (ca_NotDown : PySem.W.findIn K (.ref c_NotDown) "__class__" = some (some (.builtin "object.__class__")))
    (q_is_NotDown : PySem.W.excIn K c_NotDown [.type "ValueError", .type "Exception", .type "BaseException", .type "object"] "ValueError.__new__" = true)
    (a_NothingToUndo : PySem.W.nsIn K mainGlobals "NothingToUndo" = some (some (.ref c_NothingToUndo)))
    (x_NothingToUndo : K.lookup c_NothingToUndo = some (excClassObj nm_NothingToUndo q_NothingToUndo c_NothingToUndo N_NothingToUndo_ bs_NothingToUndo [.ref c_MendError, .type "ValueError", .type "Exception", .type "BaseException", .type "object"] true sn_NothingToUndo sub_NothingToUndo ab_NothingToUndo col_NothingToUndo dd_NothingToUndo k0_NothingToUndo k1_NothingToUndo k2_NothingToUndo k3_NothingToUndo k5_NothingToUndo "ValueError.__new__"))
    (kc_NothingToUndo : PySem.W.keepIn K (.ref c_NothingToUndo) = true)
    (sa_NothingToUndo : PySem.W.findIn K (.ref c_NothingToUndo) "__setattr__" = some (some (.builtin "object.__setattr__")))
    (ga_NothingToUndo : PySem.W.findIn K (.ref c_NothingToUndo) "__getattribute__" = some (some (.builtin "BaseException.__getattribute__")))
    (gg_NothingToUndo : PySem.W.findIn K (.ref c_NothingToUndo) "__getattr__" = some none)
    (ca_NothingToUndo : PySem.W.findIn K (.ref c_NothingToUndo) "__class__" = some (some (.builtin "object.__class__")))
    (q_is_NothingToUndo : PySem.W.excIn K c_NothingToUndo [.type "ValueError", .type "Exception", .type "BaseException", .type "object"] "ValueError.__new__" = true)
    (a_NothingToRedo : PySem.W.nsIn K mainGlobals "NothingToRedo" = some (some (.ref c_NothingToRedo)))
    (x_NothingToRedo : K.lookup c_NothingToRedo = some (excClassObj nm_NothingToRedo q_NothingToRedo c_NothingToRedo N_NothingToRedo_ bs_NothingToRedo [.ref c_MendError, .type "ValueError", .type "Exception", .type "BaseException", .type "object"] true sn_NothingToRedo sub_NothingToRedo ab_NothingToRedo col_NothingToRedo dd_NothingToRedo k0_NothingToRedo k1_NothingToRedo k2_NothingToRedo k3_NothingToRedo k5_NothingToRedo "ValueError.__new__"))
    (kc_NothingToRedo : PySem.W.keepIn K (.ref c_NothingToRedo) = true)
    (sa_NothingToRedo : PySem.W.findIn K (.ref c_NothingToRedo) "__setattr__" = some (some (.builtin "object.__setattr__")))
    (ga_NothingToRedo : PySem.W.findIn K (.ref c_NothingToRedo) "__getattribute__" = some (some (.builtin "BaseException.__getattribute__")))
    (gg_NothingToRedo : PySem.W.findIn K (.ref c_NothingToRedo) "__getattr__" = some none)
    (ca_NothingToRedo : PySem.W.findIn K (.ref c_NothingToRedo) "__class__" = some (some (.builtin "object.__class__")))
    (q_is_NothingToRedo : PySem.W.excIn K c_NothingToRedo [.type "ValueError", .type "Exception", .type "BaseException", .type "object"] "ValueError.__new__" = true)
    (z_int : PySem.W.nsIn K mainGlobals "int" = some none)
    (z_bool : PySem.W.nsIn K mainGlobals "bool" = some none)
    (z_list : PySem.W.nsIn K mainGlobals "list" = some none)
    (z_str : PySem.W.nsIn K mainGlobals "str" = some none)
    (z_tuple : PySem.W.nsIn K mainGlobals "tuple" = some none)
    (z_ValueError : PySem.W.nsIn K mainGlobals "ValueError" = some none)
    (z_len : PySem.W.nsIn K mainGlobals "len" = some none)
    (z_range : PySem.W.nsIn K mainGlobals "range" = some none)
    (z_enumerate : PySem.W.nsIn K mainGlobals "enumerate" = some none)
    (z_isinstance : PySem.W.nsIn K mainGlobals "isinstance" = some none)
    (z_all : PySem.W.nsIn K mainGlobals "all" = some none)
    (cn : PySem.W.specialIn K (.builtin "object.__class__") "__get__" = some (some (.builtin "getset_descriptor.__get__")))
    (ct : PySem.W.takesIn K (.builtin "object.__class__") = some true)
    (nd : [c_MendError, c_InvalidSize, c_InvalidImage, c_NotState, c_Unrepairable, c_InvalidRecord, c_Busy, c_Written, c_NotReady, c_InvalidNumber, c_InvalidRules, c_InvalidStore, c_Ambiguous, c_NoWriter, c_Unsafe, c_UnequalSizes, c_InvalidUpdate, c_InvalidKind, c_InvalidChange, c_InvalidOrder, c_NoStory, c_NotInBook, c_Down, c_NotDown, c_NothingToUndo, c_NothingToRedo].Nodup)
    : ∃ fd : FuncData, (∀ (s : Shared) (v : Value), BindsTo s fd ⟨[v], []⟩ [("script", v)]) ∧ ∀ base : Heap, K.In base → base.Ns mainGlobals mg → FnOk l.prog w K mg base CX0 8 fa fd ["script"] (spLaw K) := by
  have e := hfa.symm.trans (PySem.W.mg_of X G a_law)
  cases e
  obtain ⟨A, hA⟩ : ∃ A : Ad, A = ⟨f_own, f_check_image, f_is_state, f_check_state, f_check_pair, f_law_bag, f_law_take, f_law_order, f_law_size, f_law_entry, f_law_drawn, f_law_entries_due, f_law_state_due, f_law_pair_due, f_law_told_image, f_law_told_is_state, f_law_told_state, f_law_told_pair, f_law_meets, f_law_one_checked, f_law_two_checked, f_law_marks, f_law_errors_apart, f_law_errors_keep, fa, c_MendError, c_InvalidSize, c_InvalidImage, c_NotState, c_Unrepairable, c_InvalidRecord, c_Busy, c_Written, c_NotReady, c_InvalidNumber, c_InvalidRules, c_InvalidStore, c_Ambiguous, c_NoWriter, c_Unsafe, c_UnequalSizes, c_InvalidUpdate, c_InvalidKind, c_InvalidChange, c_InvalidOrder, c_NoStory, c_NotInBook, c_Down, c_NotDown, c_NothingToUndo, c_NothingToRedo, i_InvalidSize, i_InvalidImage, i_NotState, i_Unrepairable, i_InvalidRecord, i_Busy, i_Written, i_NotReady, i_InvalidNumber, i_InvalidRules, i_InvalidStore, i_Ambiguous, i_NoWriter, i_Unsafe⟩ := ⟨_, rfl⟩
  have T : Txt K mg A := {
    g_own := by rw [hA]; exact PySem.W.mg_of X G a_own,
    k_own := by rw [hA]; exact k_own,
    d_own := by rw [hA]; exact ⟨_, fun_mk (st := s_own) l_own cd_is_own k_own⟩,
    g_check_image := by rw [hA]; exact PySem.W.mg_of X G a_check_image,
    k_check_image := by rw [hA]; exact k_check_image,
    d_check_image := by rw [hA]; exact ⟨_, fun_mk (st := s_check_image) l_check_image cd_is_check_image k_check_image⟩,
    g_is_state := by rw [hA]; exact PySem.W.mg_of X G a_is_state,
    k_is_state := by rw [hA]; exact k_is_state,
    d_is_state := by rw [hA]; exact ⟨_, fun_mk (st := s_is_state) l_is_state cd_is_is_state k_is_state⟩,
    g_check_state := by rw [hA]; exact PySem.W.mg_of X G a_check_state,
    k_check_state := by rw [hA]; exact k_check_state,
    d_check_state := by rw [hA]; exact ⟨_, fun_mk (st := s_check_state) l_check_state cd_is_check_state k_check_state⟩,
    g_check_pair := by rw [hA]; exact PySem.W.mg_of X G a_check_pair,
    k_check_pair := by rw [hA]; exact k_check_pair,
    d_check_pair := by rw [hA]; exact ⟨_, fun_mk (st := s_check_pair) l_check_pair cd_is_check_pair k_check_pair⟩,
    g_law_bag := by rw [hA]; exact PySem.W.mg_of X G a_law_bag,
    k_law_bag := by rw [hA]; exact k_law_bag,
    d_law_bag := by rw [hA]; exact ⟨_, fun_mk (st := s_law_bag) l_law_bag cd_is_law_bag k_law_bag⟩,
    g_law_take := by rw [hA]; exact PySem.W.mg_of X G a_law_take,
    k_law_take := by rw [hA]; exact k_law_take,
    d_law_take := by rw [hA]; exact ⟨_, fun_mk (st := s_law_take) l_law_take cd_is_law_take k_law_take⟩,
    g_law_order := by rw [hA]; exact PySem.W.mg_of X G a_law_order,
    k_law_order := by rw [hA]; exact k_law_order,
    d_law_order := by rw [hA]; exact ⟨_, fun_mk (st := s_law_order) l_law_order cd_is_law_order k_law_order⟩,
    g_law_size := by rw [hA]; exact PySem.W.mg_of X G a_law_size,
    k_law_size := by rw [hA]; exact k_law_size,
    d_law_size := by rw [hA]; exact ⟨_, fun_mk (st := s_law_size) l_law_size cd_is_law_size k_law_size⟩,
    g_law_entry := by rw [hA]; exact PySem.W.mg_of X G a_law_entry,
    k_law_entry := by rw [hA]; exact k_law_entry,
    d_law_entry := by rw [hA]; exact ⟨_, fun_mk (st := s_law_entry) l_law_entry cd_is_law_entry k_law_entry⟩,
    g_law_drawn := by rw [hA]; exact PySem.W.mg_of X G a_law_drawn,
    k_law_drawn := by rw [hA]; exact k_law_drawn,
    d_law_drawn := by rw [hA]; exact ⟨_, fun_mk (st := s_law_drawn) l_law_drawn cd_is_law_drawn k_law_drawn⟩,
    g_law_entries_due := by rw [hA]; exact PySem.W.mg_of X G a_law_entries_due,
    k_law_entries_due := by rw [hA]; exact k_law_entries_due,
    d_law_entries_due := by rw [hA]; exact ⟨_, fun_mk (st := s_law_entries_due) l_law_entries_due cd_is_law_entries_due k_law_entries_due⟩,
    g_law_state_due := by rw [hA]; exact PySem.W.mg_of X G a_law_state_due,
    k_law_state_due := by rw [hA]; exact k_law_state_due,
    d_law_state_due := by rw [hA]; exact ⟨_, fun_mk (st := s_law_state_due) l_law_state_due cd_is_law_state_due k_law_state_due⟩,
    g_law_pair_due := by rw [hA]; exact PySem.W.mg_of X G a_law_pair_due,
    k_law_pair_due := by rw [hA]; exact k_law_pair_due,
    d_law_pair_due := by rw [hA]; exact ⟨_, fun_mk (st := s_law_pair_due) l_law_pair_due cd_is_law_pair_due k_law_pair_due⟩,
    g_law_told_image := by rw [hA]; exact PySem.W.mg_of X G a_law_told_image,
    k_law_told_image := by rw [hA]; exact k_law_told_image,
    d_law_told_image := by rw [hA]; exact ⟨_, fun_mk (st := s_law_told_image) l_law_told_image cd_is_law_told_image k_law_told_image⟩,
    g_law_told_is_state := by rw [hA]; exact PySem.W.mg_of X G a_law_told_is_state,
    k_law_told_is_state := by rw [hA]; exact k_law_told_is_state,
    d_law_told_is_state := by rw [hA]; exact ⟨_, fun_mk (st := s_law_told_is_state) l_law_told_is_state cd_is_law_told_is_state k_law_told_is_state⟩,
    g_law_told_state := by rw [hA]; exact PySem.W.mg_of X G a_law_told_state,
    k_law_told_state := by rw [hA]; exact k_law_told_state,
    d_law_told_state := by rw [hA]; exact ⟨_, fun_mk (st := s_law_told_state) l_law_told_state cd_is_law_told_state k_law_told_state⟩,
    g_law_told_pair := by rw [hA]; exact PySem.W.mg_of X G a_law_told_pair,
    k_law_told_pair := by rw [hA]; exact k_law_told_pair,
    d_law_told_pair := by rw [hA]; exact ⟨_, fun_mk (st := s_law_told_pair) l_law_told_pair cd_is_law_told_pair k_law_told_pair⟩,
    g_law_meets := by rw [hA]; exact PySem.W.mg_of X G a_law_meets,
    k_law_meets := by rw [hA]; exact k_law_meets,
    d_law_meets := by rw [hA]; exact ⟨_, fun_mk (st := s_law_meets) l_law_meets cd_is_law_meets k_law_meets⟩,
    g_law_one_checked := by rw [hA]; exact PySem.W.mg_of X G a_law_one_checked,
    k_law_one_checked := by rw [hA]; exact k_law_one_checked,
    d_law_one_checked := by rw [hA]; exact ⟨_, fun_mk (st := s_law_one_checked) l_law_one_checked cd_is_law_one_checked k_law_one_checked⟩,
    g_law_two_checked := by rw [hA]; exact PySem.W.mg_of X G a_law_two_checked,
    k_law_two_checked := by rw [hA]; exact k_law_two_checked,
    d_law_two_checked := by rw [hA]; exact ⟨_, fun_mk (st := s_law_two_checked) l_law_two_checked cd_is_law_two_checked k_law_two_checked⟩,
    g_law_marks := by rw [hA]; exact PySem.W.mg_of X G a_law_marks,
    k_law_marks := by rw [hA]; exact k_law_marks,
    d_law_marks := by rw [hA]; exact ⟨_, fun_mk (st := s_law_marks) l_law_marks cd_is_law_marks k_law_marks⟩,
    g_law_errors_apart := by rw [hA]; exact PySem.W.mg_of X G a_law_errors_apart,
    k_law_errors_apart := by rw [hA]; exact k_law_errors_apart,
    d_law_errors_apart := by rw [hA]; exact ⟨_, fun_mk (st := s_law_errors_apart) l_law_errors_apart cd_is_law_errors_apart k_law_errors_apart⟩,
    g_law_errors_keep := by rw [hA]; exact PySem.W.mg_of X G a_law_errors_keep,
    k_law_errors_keep := by rw [hA]; exact k_law_errors_keep,
    d_law_errors_keep := by rw [hA]; exact ⟨_, fun_mk (st := s_law_errors_keep) l_law_errors_keep cd_is_law_errors_keep k_law_errors_keep⟩,
    g_law := by rw [hA]; exact PySem.W.mg_of X G a_law,
    k_law := by rw [hA]; exact k_law,
    d_law := by rw [hA]; exact ⟨_, fun_mk (st := s_law) l_law cd_is_law k_law⟩,
    e_MendError := by rw [hA]; exact ⟨PySem.W.mg_of X G a_MendError, ⟨_, _, _, _, _, _, _, _, _, _, _, _, _, _, _, x_MendError⟩⟩,
    e_InvalidSize := by rw [hA]; exact ⟨PySem.W.mg_of X G a_InvalidSize, kc_InvalidSize, ⟨_, _, _, _, _, _, _, _, _, _, _, _, _, _, x_InvalidSize⟩, sa_InvalidSize, ga_InvalidSize, gg_InvalidSize, ca_InvalidSize⟩,
    f_InvalidSize := by rw [hA]; exact ⟨i_is_InvalidSize, t_InvalidSize, nf_InvalidSize, ⟨_, fun_mk (st := s_InvalidSize) l_i_InvalidSize cd_is_i_InvalidSize k_i_InvalidSize⟩⟩,
    e_InvalidImage := by rw [hA]; exact ⟨PySem.W.mg_of X G a_InvalidImage, kc_InvalidImage, ⟨_, _, _, _, _, _, _, _, _, _, _, _, _, _, x_InvalidImage⟩, sa_InvalidImage, ga_InvalidImage, gg_InvalidImage, ca_InvalidImage⟩,
    f_InvalidImage := by rw [hA]; exact ⟨i_is_InvalidImage, t_InvalidImage, nf_InvalidImage, ⟨_, fun_mk (st := s_InvalidImage) l_i_InvalidImage cd_is_i_InvalidImage k_i_InvalidImage⟩⟩,
    e_NotState := by rw [hA]; exact ⟨PySem.W.mg_of X G a_NotState, kc_NotState, ⟨_, _, _, _, _, _, _, _, _, _, _, _, _, _, x_NotState⟩, sa_NotState, ga_NotState, gg_NotState, ca_NotState⟩,
    f_NotState := by rw [hA]; exact ⟨i_is_NotState, t_NotState, nf_NotState, ⟨_, fun_mk (st := s_NotState) l_i_NotState cd_is_i_NotState k_i_NotState⟩⟩,
    e_Unrepairable := by rw [hA]; exact ⟨PySem.W.mg_of X G a_Unrepairable, kc_Unrepairable, ⟨_, _, _, _, _, _, _, _, _, _, _, _, _, _, x_Unrepairable⟩, sa_Unrepairable, ga_Unrepairable, gg_Unrepairable, ca_Unrepairable⟩,
    f_Unrepairable := by rw [hA]; exact ⟨i_is_Unrepairable, t_Unrepairable, nf_Unrepairable, ⟨_, fun_mk (st := s_Unrepairable) l_i_Unrepairable cd_is_i_Unrepairable k_i_Unrepairable⟩⟩,
    e_InvalidRecord := by rw [hA]; exact ⟨PySem.W.mg_of X G a_InvalidRecord, kc_InvalidRecord, ⟨_, _, _, _, _, _, _, _, _, _, _, _, _, _, x_InvalidRecord⟩, sa_InvalidRecord, ga_InvalidRecord, gg_InvalidRecord, ca_InvalidRecord⟩,
    f_InvalidRecord := by rw [hA]; exact ⟨i_is_InvalidRecord, t_InvalidRecord, nf_InvalidRecord, ⟨_, fun_mk (st := s_InvalidRecord) l_i_InvalidRecord cd_is_i_InvalidRecord k_i_InvalidRecord⟩⟩,
    e_Busy := by rw [hA]; exact ⟨PySem.W.mg_of X G a_Busy, kc_Busy, ⟨_, _, _, _, _, _, _, _, _, _, _, _, _, _, x_Busy⟩, sa_Busy, ga_Busy, gg_Busy, ca_Busy⟩,
    f_Busy := by rw [hA]; exact ⟨i_is_Busy, t_Busy, nf_Busy, ⟨_, fun_mk (st := s_Busy) l_i_Busy cd_is_i_Busy k_i_Busy⟩⟩,
    e_Written := by rw [hA]; exact ⟨PySem.W.mg_of X G a_Written, kc_Written, ⟨_, _, _, _, _, _, _, _, _, _, _, _, _, _, x_Written⟩, sa_Written, ga_Written, gg_Written, ca_Written⟩,
    f_Written := by rw [hA]; exact ⟨i_is_Written, t_Written, nf_Written, ⟨_, fun_mk (st := s_Written) l_i_Written cd_is_i_Written k_i_Written⟩⟩,
    e_NotReady := by rw [hA]; exact ⟨PySem.W.mg_of X G a_NotReady, kc_NotReady, ⟨_, _, _, _, _, _, _, _, _, _, _, _, _, _, x_NotReady⟩, sa_NotReady, ga_NotReady, gg_NotReady, ca_NotReady⟩,
    f_NotReady := by rw [hA]; exact ⟨i_is_NotReady, t_NotReady, nf_NotReady, ⟨_, fun_mk (st := s_NotReady) l_i_NotReady cd_is_i_NotReady k_i_NotReady⟩⟩,
    e_InvalidNumber := by rw [hA]; exact ⟨PySem.W.mg_of X G a_InvalidNumber, kc_InvalidNumber, ⟨_, _, _, _, _, _, _, _, _, _, _, _, _, _, x_InvalidNumber⟩, sa_InvalidNumber, ga_InvalidNumber, gg_InvalidNumber, ca_InvalidNumber⟩,
    f_InvalidNumber := by rw [hA]; exact ⟨i_is_InvalidNumber, t_InvalidNumber, nf_InvalidNumber, ⟨_, fun_mk (st := s_InvalidNumber) l_i_InvalidNumber cd_is_i_InvalidNumber k_i_InvalidNumber⟩⟩,
    e_InvalidRules := by rw [hA]; exact ⟨PySem.W.mg_of X G a_InvalidRules, kc_InvalidRules, ⟨_, _, _, _, _, _, _, _, _, _, _, _, _, _, x_InvalidRules⟩, sa_InvalidRules, ga_InvalidRules, gg_InvalidRules, ca_InvalidRules⟩,
    f_InvalidRules := by rw [hA]; exact ⟨i_is_InvalidRules, t_InvalidRules, nf_InvalidRules, ⟨_, fun_mk (st := s_InvalidRules) l_i_InvalidRules cd_is_i_InvalidRules k_i_InvalidRules⟩⟩,
    e_InvalidStore := by rw [hA]; exact ⟨PySem.W.mg_of X G a_InvalidStore, kc_InvalidStore, ⟨_, _, _, _, _, _, _, _, _, _, _, _, _, _, x_InvalidStore⟩, sa_InvalidStore, ga_InvalidStore, gg_InvalidStore, ca_InvalidStore⟩,
    f_InvalidStore := by rw [hA]; exact ⟨i_is_InvalidStore, t_InvalidStore, nf_InvalidStore, ⟨_, fun_mk (st := s_InvalidStore) l_i_InvalidStore cd_is_i_InvalidStore k_i_InvalidStore⟩⟩,
    e_Ambiguous := by rw [hA]; exact ⟨PySem.W.mg_of X G a_Ambiguous, kc_Ambiguous, ⟨_, _, _, _, _, _, _, _, _, _, _, _, _, _, x_Ambiguous⟩, sa_Ambiguous, ga_Ambiguous, gg_Ambiguous, ca_Ambiguous⟩,
    f_Ambiguous := by rw [hA]; exact ⟨i_is_Ambiguous, t_Ambiguous, nf_Ambiguous, ⟨_, fun_mk (st := s_Ambiguous) l_i_Ambiguous cd_is_i_Ambiguous k_i_Ambiguous⟩⟩,
    e_NoWriter := by rw [hA]; exact ⟨PySem.W.mg_of X G a_NoWriter, kc_NoWriter, ⟨_, _, _, _, _, _, _, _, _, _, _, _, _, _, x_NoWriter⟩, sa_NoWriter, ga_NoWriter, gg_NoWriter, ca_NoWriter⟩,
    f_NoWriter := by rw [hA]; exact ⟨i_is_NoWriter, t_NoWriter, nf_NoWriter, ⟨_, fun_mk (st := s_NoWriter) l_i_NoWriter cd_is_i_NoWriter k_i_NoWriter⟩⟩,
    e_Unsafe := by rw [hA]; exact ⟨PySem.W.mg_of X G a_Unsafe, kc_Unsafe, ⟨_, _, _, _, _, _, _, _, _, _, _, _, _, _, x_Unsafe⟩, sa_Unsafe, ga_Unsafe, gg_Unsafe, ca_Unsafe⟩,
    f_Unsafe := by rw [hA]; exact ⟨i_is_Unsafe, t_Unsafe, nf_Unsafe, ⟨_, fun_mk (st := s_Unsafe) l_i_Unsafe cd_is_i_Unsafe k_i_Unsafe⟩⟩,
    e_UnequalSizes := by rw [hA]; exact ⟨PySem.W.mg_of X G a_UnequalSizes, kc_UnequalSizes, ⟨_, _, _, _, _, _, _, _, _, _, _, _, _, _, x_UnequalSizes⟩, sa_UnequalSizes, ga_UnequalSizes, gg_UnequalSizes, ca_UnequalSizes⟩,
    q_UnequalSizes := by rw [hA]; exact q_is_UnequalSizes,
    e_InvalidUpdate := by rw [hA]; exact ⟨PySem.W.mg_of X G a_InvalidUpdate, kc_InvalidUpdate, ⟨_, _, _, _, _, _, _, _, _, _, _, _, _, _, x_InvalidUpdate⟩, sa_InvalidUpdate, ga_InvalidUpdate, gg_InvalidUpdate, ca_InvalidUpdate⟩,
    q_InvalidUpdate := by rw [hA]; exact q_is_InvalidUpdate,
    e_InvalidKind := by rw [hA]; exact ⟨PySem.W.mg_of X G a_InvalidKind, kc_InvalidKind, ⟨_, _, _, _, _, _, _, _, _, _, _, _, _, _, x_InvalidKind⟩, sa_InvalidKind, ga_InvalidKind, gg_InvalidKind, ca_InvalidKind⟩,
    q_InvalidKind := by rw [hA]; exact q_is_InvalidKind,
    e_InvalidChange := by rw [hA]; exact ⟨PySem.W.mg_of X G a_InvalidChange, kc_InvalidChange, ⟨_, _, _, _, _, _, _, _, _, _, _, _, _, _, x_InvalidChange⟩, sa_InvalidChange, ga_InvalidChange, gg_InvalidChange, ca_InvalidChange⟩,
    q_InvalidChange := by rw [hA]; exact q_is_InvalidChange,
    e_InvalidOrder := by rw [hA]; exact ⟨PySem.W.mg_of X G a_InvalidOrder, kc_InvalidOrder, ⟨_, _, _, _, _, _, _, _, _, _, _, _, _, _, x_InvalidOrder⟩, sa_InvalidOrder, ga_InvalidOrder, gg_InvalidOrder, ca_InvalidOrder⟩,
    q_InvalidOrder := by rw [hA]; exact q_is_InvalidOrder,
    e_NoStory := by rw [hA]; exact ⟨PySem.W.mg_of X G a_NoStory, kc_NoStory, ⟨_, _, _, _, _, _, _, _, _, _, _, _, _, _, x_NoStory⟩, sa_NoStory, ga_NoStory, gg_NoStory, ca_NoStory⟩,
    q_NoStory := by rw [hA]; exact q_is_NoStory,
    e_NotInBook := by rw [hA]; exact ⟨PySem.W.mg_of X G a_NotInBook, kc_NotInBook, ⟨_, _, _, _, _, _, _, _, _, _, _, _, _, _, x_NotInBook⟩, sa_NotInBook, ga_NotInBook, gg_NotInBook, ca_NotInBook⟩,
    q_NotInBook := by rw [hA]; exact q_is_NotInBook,
    e_Down := by rw [hA]; exact ⟨PySem.W.mg_of X G a_Down, kc_Down, ⟨_, _, _, _, _, _, _, _, _, _, _, _, _, _, x_Down⟩, sa_Down, ga_Down, gg_Down, ca_Down⟩,
    q_Down := by rw [hA]; exact q_is_Down,
    e_NotDown := by rw [hA]; exact ⟨PySem.W.mg_of X G a_NotDown, kc_NotDown, ⟨_, _, _, _, _, _, _, _, _, _, _, _, _, _, x_NotDown⟩, sa_NotDown, ga_NotDown, gg_NotDown, ca_NotDown⟩,
    q_NotDown := by rw [hA]; exact q_is_NotDown,
    e_NothingToUndo := by rw [hA]; exact ⟨PySem.W.mg_of X G a_NothingToUndo, kc_NothingToUndo, ⟨_, _, _, _, _, _, _, _, _, _, _, _, _, _, x_NothingToUndo⟩, sa_NothingToUndo, ga_NothingToUndo, gg_NothingToUndo, ca_NothingToUndo⟩,
    q_NothingToUndo := by rw [hA]; exact q_is_NothingToUndo,
    e_NothingToRedo := by rw [hA]; exact ⟨PySem.W.mg_of X G a_NothingToRedo, kc_NothingToRedo, ⟨_, _, _, _, _, _, _, _, _, _, _, _, _, _, x_NothingToRedo⟩, sa_NothingToRedo, ga_NothingToRedo, gg_NothingToRedo, ca_NothingToRedo⟩,
    q_NothingToRedo := by rw [hA]; exact q_is_NothingToRedo,
    n_int := PySem.W.mg_none_of X G z_int,
    n_bool := PySem.W.mg_none_of X G z_bool,
    n_list := PySem.W.mg_none_of X G z_list,
    n_str := PySem.W.mg_none_of X G z_str,
    n_tuple := PySem.W.mg_none_of X G z_tuple,
    n_ValueError := PySem.W.mg_none_of X G z_ValueError,
    n_len := PySem.W.mg_none_of X G z_len,
    n_range := PySem.W.mg_none_of X G z_range,
    n_enumerate := PySem.W.mg_none_of X G z_enumerate,
    n_isinstance := PySem.W.mg_none_of X G z_isinstance,
    n_all := PySem.W.mg_none_of X G z_all,
    cn := cn,
    ct := ct,
    nd := by rw [hA]; exact nd }
  have FL := fun_mk (st := s_law) l_law cd_is_law k_law
  have eL : A.law = fa := by rw [hA]
  refine ⟨PySem.W.fnOf "law" "law" (defArgs s_law) (defBody s_law) (defScope s_law) .none kV_law doc_law pm_law an_law cd_law ct_law, fun s v => .of_eq rfl, fun base _ _ => ?_⟩
  rw [← eL] at FL ⊢
  have g_own := ok_own (P := l.prog) (w := w) (base := base) T 
  have g_InvalidSize := ok_InvalidSize (P := l.prog) (w := w) (base := base) T 
  have g_InvalidImage := ok_InvalidImage (P := l.prog) (w := w) (base := base) T 
  have g_NotState := ok_NotState (P := l.prog) (w := w) (base := base) T 
  have g_Unrepairable := ok_Unrepairable (P := l.prog) (w := w) (base := base) T g_own
  have g_InvalidRecord := ok_InvalidRecord (P := l.prog) (w := w) (base := base) T 
  have g_Busy := ok_Busy (P := l.prog) (w := w) (base := base) T 
  have g_Written := ok_Written (P := l.prog) (w := w) (base := base) T 
  have g_NotReady := ok_NotReady (P := l.prog) (w := w) (base := base) T 
  have g_InvalidNumber := ok_InvalidNumber (P := l.prog) (w := w) (base := base) T 
  have g_InvalidRules := ok_InvalidRules (P := l.prog) (w := w) (base := base) T 
  have g_InvalidStore := ok_InvalidStore (P := l.prog) (w := w) (base := base) T 
  have g_Ambiguous := ok_Ambiguous (P := l.prog) (w := w) (base := base) T g_own
  have g_NoWriter := ok_NoWriter (P := l.prog) (w := w) (base := base) T 
  have g_Unsafe := ok_Unsafe (P := l.prog) (w := w) (base := base) T 
  have g_check_image := ok_check_image (P := l.prog) (w := w) (base := base) T g_InvalidImage
  have g_is_state := ok_is_state (P := l.prog) (w := w) (base := base) T g_check_image
  have g_check_state := ok_check_state (P := l.prog) (w := w) (base := base) T g_check_image g_NotState
  have g_check_pair := ok_check_pair (P := l.prog) (w := w) (base := base) T g_check_state
  have g_law_bag := ok_law_bag (P := l.prog) (w := w) (base := base) T 
  have g_law_take := ok_law_take (P := l.prog) (w := w) (base := base) T 
  have g_law_order := ok_law_order (P := l.prog) (w := w) (base := base) T g_law_take
  have g_law_size := ok_law_size (P := l.prog) (w := w) (base := base) T g_law_take
  have g_law_entry := ok_law_entry (P := l.prog) (w := w) (base := base) T g_law_take
  have g_law_drawn := ok_law_drawn (P := l.prog) (w := w) (base := base) T g_law_order g_law_take g_law_entry
  have g_law_entries_due := ok_law_entries_due (P := l.prog) (w := w) (base := base) T 
  have g_law_state_due := ok_law_state_due (P := l.prog) (w := w) (base := base) T g_law_entries_due
  have g_law_pair_due := ok_law_pair_due (P := l.prog) (w := w) (base := base) T g_law_state_due
  have g_law_told_image := ok_law_told_image (P := l.prog) (w := w) (base := base) T g_check_image
  have g_law_told_is_state := ok_law_told_is_state (P := l.prog) (w := w) (base := base) T g_is_state
  have g_law_told_state := ok_law_told_state (P := l.prog) (w := w) (base := base) T g_check_state
  have g_law_told_pair := ok_law_told_pair (P := l.prog) (w := w) (base := base) T g_check_pair
  have g_law_meets := ok_law_meets (P := l.prog) (w := w) (base := base) T 
  have g_law_one_checked := ok_law_one_checked (P := l.prog) (w := w) (base := base) T g_law_entries_due g_law_state_due g_law_told_image g_law_told_is_state g_law_told_state g_law_meets
  have g_law_two_checked := ok_law_two_checked (P := l.prog) (w := w) (base := base) T g_law_told_pair g_law_pair_due g_law_meets
  have g_law_marks := ok_law_marks (P := l.prog) (w := w) (base := base) T 
  have g_law_errors_apart := ok_law_errors_apart (P := l.prog) (w := w) (base := base) T g_InvalidSize g_InvalidImage g_NotState g_Unrepairable g_InvalidRecord g_Busy g_Written g_NotReady g_InvalidNumber g_InvalidRules g_InvalidStore g_Ambiguous g_NoWriter g_Unsafe g_law_marks
  have g_law_errors_keep := ok_law_errors_keep (P := l.prog) (w := w) (base := base) T g_InvalidSize g_InvalidImage g_NotState g_InvalidRecord g_Busy g_Written g_NotReady g_InvalidNumber g_InvalidStore g_NoWriter g_Unrepairable g_Ambiguous g_InvalidRules g_Unsafe g_law_meets
  exact ok_law T FL g_law_bag g_law_size g_law_take g_law_drawn g_law_one_checked g_law_two_checked g_law_errors_apart g_law_errors_keep
theorem walk {l : PySem.W.OpenLaw} {q : Program} {loose : List Str} {XP : (Str → Option Value) → Heap → Prop} {YP : World → Heap → Prop} {d : DefRec} {K : Params → PySem.W.Frag} (hn : l.most = some 63) (hdf : d.params.defaults = [])
    (hY : ∀ (w : World) (h : Heap), YP w h → (K w.params).In h)
    (F : ∀ (w : World) (mg : Str → Option Value) (fa : Addr) (h : Heap), (K w.params).In h → h.Ns mainGlobals mg → mg d.name = some (.ref fa) →
      ∃ fd : FuncData, (∀ (s : Shared) (u : Value), BindsTo s fd ⟨[u], []⟩ [("script", u)]) ∧ ∀ base : Heap, (K w.params).In base → base.Ns mainGlobals mg → FnOk l.prog w (K w.params) mg base CX0 8 fa fd ["script"] (spLaw (K w.params))) :
    PySem.W.WalkO q loose XP YP l.row.toRowW d [] (fun f vs => PySem.call f vs) :=
  L2.walk_of (n := 63) (k := 8) (x := "script") (CX := fun _ => CX0) (sp := fun w => spLaw (K w.params)) hn (by decide) hdf ⟨rfl, by decide, by decide⟩ hY F (fun _ _ a ns hl _ hS => ⟨a, ns, rfl, hS, hl, fun _ => rfl⟩) fun _ _ _ _ _ z => z
end Pv

open PySem PySem.W PyProof.Rows
set_option maxRecDepth 100000 in
set_option maxHeartbeats 0 in
theorem PySem.Challenge.cw_peermend_k00_images_checked_holds : PySem.Challenge.rw_peermend_k00_images_checked.Holds := by
  w_on; o_law; k_head; (case hw => w_witness2)
  k_fill
  refine Pv.walk (l := PySem.Challenge.rw_peermend_k00_images_checked) rfl rfl (fun w h Y => PySem.W.kIn_of Y) ?F
  case F =>
    intro w mg fa h KX G hmg
    refine' Pv.all_mk KX G hmg ?qa_own ?ql_own ?qcd_is_own ?qk_own ?qa_check_image ?ql_check_image ?qcd_is_check_image ?qk_check_image ?qa_is_state ?ql_is_state ?qcd_is_is_state ?qk_is_state ?qa_check_state ?ql_check_state ?qcd_is_check_state ?qk_check_state ?qa_check_pair ?ql_check_pair ?qcd_is_check_pair ?qk_check_pair ?qa_law_bag ?ql_law_bag ?qcd_is_law_bag ?qk_law_bag ?qa_law_take ?ql_law_take ?qcd_is_law_take ?qk_law_take ?qa_law_order ?ql_law_order ?qcd_is_law_order ?qk_law_order ?qa_law_size ?ql_law_size ?qcd_is_law_size ?qk_law_size ?qa_law_entry ?ql_law_entry ?qcd_is_law_entry ?qk_law_entry ?qa_law_drawn ?ql_law_drawn ?qcd_is_law_drawn ?qk_law_drawn ?qa_law_entries_due ?ql_law_entries_due ?qcd_is_law_entries_due ?qk_law_entries_due ?qa_law_state_due ?ql_law_state_due ?qcd_is_law_state_due ?qk_law_state_due ?qa_law_pair_due ?ql_law_pair_due ?qcd_is_law_pair_due ?qk_law_pair_due ?qa_law_told_image ?ql_law_told_image ?qcd_is_law_told_image ?qk_law_told_image ?qa_law_told_is_state ?ql_law_told_is_state ?qcd_is_law_told_is_state ?qk_law_told_is_state ?qa_law_told_state ?ql_law_told_state ?qcd_is_law_told_state ?qk_law_told_state ?qa_law_told_pair ?ql_law_told_pair ?qcd_is_law_told_pair ?qk_law_told_pair ?qa_law_meets ?ql_law_meets ?qcd_is_law_meets ?qk_law_meets ?qa_law_one_checked ?ql_law_one_checked ?qcd_is_law_one_checked ?qk_law_one_checked ?qa_law_two_checked ?ql_law_two_checked ?qcd_is_law_two_checked ?qk_law_two_checked ?qa_law_marks ?ql_law_marks ?qcd_is_law_marks ?qk_law_marks ?qa_law_errors_apart ?ql_law_errors_apart ?qcd_is_law_errors_apart ?qk_law_errors_apart ?qa_law_errors_keep ?ql_law_errors_keep ?qcd_is_law_errors_keep ?qk_law_errors_keep ?qa_law ?ql_law ?qcd_is_law ?qk_law ?qa_MendError ?qx_MendError ?qa_InvalidSize ?qx_InvalidSize ?qkc_InvalidSize ?qsa_InvalidSize ?qga_InvalidSize ?qgg_InvalidSize ?qca_InvalidSize ?qi_is_InvalidSize ?qt_InvalidSize ?qnf_InvalidSize ?ql_i_InvalidSize ?qcd_is_i_InvalidSize ?qk_i_InvalidSize ?qa_InvalidImage ?qx_InvalidImage ?qkc_InvalidImage ?qsa_InvalidImage ?qga_InvalidImage ?qgg_InvalidImage ?qca_InvalidImage ?qi_is_InvalidImage ?qt_InvalidImage ?qnf_InvalidImage ?ql_i_InvalidImage ?qcd_is_i_InvalidImage ?qk_i_InvalidImage ?qa_NotState ?qx_NotState ?qkc_NotState ?qsa_NotState ?qga_NotState ?qgg_NotState ?qca_NotState ?qi_is_NotState ?qt_NotState ?qnf_NotState ?ql_i_NotState ?qcd_is_i_NotState ?qk_i_NotState ?qa_Unrepairable ?qx_Unrepairable ?qkc_Unrepairable ?qsa_Unrepairable ?qga_Unrepairable ?qgg_Unrepairable ?qca_Unrepairable ?qi_is_Unrepairable ?qt_Unrepairable ?qnf_Unrepairable ?ql_i_Unrepairable ?qcd_is_i_Unrepairable ?qk_i_Unrepairable ?qa_InvalidRecord ?qx_InvalidRecord ?qkc_InvalidRecord ?qsa_InvalidRecord ?qga_InvalidRecord ?qgg_InvalidRecord ?qca_InvalidRecord ?qi_is_InvalidRecord ?qt_InvalidRecord ?qnf_InvalidRecord ?ql_i_InvalidRecord ?qcd_is_i_InvalidRecord ?qk_i_InvalidRecord ?qa_Busy ?qx_Busy ?qkc_Busy ?qsa_Busy ?qga_Busy ?qgg_Busy ?qca_Busy ?qi_is_Busy ?qt_Busy ?qnf_Busy ?ql_i_Busy ?qcd_is_i_Busy ?qk_i_Busy ?qa_Written ?qx_Written ?qkc_Written ?qsa_Written ?qga_Written ?qgg_Written ?qca_Written ?qi_is_Written ?qt_Written ?qnf_Written ?ql_i_Written ?qcd_is_i_Written ?qk_i_Written ?qa_NotReady ?qx_NotReady ?qkc_NotReady ?qsa_NotReady ?qga_NotReady ?qgg_NotReady ?qca_NotReady ?qi_is_NotReady ?qt_NotReady ?qnf_NotReady ?ql_i_NotReady ?qcd_is_i_NotReady ?qk_i_NotReady ?qa_InvalidNumber ?qx_InvalidNumber ?qkc_InvalidNumber ?qsa_InvalidNumber ?qga_InvalidNumber ?qgg_InvalidNumber ?qca_InvalidNumber ?qi_is_InvalidNumber ?qt_InvalidNumber ?qnf_InvalidNumber ?ql_i_InvalidNumber ?qcd_is_i_InvalidNumber ?qk_i_InvalidNumber ?qa_InvalidRules ?qx_InvalidRules ?qkc_InvalidRules ?qsa_InvalidRules ?qga_InvalidRules ?qgg_InvalidRules ?qca_InvalidRules ?qi_is_InvalidRules ?qt_InvalidRules ?qnf_InvalidRules ?ql_i_InvalidRules ?qcd_is_i_InvalidRules ?qk_i_InvalidRules ?qa_InvalidStore ?qx_InvalidStore ?qkc_InvalidStore ?qsa_InvalidStore ?qga_InvalidStore ?qgg_InvalidStore ?qca_InvalidStore ?qi_is_InvalidStore ?qt_InvalidStore ?qnf_InvalidStore ?ql_i_InvalidStore ?qcd_is_i_InvalidStore ?qk_i_InvalidStore ?qa_Ambiguous ?qx_Ambiguous ?qkc_Ambiguous ?qsa_Ambiguous ?qga_Ambiguous ?qgg_Ambiguous ?qca_Ambiguous ?qi_is_Ambiguous ?qt_Ambiguous ?qnf_Ambiguous ?ql_i_Ambiguous ?qcd_is_i_Ambiguous ?qk_i_Ambiguous ?qa_NoWriter ?qx_NoWriter ?qkc_NoWriter ?qsa_NoWriter ?qga_NoWriter ?qgg_NoWriter ?qca_NoWriter ?qi_is_NoWriter ?qt_NoWriter ?qnf_NoWriter ?ql_i_NoWriter ?qcd_is_i_NoWriter ?qk_i_NoWriter ?qa_Unsafe ?qx_Unsafe ?qkc_Unsafe ?qsa_Unsafe ?qga_Unsafe ?qgg_Unsafe ?qca_Unsafe ?qi_is_Unsafe ?qt_Unsafe ?qnf_Unsafe ?ql_i_Unsafe ?qcd_is_i_Unsafe ?qk_i_Unsafe ?qa_UnequalSizes ?qx_UnequalSizes ?qkc_UnequalSizes ?qsa_UnequalSizes ?qga_UnequalSizes ?qgg_UnequalSizes ?qca_UnequalSizes ?qq_is_UnequalSizes ?qa_InvalidUpdate ?qx_InvalidUpdate ?qkc_InvalidUpdate ?qsa_InvalidUpdate ?qga_InvalidUpdate ?qgg_InvalidUpdate ?qca_InvalidUpdate ?qq_is_InvalidUpdate ?qa_InvalidKind ?qx_InvalidKind ?qkc_InvalidKind ?qsa_InvalidKind ?qga_InvalidKind ?qgg_InvalidKind ?qca_InvalidKind ?qq_is_InvalidKind ?qa_InvalidChange ?qx_InvalidChange ?qkc_InvalidChange ?qsa_InvalidChange ?qga_InvalidChange ?qgg_InvalidChange ?qca_InvalidChange ?qq_is_InvalidChange ?qa_InvalidOrder ?qx_InvalidOrder ?qkc_InvalidOrder ?qsa_InvalidOrder ?qga_InvalidOrder ?qgg_InvalidOrder ?qca_InvalidOrder ?qq_is_InvalidOrder ?qa_NoStory ?qx_NoStory ?qkc_NoStory ?qsa_NoStory ?qga_NoStory ?qgg_NoStory ?qca_NoStory ?qq_is_NoStory ?qa_NotInBook ?qx_NotInBook ?qkc_NotInBook ?qsa_NotInBook ?qga_NotInBook ?qgg_NotInBook ?qca_NotInBook ?qq_is_NotInBook ?qa_Down ?qx_Down ?qkc_Down ?qsa_Down ?qga_Down ?qgg_Down ?qca_Down ?qq_is_Down ?qa_NotDown ?qx_NotDown ?qkc_NotDown ?qsa_NotDown ?qga_NotDown ?qgg_NotDown ?qca_NotDown ?qq_is_NotDown ?qa_NothingToUndo ?qx_NothingToUndo ?qkc_NothingToUndo ?qsa_NothingToUndo ?qga_NothingToUndo ?qgg_NothingToUndo ?qca_NothingToUndo ?qq_is_NothingToUndo ?qa_NothingToRedo ?qx_NothingToRedo ?qkc_NothingToRedo ?qsa_NothingToRedo ?qga_NothingToRedo ?qgg_NothingToRedo ?qca_NothingToRedo ?qq_is_NothingToRedo ?qz_int ?qz_bool ?qz_list ?qz_str ?qz_tuple ?qz_ValueError ?qz_len ?qz_range ?qz_enumerate ?qz_isinstance ?qz_all ?qcn ?qct ?qnd
    (case qa_own => k_is)
    (case ql_own => k_is)
    (case qcd_is_own => k_is)
    (case qk_own => k_is)
    (case qa_check_image => k_is)
    (case ql_check_image => k_is)
    (case qcd_is_check_image => k_is)
    (case qk_check_image => k_is)
    (case qa_is_state => k_is)
    (case ql_is_state => k_is)
    (case qcd_is_is_state => k_is)
    (case qk_is_state => k_is)
    (case qa_check_state => k_is)
    (case ql_check_state => k_is)
    (case qcd_is_check_state => k_is)
    (case qk_check_state => k_is)
    (case qa_check_pair => k_is)
    (case ql_check_pair => k_is)
    (case qcd_is_check_pair => k_is)
    (case qk_check_pair => k_is)
    (case qa_law_bag => k_is)
    (case ql_law_bag => k_is)
    (case qcd_is_law_bag => k_is)
    (case qk_law_bag => k_is)
    (case qa_law_take => k_is)
    (case ql_law_take => k_is)
    (case qcd_is_law_take => k_is)
    (case qk_law_take => k_is)
    (case qa_law_order => k_is)
    (case ql_law_order => k_is)
    (case qcd_is_law_order => k_is)
    (case qk_law_order => k_is)
    (case qa_law_size => k_is)
    (case ql_law_size => k_is)
    (case qcd_is_law_size => k_is)
    (case qk_law_size => k_is)
    (case qa_law_entry => k_is)
    (case ql_law_entry => k_is)
    (case qcd_is_law_entry => k_is)
    (case qk_law_entry => k_is)
    (case qa_law_drawn => k_is)
    (case ql_law_drawn => k_is)
    (case qcd_is_law_drawn => k_is)
    (case qk_law_drawn => k_is)
    (case qa_law_entries_due => k_is)
    (case ql_law_entries_due => k_is)
    (case qcd_is_law_entries_due => k_is)
    (case qk_law_entries_due => k_is)
    (case qa_law_state_due => k_is)
    (case ql_law_state_due => k_is)
    (case qcd_is_law_state_due => k_is)
    (case qk_law_state_due => k_is)
    (case qa_law_pair_due => k_is)
    (case ql_law_pair_due => k_is)
    (case qcd_is_law_pair_due => k_is)
    (case qk_law_pair_due => k_is)
    (case qa_law_told_image => k_is)
    (case ql_law_told_image => k_is)
    (case qcd_is_law_told_image => k_is)
    (case qk_law_told_image => k_is)
    (case qa_law_told_is_state => k_is)
    (case ql_law_told_is_state => k_is)
    (case qcd_is_law_told_is_state => k_is)
    (case qk_law_told_is_state => k_is)
    (case qa_law_told_state => k_is)
    (case ql_law_told_state => k_is)
    (case qcd_is_law_told_state => k_is)
    (case qk_law_told_state => k_is)
    (case qa_law_told_pair => k_is)
    (case ql_law_told_pair => k_is)
    (case qcd_is_law_told_pair => k_is)
    (case qk_law_told_pair => k_is)
    (case qa_law_meets => k_is)
    (case ql_law_meets => k_is)
    (case qcd_is_law_meets => k_is)
    (case qk_law_meets => k_is)
    (case qa_law_one_checked => k_is)
    (case ql_law_one_checked => k_is)
    (case qcd_is_law_one_checked => k_is)
    (case qk_law_one_checked => k_is)
    (case qa_law_two_checked => k_is)
    (case ql_law_two_checked => k_is)
    (case qcd_is_law_two_checked => k_is)
    (case qk_law_two_checked => k_is)
    (case qa_law_marks => k_is)
    (case ql_law_marks => k_is)
    (case qcd_is_law_marks => k_is)
    (case qk_law_marks => k_is)
    (case qa_law_errors_apart => k_is)
    (case ql_law_errors_apart => k_is)
    (case qcd_is_law_errors_apart => k_is)
    (case qk_law_errors_apart => k_is)
    (case qa_law_errors_keep => k_is)
    (case ql_law_errors_keep => k_is)
    (case qcd_is_law_errors_keep => k_is)
    (case qk_law_errors_keep => k_is)
    (case qa_law => k_is)
    (case ql_law => k_is)
    (case qcd_is_law => k_is)
    (case qk_law => k_is)
    (case qa_MendError => k_is)
    (case qx_MendError => k_is)
    (case qa_InvalidSize => k_is)
    (case qx_InvalidSize => k_is)
    (case qkc_InvalidSize => k_is)
    (case qsa_InvalidSize => k_is)
    (case qga_InvalidSize => k_is)
    (case qgg_InvalidSize => k_is)
    (case qca_InvalidSize => k_is)
    (case qi_is_InvalidSize => k_is)
    (case qt_InvalidSize => k_is)
    (case qnf_InvalidSize => k_is)
    (case ql_i_InvalidSize => k_is)
    (case qcd_is_i_InvalidSize => k_is)
    (case qk_i_InvalidSize => k_is)
    (case qa_InvalidImage => k_is)
    (case qx_InvalidImage => k_is)
    (case qkc_InvalidImage => k_is)
    (case qsa_InvalidImage => k_is)
    (case qga_InvalidImage => k_is)
    (case qgg_InvalidImage => k_is)
    (case qca_InvalidImage => k_is)
    (case qi_is_InvalidImage => k_is)
    (case qt_InvalidImage => k_is)
    (case qnf_InvalidImage => k_is)
    (case ql_i_InvalidImage => k_is)
    (case qcd_is_i_InvalidImage => k_is)
    (case qk_i_InvalidImage => k_is)
    (case qa_NotState => k_is)
    (case qx_NotState => k_is)
    (case qkc_NotState => k_is)
    (case qsa_NotState => k_is)
    (case qga_NotState => k_is)
    (case qgg_NotState => k_is)
    (case qca_NotState => k_is)
    (case qi_is_NotState => k_is)
    (case qt_NotState => k_is)
    (case qnf_NotState => k_is)
    (case ql_i_NotState => k_is)
    (case qcd_is_i_NotState => k_is)
    (case qk_i_NotState => k_is)
    (case qa_Unrepairable => k_is)
    (case qx_Unrepairable => k_is)
    (case qkc_Unrepairable => k_is)
    (case qsa_Unrepairable => k_is)
    (case qga_Unrepairable => k_is)
    (case qgg_Unrepairable => k_is)
    (case qca_Unrepairable => k_is)
    (case qi_is_Unrepairable => k_is)
    (case qt_Unrepairable => k_is)
    (case qnf_Unrepairable => k_is)
    (case ql_i_Unrepairable => k_is)
    (case qcd_is_i_Unrepairable => k_is)
    (case qk_i_Unrepairable => k_is)
    (case qa_InvalidRecord => k_is)
    (case qx_InvalidRecord => k_is)
    (case qkc_InvalidRecord => k_is)
    (case qsa_InvalidRecord => k_is)
    (case qga_InvalidRecord => k_is)
    (case qgg_InvalidRecord => k_is)
    (case qca_InvalidRecord => k_is)
    (case qi_is_InvalidRecord => k_is)
    (case qt_InvalidRecord => k_is)
    (case qnf_InvalidRecord => k_is)
    (case ql_i_InvalidRecord => k_is)
    (case qcd_is_i_InvalidRecord => k_is)
    (case qk_i_InvalidRecord => k_is)
    (case qa_Busy => k_is)
    (case qx_Busy => k_is)
    (case qkc_Busy => k_is)
    (case qsa_Busy => k_is)
    (case qga_Busy => k_is)
    (case qgg_Busy => k_is)
    (case qca_Busy => k_is)
    (case qi_is_Busy => k_is)
    (case qt_Busy => k_is)
    (case qnf_Busy => k_is)
    (case ql_i_Busy => k_is)
    (case qcd_is_i_Busy => k_is)
    (case qk_i_Busy => k_is)
    (case qa_Written => k_is)
    (case qx_Written => k_is)
    (case qkc_Written => k_is)
    (case qsa_Written => k_is)
    (case qga_Written => k_is)
    (case qgg_Written => k_is)
    (case qca_Written => k_is)
    (case qi_is_Written => k_is)
    (case qt_Written => k_is)
    (case qnf_Written => k_is)
    (case ql_i_Written => k_is)
    (case qcd_is_i_Written => k_is)
    (case qk_i_Written => k_is)
    (case qa_NotReady => k_is)
    (case qx_NotReady => k_is)
    (case qkc_NotReady => k_is)
    (case qsa_NotReady => k_is)
    (case qga_NotReady => k_is)
    (case qgg_NotReady => k_is)
    (case qca_NotReady => k_is)
    (case qi_is_NotReady => k_is)
    (case qt_NotReady => k_is)
    (case qnf_NotReady => k_is)
    (case ql_i_NotReady => k_is)
    (case qcd_is_i_NotReady => k_is)
    (case qk_i_NotReady => k_is)
    (case qa_InvalidNumber => k_is)
    (case qx_InvalidNumber => k_is)
    (case qkc_InvalidNumber => k_is)
    (case qsa_InvalidNumber => k_is)
    (case qga_InvalidNumber => k_is)
    (case qgg_InvalidNumber => k_is)
    (case qca_InvalidNumber => k_is)
    (case qi_is_InvalidNumber => k_is)
    (case qt_InvalidNumber => k_is)
    (case qnf_InvalidNumber => k_is)
    (case ql_i_InvalidNumber => k_is)
    (case qcd_is_i_InvalidNumber => k_is)
    (case qk_i_InvalidNumber => k_is)
    (case qa_InvalidRules => k_is)
    (case qx_InvalidRules => k_is)
    (case qkc_InvalidRules => k_is)
    (case qsa_InvalidRules => k_is)
    (case qga_InvalidRules => k_is)
    (case qgg_InvalidRules => k_is)
    (case qca_InvalidRules => k_is)
    (case qi_is_InvalidRules => k_is)
    (case qt_InvalidRules => k_is)
    (case qnf_InvalidRules => k_is)
    (case ql_i_InvalidRules => k_is)
    (case qcd_is_i_InvalidRules => k_is)
    (case qk_i_InvalidRules => k_is)
    (case qa_InvalidStore => k_is)
    (case qx_InvalidStore => k_is)
    (case qkc_InvalidStore => k_is)
    (case qsa_InvalidStore => k_is)
    (case qga_InvalidStore => k_is)
    (case qgg_InvalidStore => k_is)
    (case qca_InvalidStore => k_is)
    (case qi_is_InvalidStore => k_is)
    (case qt_InvalidStore => k_is)
    (case qnf_InvalidStore => k_is)
    (case ql_i_InvalidStore => k_is)
    (case qcd_is_i_InvalidStore => k_is)
    (case qk_i_InvalidStore => k_is)
    (case qa_Ambiguous => k_is)
    (case qx_Ambiguous => k_is)
    (case qkc_Ambiguous => k_is)
    (case qsa_Ambiguous => k_is)
    (case qga_Ambiguous => k_is)
    (case qgg_Ambiguous => k_is)
    (case qca_Ambiguous => k_is)
    (case qi_is_Ambiguous => k_is)
    (case qt_Ambiguous => k_is)
    (case qnf_Ambiguous => k_is)
    (case ql_i_Ambiguous => k_is)
    (case qcd_is_i_Ambiguous => k_is)
    (case qk_i_Ambiguous => k_is)
    (case qa_NoWriter => k_is)
    (case qx_NoWriter => k_is)
    (case qkc_NoWriter => k_is)
    (case qsa_NoWriter => k_is)
    (case qga_NoWriter => k_is)
    (case qgg_NoWriter => k_is)
    (case qca_NoWriter => k_is)
    (case qi_is_NoWriter => k_is)
    (case qt_NoWriter => k_is)
    (case qnf_NoWriter => k_is)
    (case ql_i_NoWriter => k_is)
    (case qcd_is_i_NoWriter => k_is)
    (case qk_i_NoWriter => k_is)
    (case qa_Unsafe => k_is)
    (case qx_Unsafe => k_is)
    (case qkc_Unsafe => k_is)
    (case qsa_Unsafe => k_is)
    (case qga_Unsafe => k_is)
    (case qgg_Unsafe => k_is)
    (case qca_Unsafe => k_is)
    (case qi_is_Unsafe => k_is)
    (case qt_Unsafe => k_is)
    (case qnf_Unsafe => k_is)
    (case ql_i_Unsafe => k_is)
    (case qcd_is_i_Unsafe => k_is)
    (case qk_i_Unsafe => k_is)
    (case qa_UnequalSizes => k_is)
    (case qx_UnequalSizes => k_is)
    (case qkc_UnequalSizes => k_is)
    (case qsa_UnequalSizes => k_is)
    (case qga_UnequalSizes => k_is)
    (case qgg_UnequalSizes => k_is)
    (case qca_UnequalSizes => k_is)
    (case qq_is_UnequalSizes => k_exc)
    (case qa_InvalidUpdate => k_is)
    (case qx_InvalidUpdate => k_is)
    (case qkc_InvalidUpdate => k_is)
    (case qsa_InvalidUpdate => k_is)
    (case qga_InvalidUpdate => k_is)
    (case qgg_InvalidUpdate => k_is)
    (case qca_InvalidUpdate => k_is)
    (case qq_is_InvalidUpdate => k_exc)
    (case qa_InvalidKind => k_is)
    (case qx_InvalidKind => k_is)
    (case qkc_InvalidKind => k_is)
    (case qsa_InvalidKind => k_is)
    (case qga_InvalidKind => k_is)
    (case qgg_InvalidKind => k_is)
    (case qca_InvalidKind => k_is)
    (case qq_is_InvalidKind => k_exc)
    (case qa_InvalidChange => k_is)
    (case qx_InvalidChange => k_is)
    (case qkc_InvalidChange => k_is)
    (case qsa_InvalidChange => k_is)
    (case qga_InvalidChange => k_is)
    (case qgg_InvalidChange => k_is)
    (case qca_InvalidChange => k_is)
    (case qq_is_InvalidChange => k_exc)
    (case qa_InvalidOrder => k_is)
    (case qx_InvalidOrder => k_is)
    (case qkc_InvalidOrder => k_is)
    (case qsa_InvalidOrder => k_is)
    (case qga_InvalidOrder => k_is)
    (case qgg_InvalidOrder => k_is)
    (case qca_InvalidOrder => k_is)
    (case qq_is_InvalidOrder => k_exc)
    (case qa_NoStory => k_is)
    (case qx_NoStory => k_is)
    (case qkc_NoStory => k_is)
    (case qsa_NoStory => k_is)
    (case qga_NoStory => k_is)
    (case qgg_NoStory => k_is)
    (case qca_NoStory => k_is)
    (case qq_is_NoStory => k_exc)
    (case qa_NotInBook => k_is)
    (case qx_NotInBook => k_is)
    (case qkc_NotInBook => k_is)
    (case qsa_NotInBook => k_is)
    (case qga_NotInBook => k_is)
    (case qgg_NotInBook => k_is)
    (case qca_NotInBook => k_is)
    (case qq_is_NotInBook => k_exc)
    (case qa_Down => k_is)
    (case qx_Down => k_is)
    (case qkc_Down => k_is)
    (case qsa_Down => k_is)
    (case qga_Down => k_is)
    (case qgg_Down => k_is)
    (case qca_Down => k_is)
    (case qq_is_Down => k_exc)
    (case qa_NotDown => k_is)
    (case qx_NotDown => k_is)
    (case qkc_NotDown => k_is)
    (case qsa_NotDown => k_is)
    (case qga_NotDown => k_is)
    (case qgg_NotDown => k_is)
    (case qca_NotDown => k_is)
    (case qq_is_NotDown => k_exc)
    (case qa_NothingToUndo => k_is)
    (case qx_NothingToUndo => k_is)
    (case qkc_NothingToUndo => k_is)
    (case qsa_NothingToUndo => k_is)
    (case qga_NothingToUndo => k_is)
    (case qgg_NothingToUndo => k_is)
    (case qca_NothingToUndo => k_is)
    (case qq_is_NothingToUndo => k_exc)
    (case qa_NothingToRedo => k_is)
    (case qx_NothingToRedo => k_is)
    (case qkc_NothingToRedo => k_is)
    (case qsa_NothingToRedo => k_is)
    (case qga_NothingToRedo => k_is)
    (case qgg_NothingToRedo => k_is)
    (case qca_NothingToRedo => k_is)
    (case qq_is_NothingToRedo => k_exc)
    (case qz_int => k_is)
    (case qz_bool => k_is)
    (case qz_list => k_is)
    (case qz_str => k_is)
    (case qz_tuple => k_is)
    (case qz_ValueError => k_is)
    (case qz_len => k_is)
    (case qz_range => k_is)
    (case qz_enumerate => k_is)
    (case qz_isinstance => k_is)
    (case qz_all => k_is)
    (case qcn => k_is)
    (case qct => k_is)
    (case qnd => decide)
