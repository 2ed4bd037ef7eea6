import PyProof.Rows.All
import Wide.All
import OpenK.AllK
import Wide.FinOn
import PyProof.EqAt
import PyProof.EqKinds
import PyProof.TupleCall
import KE.KExcIs
import HandS.ForMost
import HandS.Exc
import HandS.ExcOwn
import HandS.WordsExc
import HandS.ExcInit
import HandS.ExcValue
import HandS.Defaults
import HandS.IsInst
import HandS.Wide
import HandS.Walk
import HandS.MakeKw
import HandS.Style
import HandS.Codes
import HandS.Text
import HandS.Steps
import HandS.Zip
import KE.GoesMore
import KE.GoesZip
import KE.GoesEnum
import PyProof.EnumMake
import PyProof.ListStr
import KE.SortData
import HandS.SortRule
import HandS.NoneIn
import KE.DataMinMax
import PyProof.Claim2Refuses
import HandS.TupAny
import HandS.Deep
import HandS.Conv
import HandS.Dict
import HandS.SetKeys
import KE.DatumIndex
import HandS.Comp
import KE.GoesRaise
import HandS.More
import KE.KStar
import HandS.RaiseMore
import HandS.MakeKwOnly
import PyProof.ReprLen
import HandS.Ends
import PySem.Challenge.RW_leanscript_k70_maps_and_what_they_lead_t
set_option Elab.async false
set_option linter.all false
set_option maxRecDepth 100000
set_option maxHeartbeats 8000000
namespace XR
open PySem PySem.Spec PyProof.Rows L2

/-- an exception's object, by its class and its dict -/
def ExAt (H : Hp) (a C : Addr) (d : Option Addr) : Prop := ∃ phi : Heap → Prop, H a = some (.ext phi) ∧
  ∀ h, phi h → ∃ (oe : Obj) (vs : Array Value), h.get? a = some oe ∧ oe.cls = .ref C ∧ oe.dict = d ∧ oe.data = .fields vs
/-- its own dict -/
def DcAt (H : Hp) (dd : Addr) (fs : List (Str × V)) : Prop := H dd = some (.xd fs) ∨ H dd = some (exd dd fs)
def ExIn (H : Hp) (a C : Addr) : Prop := ExAt H a C none ∨ ∃ dd fs, ExAt H a C (some dd) ∧ DcAt H dd fs
theorem exAt_exo {H : Hp} {a C : Addr} {d : Option Addr} (h : H a = some (exo a C d)) : ExAt H a C d := ⟨_, h, fun _ ⟨_, e⟩ => ⟨_, _, e, rfl, rfl, rfl⟩⟩
theorem exAt_ExO {H : Hp} {a C : Addr} (h : H a = some (ExO (.ref C) a)) : ExAt H a C none := ⟨_, h, fun _ ⟨_, _, e, z, d, _⟩ => ⟨_, _, e, z.1, z.2, d⟩⟩
theorem ExAt.same {H H' : Hp} {a C : Addr} {d : Option Addr} (h : ExAt H a C d) (k : Same H H') : ExAt H' a C d := let ⟨p, e, q⟩ := h; ⟨p, k _ _ e, q⟩
theorem DcAt.same {H H' : Hp} {dd : Addr} {fs : List (Str × V)} (h : DcAt H dd fs) (k : Same H H') : DcAt H' dd fs := h.elim (fun e => .inl (k _ _ e)) fun e => .inr (k _ _ e)
theorem ExIn.same {H H' : Hp} {a C : Addr} (h : ExIn H a C) (k : Same H H') : ExIn H' a C := h.elim (fun e => .inl (e.same k)) fun ⟨dd, fs, e, f⟩ => .inr ⟨dd, fs, e.same k, f.same k⟩

section
variable {X : Cx} {pins : List (Addr × Obj)} {σ : L2.St} {H : Hp} {s : Shared}
theorem dc_ns {dd : Addr} {fs : List (Str × V)} (I : Inv X pins σ H s) (h : DcAt H dd fs) : ∃ mA, s.heap.Ns1 dd mA ∧ ∀ f, RelO (fs.lookup f) (mA f) := by
  rcases h with h | h
  · exact I.hok dd _ h
  · exact exd_at I.hok h
theorem ex_obj {a C : Addr} {d : Option Addr} (I : Inv X pins σ H s) (h : ExAt H a C d) : ∃ (oe : Obj) (vs : Array Value), s.heap.get? a = some oe ∧ oe.cls = .ref C ∧ oe.dict = d ∧ oe.data = .fields vs := by
  obtain ⟨p, e, q⟩ := h
  have x : ObjOk X.prog X.w H s.heap a (.ext p) := I.hok a _ e
  exact q _ x.1
theorem inst_of {a C : Addr} (I : Inv X pins σ H s) (h : ExIn H a C) : ∃ (oe : Obj) (od : Option Obj), PySem.W.InstAt s.heap a oe C od := by
  rcases h with h | ⟨dd, fs, h, k⟩
  · obtain ⟨oe, vs, e, c, d, t⟩ := ex_obj I h
    exact ⟨oe, none, ⟨e, c, by unfold PySem.W.notCls; rw [t] <;> rfl, by rw [d] <;> trivial⟩⟩
  · obtain ⟨oe, vs, e, c, d, t⟩ := ex_obj I h
    obtain ⟨mA, hns, hr⟩ := dc_ns I k
    obtain ⟨od, ho, hl⟩ := lookIn_ns hns
    exact ⟨oe, some od, ⟨e, c, by unfold PySem.W.notCls; rw [t] <;> rfl, by rw [d]; exact ho⟩⟩
/-- what the class must say, so that isinstance asks its instances rightly -/
structure ExcK (K : PySem.W.Frag) (C : Addr) : Prop where
  hc : (PySem.W.clsIn K C).isSome = true
  hg : PySem.W.findIn K (.ref C) "__getattribute__" = some (some (.builtin "BaseException.__getattribute__"))
  hk : PySem.W.findIn K (.ref C) "__getattr__" = some none
  hs : PySem.W.subIn K (.ref C) (.type "BaseException") = some true
  hd : PySem.W.hasDictIn K C = true
  ha : PySem.W.findIn K (.ref C) "__class__" = some (some (.builtin "object.__class__"))
  hn : PySem.W.specialIn K (.builtin "object.__class__") "__get__" = some (some (.builtin "getset_descriptor.__get__"))
  ht : PySem.W.takesIn K (.builtin "object.__class__") = some true
  hm : PySem.W.mroIn K C (.type "object") = some true
/-- isinstance(x, T), x an exception of the class at C -/
def rIsX (K : PySem.W.Frag) : List V → Hp → VK → Prop := fun xs H Q => ∃ (a C : Addr) (c : V) (u : Value) (b : Bool), xs = [.ref a, c] ∧ ClsV c u ∧ ExIn H a C ∧ ExcK K C ∧ PySem.W.kitOne K (.ref C) u = some b ∧ Q (.bl b) H
theorem call_isX : CallR X (.builtin "isinstance") (rIsX X.K) := by
  intro pins s σ H xs us Q I r h
  obtain ⟨a, C, c, u, b, rfl, k, ex, T, e, q⟩ := h
  obtain ⟨u1, u2, rfl, r1, r2⟩ := vals2 r
  have e2 := k.eq r2
  subst e2
  cases (show u1 = Value.ref a from r1)
  obtain ⟨oe, od, J⟩ := inst_of I ex
  exact PySem.W.kia_one (PySem.W.kitx_exc T.hc T.hg T.hk T.hs T.ha T.hn T.ht T.hm) I.kIn J e (fun z => nomatch z) fun tk => ⟨.bl b, H, I.tok tk, rfl, q⟩
/-- x.f, x an exception that has its dict -/
def tXfl (K : PySem.W.Frag) (f : Str) (te : TE) : TE := fun σ H Q => te σ H fun x H1 => ∃ (a C dd : Addr) (fs : List (Str × V)) (v : V), x = .ref a ∧ ExAt H1 a C (some dd) ∧ DcAt H1 dd fs ∧ ExcK K C ∧ PySem.W.findIn K (.ref C) f = some none ∧ fs.lookup f = some v ∧ Q v H1
theorem pe_xfl {e : Expr} {te : TE} {pos : Pos} {f : Str} (he : PE X e te) (hb : attributeBase e f X.env (eval e X.env) = eval e X.env := by rfl) : PE X (.Attribute e f pos) (tXfl X.K f te) := by
  refine ⟨fun pins s σ H Q I h => ?_⟩
  refine attr_of hb (thn (he.run pins s σ H _ I h) fun u s1 hh => ?_)
  obtain ⟨x, H1, I1, rx, a, C, dd, fs, v, ex, ea, ed, T, hno, l, q⟩ := hh
  subst ex
  obtain rfl : u = Value.ref a := rx
  obtain ⟨oe, vs, e1, c1, d1, t1⟩ := ex_obj I1 ea
  obtain ⟨mA, hns, hr⟩ := dc_ns I1 ed
  obtain ⟨od, ho, hl⟩ := lookIn_ns hns
  obtain ⟨u, hu, ru⟩ := RelO.some_of (v := v) (o := mA f) (by rw [← l]; exact hr f)
  have J : PySem.W.InstAt s1.heap a oe C (some od) := ⟨e1, c1, by unfold PySem.W.notCls; rw [t1] <;> rfl, by rw [d1]; exact ho⟩
  exact HandSPX.exc_get I1.kIn J T.hg T.hk T.hs (PySem.W.findObj_own T.hd hno rfl (by rw [hl, hu])) (handed_of ru) ⟨v, H1, I1.tok _, ru, q⟩
end

/-! ### C(e, ..) as a value, C's own __init__ keeping sp -/
def tMkX (C : Addr) (sp : Sp) (dvs : List V) (ta : TA) : TE := fun σ H Q => ta σ H fun vs H1 => vs.length ≤ 1000 ∧ ∀ a, H1 a = none → sp (.ref a :: (vs ++ dvs)) (upd H1 a (exo a C none)) (fun v H2 => v = .non ∧ Q (.ref a) H2) (fun _ _ _ => False)
section
variable {X : Cx} {CX : CXT} {k : Nat} {C fI : Addr} {fd : FuncData} {ps : List Str} {sp : Sp} {ds : List Value} {dvs : List V} {x : Str} {p pos : Pos} {e : Expr} {es : List Expr} {ta : TA}
theorem run_mkX {pins : List (Addr × Obj)} {σ : L2.St} {H : Hp} {s : Shared} {Q : VK} {us : List Value} {vs : List V} (T : OexC X.K C) (iC : PySem.W.findIn X.K (.ref C) "__init__" = some (some (.ref fI))) (tI : PySem.W.typeIn X.K (.ref fI) = some (.type "function"))
    (F1 : FnOk X.prog X.w X.K X.mg X.base CX k fI fd ps sp) (hr : Room (k + 1) X.A) (hb : Binds X.K fd ps ds) (hd : Vals dvs ds) (hx : Passes CX X (fun _ _ _ => False)) (I1 : Inv X pins σ H s) (r1 : Vals vs us) (hz : vs.length ≤ 1000)
    (q1 : ∀ a, H a = none → sp (.ref a :: (vs ++ dvs)) (upd H a (exo a C none)) (fun v H2 => v = .non ∧ Q (.ref a) H2) (fun _ _ _ => False)) :
    wpAny (model X.prog X.w) X.A (call (.ref C) us) (EP X pins σ Q) X.xe s := by
  obtain ⟨nm, q, N, bs, bm, sn, sub, ab, col, dd, k0, k1, k2, k3, k5, hC, hbm⟩ := T.cls
  obtain ⟨hp, g, dr, tk, os⟩ := s
  have hsz : hp.objs.size ≤ hp.objs.size + 1 := Nat.le_succ _
  have hn : H (hp.objs.size + 1) = none := I1.hok.fresh hsz
  have hq := q1 (hp.objs.size + 1) hn
  have kk : ∀ b o, hp.get? b = some o → ((hp.push (PySem.W.kdv_tup us)).push (PySem.HandSPX.excO C hp.objs.size)).get? b = some o := fun b o e => Heap.get?_push_of_some _ (Heap.get?_push_of_some _ e)
  have hget : ((hp.push (PySem.W.kdv_tup us)).push (PySem.HandSPX.excO C hp.objs.size)).get? (hp.objs.size + 1) = some (PySem.HandSPX.excO C hp.objs.size) := by heap_get
  have I2 : Inv X pins σ (upd H (hp.objs.size + 1) (exo (hp.objs.size + 1) C none)) ⟨(hp.push (PySem.W.kdv_tup us)).push (PySem.HandSPX.excO C hp.objs.size), g, dr, tk, os⟩ :=
    I1.laid (t' := tk) (a := hp.objs.size + 1) (o := exo (hp.objs.size + 1) C none) (h' := (hp.push (PySem.W.kdv_tup us)).push (PySem.HandSPX.excO C hp.objs.size)) kk hsz (exo_ok hget)
  have r2 : Vals (V.ref (hp.objs.size + 1) :: (vs ++ dvs)) (Value.ref (hp.objs.size + 1) :: (us ++ ds)) := .cons rfl (r1.append hd)
  have hl : (Value.ref (hp.objs.size + 1) :: us ++ ds).length = ps.length := by
    have e := r2.length
    rw [F1.len _ _ _ _ hq] at e
    exact e.symm
  have hus : us.length ≤ sizeLine := by
    rw [← Paired.length r1, sizeLine_eq]
    omega
  refine wpAny_call (PySem.HandSPX.call_own F.excBase_ValueError (fun Y => PySem.HandSPX.refsVE_contains Y bm hbm) (I1.kIn _ _ hC) (PySem.W.looks_findIn I1.kIn iC) (fun self => PySem.W.bind_fn I1.kIn self tI) hus
    (codeAny_mono (F1.run _ X.stack _ _ ⟨Value.ref (hp.objs.size + 1) :: us, []⟩ (Value.ref (hp.objs.size + 1) :: (us ++ ds)) _ _ (fun _ _ _ => False) (hr.make C us []) (I2.env0.make C us []) (hb _ (Value.ref (hp.objs.size + 1) :: us) I2.kIn hl) r2 hq) fun r s' hq' => ?_))
  cases r with
  | error er => exact hx pins σ _ _ er s' I2 hq'
  | ok fl =>
    cases fl with
    | ret u =>
      obtain ⟨v, H', I3, rv, ev, q3⟩ := I2.after hq'
      subst ev
      exact ⟨rv, ⟨V.ref (hp.objs.size + 1), H', I3, rfl, q3⟩⟩
    | next => exact False.elim hq'
    | brk => exact False.elim hq'
    | cont => exact False.elim hq'
theorem pe_mkX (T : OexC X.K C) (iC : PySem.W.findIn X.K (.ref C) "__init__" = some (some (.ref fI))) (tI : PySem.W.typeIn X.K (.ref fI) = some (.type "function"))
    (F1 : FnOk X.prog X.w X.K X.mg X.base CX k fI fd ps sp) (hr : Room (k + 1) X.A) (hb : Binds X.K fd ps ds) (hd : Vals dvs ds) (hx : Passes CX X (fun _ _ _ => False)) (hg : Gl X x) (hm : X.mg x = some (.ref C)) (ha : PA X (e :: es) ta)
    (hdb : (x == ("__debug__" : Str)) = false := by decide) (he : starEach (e :: es) X.env = (false, eval e X.env) :: starEach es X.env := by rfl) (hpl : (backTo pos (starEach es X.env)).any (·.1) = false := by rfl) :
    PE X (.Call (.Name x p) (e :: es) [] pos) (tMkX C sp dvs ta) := by
  refine ⟨fun pins s σ H Q I h => ?_⟩
  refine wpAny_Call_Name_kw (ld_glob I hg hm ?_ hdb)
  refine PySem.W.callWith_K (h₀ := X.base) I.ok.mod.kin T.kC (thn (ha.run pos pins s σ H _ I h) fun us s1 ⟨vs, H1, I1, r1, hz, q1⟩ => ⟨I1.kIn, ?_⟩) he hpl
  exact run_mkX T iC tI F1 hr hb hd hx I1 r1 hz q1
theorem pe_mkX0 (T : OexC X.K C) (iC : PySem.W.findIn X.K (.ref C) "__init__" = some (some (.ref fI))) (tI : PySem.W.typeIn X.K (.ref fI) = some (.type "function"))
    (F1 : FnOk X.prog X.w X.K X.mg X.base CX k fI fd ps sp) (hr : Room (k + 1) X.A) (hb : Binds X.K fd ps ds) (hd : Vals dvs ds) (hx : Passes CX X (fun _ _ _ => False)) (hg : Gl X x) (hm : X.mg x = some (.ref C))
    (hdb : (x == ("__debug__" : Str)) = false := by decide) : PE X (.Call (.Name x p) [] [] pos) (tMkX C sp dvs tNil) := by
  refine ⟨fun pins s σ H Q I h => ?_⟩
  refine wpAny_Call_Name_kw (ld_glob I hg hm ?_ hdb)
  obtain ⟨hz, q1⟩ := h
  exact PySem.W.callWith_K0 I.kIn T.kC (run_mkX (us := []) T iC tI F1 hr hb hd hx I .nil hz q1)
end
/-! ### a class without own __init__, made of nothing -/
section
variable {X : Cx}
theorem pe_exc0 {C : Addr} {bmB : List Value} {B newId initId : String} {x : Str} {p pos : Pos} (F : ExcBaseFacts B newId initId bmB) (q : PySem.W.excIn X.K C bmB newId = true) (gC : X.mg x = some (.ref C)) (kC : PySem.W.keepIn X.K (.ref C) = true) (hg : Gl X x)
    (hdb : (x == ("__debug__" : Str)) = false := by decide) :
    PE X (.Call (.Name x p) [] [] pos) (fun σ H Q => ∀ a, H a = none → Q (.ref a) (upd H a (ExO (.ref C) a))) := by
  refine ⟨fun pins s σ H Q I h => ?_⟩
  refine wpAny_Call_Name_kw (ld_glob I hg gC ?_ hdb)
  refine PySem.W.callWith_K0 I.kIn kC ?_
  obtain ⟨bm, N, nm, qn, bs, hdct, sn, sub, ab, col, dd, k0, k1, k2, k3, k5, mN, hC, hN, hni, T⟩ := exc_obj I.kIn q
  refine wpAny_call_exc_subT F T hC hN hni (fun h' a hm => ?_) (by show 0 ≤ sizeLine; omega)
  have hn : H a = none := I.hok.gone hm.new
  obtain ⟨t, ht, _, _⟩ := hm.there
  exact ⟨.ref a, upd H a (ExO (.ref C) a), I.laidN hm.keeps hm.new hn (exO_ok ht ⟨rfl, rfl⟩ rfl rfl rfl (show 4 < 6 by decide)), rfl, h a hn⟩
end
end XR

/-! a reading, step by step -/
namespace XR
open PySem PySem.Spec PyProof.Rows L2
section
variable {σ : L2.St} {H : Hp} {Q : VK} {QT : Bool → Hp → Prop} {QA : List V → Hp → Prop} {v x y : V} {i j : Int} {n : Nat} {ta tb te : TE} {tr t : TA} {r : R2} {D : Ends} {s u : TS} {g : TG}
theorem rv_var (e : σ[n]? = some (some v)) (q : Q v H) : tVar n σ H Q := ⟨v, e, q⟩
theorem rv_c (q : Q v H) : tC v σ H Q := q
theorem rv_op (q : ta σ H fun x H1 => tb σ H1 fun y H2 => r x y H2 Q) : tOp r ta tb σ H Q := q
theorem rv_nil (q : QA [] H) : tNil σ H QA := q
theorem rv_cons (q : ta σ H fun x H1 => tr σ H1 fun xs H2 => QA (x :: xs) H2) : tCons ta tr σ H QA := q
theorem rv_rI0 {g : Int → Int → V} (q : Q (g i j) H) : rI0 g (.int i) (.int j) H Q := ⟨i, j, rfl, rfl, q⟩
theorem rv_rI {C : Int → Int → Prop} {g : Int → Int → V} (c : C i j) (q : Q (g i j) H) : rI C g (.int i) (.int j) H Q := ⟨i, j, rfl, rfl, c, q⟩
theorem rv_eq (c : scal x y = true) (q : Q (.bl (decide (x = y))) H) : rEq x y H Q := ⟨c, q⟩
theorem rv_ne (c : scal x y = true) (q : Q (.bl (!decide (x = y))) H) : rNe x y H Q := ⟨c, q⟩
theorem rv_test (q : te σ H fun x H' => ∃ k, x = .bl k ∧ QT k H') : tTest te σ H QT := q
theorem rv_bl {b : Bool} {P : Bool → Prop} (q : P b) : ∃ k, V.bl b = .bl k ∧ P k := ⟨b, rfl, q⟩
theorem rv_cb {r : List V → Hp → VK → Prop} (q : t σ H fun vs H1 => r vs H1 Q) : tCB r t σ H Q := q
theorem rv_call {sp : Sp} {dvs : List V} {E : XK} (q : t σ H fun vs H1 => sp (vs ++ dvs) H1 Q E) : tCall sp dvs E t σ H Q := q
theorem rv_tup (q : t σ H fun xs H1 => xs.length ≤ sizeLine ∧ ∀ p, H1 p = none → Q (.ref p) (upd H1 p (.tup xs))) : tTup t σ H Q := q
theorem rv_lst (q : t σ H fun xs H1 => xs.length ≤ sizeLine ∧ ∀ p, H1 p = none → Q (.ref p) (upd H1 p (.lst xs))) : tLst t σ H Q := q
theorem rs_seq (q : s { D with nx := u D } σ H) : tSeq s u D σ H := q
theorem rs_asg (q : te σ H fun x H1 => g x σ H1 D.nx) : tAsg te g D σ H := q
theorem rg_name {Q2 : L2.St → Hp → Prop} (q : Q2 (σ.set n (some v)) H) : gName n v σ H Q2 := q
theorem rs_ret (q : te σ H D.rt) : tRet te D σ H := q
theorem rs_next (q : D.nx σ H) : tNext D σ H := q
theorem rs_if {c : TT} (q : c σ H fun b H1 => if b = true then s D σ H1 else u D σ H1) : tIfS c s u D σ H := q
theorem rv_tB (q : te σ H fun x H' => ∃ k, x = .bl k ∧ QT k H') : tB te σ H QT := q
theorem rv_or {tA tB : TT} (q : tA σ H fun c H1 => if c = true then QT true H1 else tB σ H1 QT) : tOr tA tB σ H QT := q
theorem rv_and {tA tB : TT} (q : tA σ H fun c H1 => if c = true then tB σ H1 QT else QT false H1) : tAnd tA tB σ H QT := q
theorem rv_not {tA : TT} (q : tA σ H fun c H1 => QT (!c) H1) : tNot tA σ H QT := q
theorem rv_andV (q : ta σ H fun x H1 => ∃ c, x = .bl c ∧ if c = true then tb σ H1 Q else Q (.bl false) H1) : tAndV ta tb σ H Q := q
theorem rv_orV (q : ta σ H fun x H1 => ∃ c, x = .bl c ∧ if c = true then Q (.bl true) H1 else tb σ H1 Q) : tOrV ta tb σ H Q := q
theorem rv_notV (q : ta σ H fun x H1 => ∃ c, x = .bl c ∧ Q (.bl (!c)) H1) : tNotV ta σ H Q := q
theorem rv_ifE {tA : TT} (q : tA σ H fun c H1 => if c = true then ta σ H1 Q else tb σ H1 Q) : tIf tA ta tb σ H Q := q
theorem rs_drop (q : te σ H fun _ H1 => D.nx σ H1) : tDrop te D σ H := q
theorem rv_app {K : PySem.W.Frag} {l : Addr} {xs : List V} (e : σ[n]? = some (some (.ref l))) (h : H l = some (.lst xs)) (q : t σ H fun vs H2 => ∃ (zs : List V) (y : V), vs = [y] ∧ H2 l = some (.lst zs) ∧ zs.length < sizeLine ∧ Q .non (upd H2 l (.lst (zs ++ [y])))) : tBM K "list" rAppend (tVar n) t σ H Q := by
  refine ⟨_, e, .inl ⟨rfl, _, SqL.of h⟩, ?_⟩
  have : (fun vs H2 => ∃ (zs : List V) (y : V), vs = [y] ∧ H2 l = some (.lst zs) ∧ zs.length < sizeLine ∧ Q .non (upd H2 l (.lst (zs ++ [y])))) = fun (vs : List V) (H2 : Hp) => rAppend (.ref l) vs H2 Q := by
    funext vs H2
    refine propext ⟨fun ⟨zs, y, a, b, c, d⟩ => ⟨l, zs, y, rfl, a, b, c, d⟩, fun ⟨l', zs, y, a, b, c, d, f⟩ => ?_⟩
    cases a
    exact ⟨zs, y, b, c, d, f⟩
  rw [this] at q
  exact q
theorem ro_nx {n2 : L2.St → Hp → Prop} {rt : VK} {bk ct : L2.St → Hp → Prop} (q : n2 σ H) : (Ends.mk n2 rt bk ct).nx σ H := q
theorem ro_rt {n2 : L2.St → Hp → Prop} {rt : VK} {bk ct : L2.St → Hp → Prop} (q : rt v H) : (Ends.mk n2 rt bk ct).rt v H := q
theorem ro_ct {n2 : L2.St → Hp → Prop} {rt : VK} {bk ct : L2.St → Hp → Prop} (q : ct σ H) : (Ends.mk n2 rt bk ct).ct σ H := q
theorem ro_bk {n2 : L2.St → Hp → Prop} {rt : VK} {bk ct : L2.St → Hp → Prop} (q : bk σ H) : (Ends.mk n2 rt bk ct).bk σ H := q
end
end XR

namespace My
open PySem PySem.Spec PyProof.Rows L2 XR
def top (i : Nat) : Stmt := PySem.Challenge.pw_leanscript_k70_maps_and_what_they_lead_t.main.body.getD i (.Pass ⟨0, 0, 0, 0⟩)
abbrev sMixed : Stmt := top 40
abbrev sCell : Stmt := top 41
abbrev sTake : Stmt := top 42
abbrev sOnly : Stmt := top 43
section
variable {P : Program} {w : World} {K : PySem.W.Frag} {mg : Str → Option Value} {base : Heap}
/-- _law_mixed: some number -/
def spMixed : Sp := fun vs H Q _ => ∃ c k : Int, vs = [.int c, .int k] ∧ ∀ n, Q (.int n) H
/-- _law_cell: some number -/
def spCell (K : PySem.W.Frag) : Sp := fun vs H Q _ => ∃ (a : Addr) (ns : List Int) (k : Int), vs = [.ref a, .int k] ∧ SqL K H a (ns.map V.int) ∧ 0 ≤ k ∧ k < 1000 ∧ ∀ n, Q (.int n) H
/-- _law_take: a digit; the pile goes on -/
def spTake : Sp := fun vs H Q _ => ∃ (a : Addr) (n z : Int), vs = [.ref a, .int z] ∧ H a = some (.lst [.int n]) ∧ 0 < z ∧ z < 1073741824 ∧ ∀ d m, 0 ≤ d → d < z → Q (.int d) (upd H a (.lst [.int m]))
local macro_rules | `(tactic| walk_at "rd1") => `(tactic| first
  | with_reducible refine rs_seq ?_
  | with_reducible refine rs_asg ?_
  | with_reducible refine rs_ret ?_
  | with_reducible refine rs_if ?_
  | with_reducible refine rs_next ?_
  | with_reducible refine rg_name ?_
  | ((with_reducible refine rv_var (v := ?vv) ?hv ?_); (case hv => exact rfl))
  | with_reducible refine rv_c ?_
  | with_reducible refine rv_op ?_
  | with_reducible refine rv_cons ?_
  | with_reducible refine rv_nil ?_
  | with_reducible refine rv_rI0 ?_
  | ((with_reducible refine rv_rI ?hc ?_); (case hc => walk_at "side"))
  | ((with_reducible refine rv_eq ?hc ?_); (case hc => exact rfl))
  | ((with_reducible refine rv_ne ?hc ?_); (case hc => exact rfl))
  | with_reducible refine rv_test ?_
  | with_reducible refine rv_bl ?_
  | with_reducible refine rv_cb ?_
  | with_reducible refine rv_call ?_
  | with_reducible refine rv_tup ?_
  | with_reducible refine rv_lst ?_
  | with_reducible refine rv_tB ?_
  | with_reducible refine rv_or ?_
  | with_reducible refine rv_and ?_
  | with_reducible refine rv_not ?_
  | with_reducible refine rv_andV ?_
  | with_reducible refine rv_orV ?_
  | with_reducible refine rv_notV ?_
  | with_reducible refine rv_ifE ?_
  | with_reducible refine rs_drop ?_
  | with_reducible refine iteT ?_
  | with_reducible refine iteF ?_
  | with_reducible refine ro_nx ?_
  | with_reducible refine ro_rt ?_
  | with_reducible refine ro_ct ?_
  | with_reducible refine ro_bk ?_)
local macro_rules | `(tactic| walk_at "rd") => `(tactic| repeat walk_at "rd1")
local macro_rules | `(tactic| walk_at "side") => `(tactic| first
  | assumption
  | exact (show CPow _ _ from ⟨by decide, by decide, by decide⟩)
  | exact (show CMul _ _ from .inl ⟨by decide, by decide⟩)
  | exact (show CMul _ _ from .inr ⟨by decide, by decide⟩)
  | (show (0 : Int) < _; decide)
  | (show CMul _ _; first | exact .inl ⟨by omega, by omega⟩ | exact .inr ⟨by omega, by omega⟩)
  | omega)
theorem scMixed : FnScope ["cell", "k", "number"] ["cell", "k"] (defScope sMixed) := ⟨rfl, rfl, rfl, by decide +kernel, rfl, by decide +kernel, by decide +kernel⟩
theorem ok_mixed {f : Addr} {fd : FuncData} (F : Fun K "_law_mixed" "_law_mixed" sMixed f fd) : FnOk P w K mg base CX0 1 f fd ["cell", "k"] spMixed := by
  refine F.ok scMixed (fun vs H Q E h => ?_) (fun cdv A outer s H vs Q E hr h => ?_)
  · obtain ⟨c, k, rfl, _⟩ := h
    rfl
  · refine ⟨_, pss_cons (ps_set (i := 2) scMixed.nd rfl (.inl rfl) (pe_op op_mod (pe_op op_add (pe_op op_add (pe_op op_mul (pe_op op_mod (pv 0) pe_int) pe_int) (pe_op op_mul (pv 1) pe_int)) pe_int) pe_int))
      (pss_cons (ps_set (i := 2) scMixed.nd rfl (.inl rfl) (pe_op op_mod (pe_op op_mul (pv 2) (pv 2)) pe_int))
        (pss_one (ps_ret (pe_op op_mod (pe_op op_mul (pv 2) (pe_op op_add (pv 2) pe_int)) pe_int)))), ?_⟩
    obtain ⟨c, k, rfl, q⟩ := h
    have m1 : ∀ x y : Int, 0 < y → y < 2 ^ 64 → CMul (x % y) y ∧ ∀ z, CMul (x % y) z := fun x y h1 h2 => by
      have a1 := Int.emod_nonneg x (by omega : y ≠ 0)
      have a2 := Int.emod_lt_of_pos x h1
      exact ⟨.inl ⟨by omega, by omega⟩, fun z => .inl ⟨by omega, by omega⟩⟩
    refine ⟨_, rfl, _, _, rfl, rfl, (by show (0 : Int) < _; decide), _, _, rfl, rfl, (m1 _ _ (by decide) (by decide)).2 _, _, rfl, _, _, rfl, rfl, .inr ⟨by decide, by decide⟩, _, _, rfl, rfl, _, _, rfl, rfl, _, _, rfl, rfl, (by show (0 : Int) < _; decide), ?_⟩
    refine ⟨_, rfl, _, rfl, _, _, rfl, rfl, (m1 _ _ (by decide) (by decide)).2 _, _, _, rfl, rfl, (by show (0 : Int) < _; decide), ?_⟩
    refine ⟨_, rfl, _, rfl, _, _, rfl, rfl, _, _, rfl, rfl, (m1 _ _ (by decide) (by decide)).2 _, _, _, rfl, rfl, (by show (0 : Int) < _; decide), ?_⟩
    exact q _
theorem scCell : FnScope ["script", "k", "cell", "found", "j"] ["script", "k"] (defScope sCell) := ⟨rfl, rfl, rfl, by decide +kernel, rfl, by decide +kernel, by decide +kernel⟩
theorem pow60 : (10 ^ (60 : Int).toNat : Int).natAbs < 2 ^ 200 := by decide +kernel
/-- from the second if on -/
def t_cell (tM : Sp) : TS := tSeq (tIfS (tTest (tOp (rI0 fun i j => .bl (decide (j ≤ i))) (tVar 2) (tOp (rI CPow fun i j => .int (i ^ j.toNat)) (tC (.int 10)) (tC (.int 18)))))
   (tRet (tOp (rI (fun _ j => 0 < j) fun i j => .int (i % j)) (tOp (rI0 fun i j => .int (i - j)) (tVar 2) (tOp (rI CPow fun i j => .int (i ^ j.toNat)) (tC (.int 10)) (tC (.int 18))))
      (tOp (rI CMulW fun i j => .int (i * j)) (tOp (rI CMulW fun i j => .int (i * j)) (tOp (rI CMulW fun i j => .int (i * j)) (tOp (rI CPow fun i j => .int (i ^ j.toNat)) (tC (.int 10)) (tC (.int 60))) (tOp (rI CPow fun i j => .int (i ^ j.toNat)) (tC (.int 10)) (tC (.int 60)))) (tOp (rI CPow fun i j => .int (i ^ j.toNat)) (tC (.int 10)) (tC (.int 60)))) (tOp (rI CPow fun i j => .int (i ^ j.toNat)) (tC (.int 10)) (tC (.int 60)))))) tNext)
   (tSeq (tAsg (tC (.int 0)) (gName 3)) (tSeq (tFor (iRng1 (tCons (tC (.int 24)) tNil)) (gName 4)
     (tAsg (tOp (rI0 fun i j => .int (i + j)) (tOp (rI CMul fun i j => .int (i * j)) (tVar 3) (tC (.int 2147483579)))
       (tCall spMixed [] E0 (tCons (tVar 2) (tCons (tOp (rI0 fun i j => .int (i + j)) (tOp (rI0 fun i j => .int (i + j)) (tOp (rI CMul fun i j => .int (i * j)) (tC (.int 7)) (tVar 1)) (tOp (rI CMul fun i j => .int (i * j)) (tC (.int 100)) (tVar 4))) (tOp (rI CMul fun i j => .int (i * j)) (tVar 4) (tVar 4))) tNil)))) (gName 3)))
   (tRet (tVar 3))))
theorem rest_cell {a : Addr} {k c : Int} {ns : List Int} {H : Hp} {Q : VK} (hS : SqL K H a (ns.map V.int)) (h0 : 0 ≤ k) (h1 : k < 1000) (q : ∀ n, Q (.int n) H) :
    t_cell spMixed { nx := fun _ H' => Q .non H', rt := Q } [some (.ref a), some (.int k), some (.int c), none, none] H := by
  have P60 : CPow 10 60 := ⟨by decide, by decide, by decide⟩
  have P18 : CPow 10 18 := ⟨by decide, by decide, by decide⟩
  have b60 : (10 ^ (60 : Int).toNat : Int).natAbs < 2 ^ 200 := by decide +kernel
  have b120 := wide_lt b60 b60
  have b180 := wide_lt b120 b60
  unfold t_cell
  walk_at "rd"
  refine ite2 (fun _ => ?_) (fun _ => ?_)
  · have w1 : CMulW _ _ := wide_mul b60 b60 (by decide) (by decide) (by decide)
    have w2 : CMulW _ _ := wide_mul b120 b60 (by decide) (by decide) (by decide)
    have w3 : CMulW _ _ := wide_mul b180 b60 (by decide) (by decide) (by decide)
    walk_at "rd"
    exact q _
  · walk_at "rd"
    refine ⟨24, rfl, by decide, by decide, for_range (lo := 0) (n := 24) (fun i σ H' => H' = H ∧ ∃ (f : Int) (j : Option V), σ = [some (.ref a), some (.int k), some (.int c), some (.int f), j]) ⟨rfl, 0, none, rfl⟩ ?_ ?_⟩
    · rintro i σ H' hi ⟨rfl, f, j, rfl⟩
      have hi' : (i : Int) < 24 := by exact_mod_cast hi
      walk_at "rd"
      refine ⟨_, _, rfl, fun n => ?_⟩
      walk_at "rd"
      exact ⟨rfl, _, _, rfl⟩
    · rintro σ H' ⟨rfl, f, j, rfl⟩
      walk_at "rd"
      exact q _
theorem ok_cell {f fM : Addr} {fd fdM : FuncData} (F : Fun K "_law_cell" "_law_cell" sCell f fd) (FM : Fun K "_law_mixed" "_law_mixed" sMixed fM fdM) (bM : Binds K fdM ["cell", "k"] []) (gM : mg "_law_mixed" = some (.ref fM)) (gL : mg "len" = none) (gR : mg "range" = none) :
    FnOk P w K mg base CX0 2 f fd ["script", "k"] (spCell K) := by
  have GM : FnOk P w K mg base CX0 1 fM fdM ["cell", "k"] spMixed := ok_mixed FM
  refine F.ok scCell (fun vs H Q E h => ?_) (fun cdv A outer s H vs Q E hr h => ?_)
  · obtain ⟨a, ns, k, rfl, _⟩ := h
    rfl
  · refine ⟨_, pss_cons (ps_set (i := 2) scCell.nd rfl (.inl rfl) pe_int)
      (pss_cons (ps_if (pt_cmpR op_lt (pv 1) (pe_callB call_len_seq (by rfl) gL PySem.boot_len (pa_cons (pv 0) pa_nil)) (nomark _)) (pss_one (ps_set (i := 2) scCell.nd rfl (.inl rfl) (pe_ix ix_list (pv 0) (pv 1) (fun _ _ => rfl)))) pss_nil)
      (pss_cons (ps_if (pt_cmpR op_ge (pv 2) (pe_op op_pow pe_int pe_int) (nomark _)) (pss_one (ps_ret (pe_op op_mod (pe_op op_sub (pv 2) (pe_op op_pow pe_int pe_int))
          (pe_op op_mulW (pe_op op_mulW (pe_op op_mulW (pe_op op_pow pe_int pe_int) (pe_op op_pow pe_int pe_int)) (pe_op op_pow pe_int pe_int)) (pe_op op_pow pe_int pe_int))))) pss_nil)
      (pss_cons (ps_set (i := 3) scCell.nd rfl (.inl rfl) pe_int)
      (pss_cons (ps_for PassesOwn.never rfl (pi_range1 rfl gR (pa_cons pe_int pa_nil)) (pg_name (i := 4) scCell.nd rfl (.inl rfl))
        (pss_one (ps_set (i := 3) scCell.nd rfl (.inl rfl) (pe_op op_add (pe_op op_mul (pv 3) pe_int)
          (pe_call GM hr rfl gM FM.kp bM .nil pass0 (pa_cons (pv 2) (pa_cons (pe_op op_add (pe_op op_add (pe_op op_mul pe_int (pv 1)) (pe_op op_mul pe_int (pv 4))) (pe_op op_mul (pv 4) (pv 4))) pa_nil)))))))
      (pss_one (ps_ret (pv 3))))))), ?_⟩
    obtain ⟨a, ns, k, rfl, hS, h0, h1, q⟩ := h
    have big : ∀ i : Int, i.natAbs < 2 ^ 200 → ∀ j : Int, j.natAbs < 2 ^ 600 → CMulW j i := fun i h1 j h2 => wide_mul h2 h1 (by decide) (by decide) (by decide)
    have at0 : k < ((ns.map V.int).length : Nat) → ∃ z : Int, atI (ns.map V.int) k = some (.int z) := fun hk => by
      rw [List.length_map] at hk
      obtain ⟨j, rfl⟩ := Int.eq_ofNat_of_zero_le h0
      have hj : j < ns.length := by omega
      exact ⟨ns[j], atI_nat (by rw [List.getElem?_map, List.getElem?_eq_getElem hj]; rfl)⟩
    walk_at "rd"
    refine ⟨a, _, rfl, .inl hS, ?_⟩
    walk_at "rd"
    refine ite2 (fun c => ?_) (fun c => ?_)
    · obtain ⟨z, hz⟩ := at0 (of_decide_eq_true c)
      walk_at "rd"
      refine ⟨a, _, k, _, rfl, rfl, hS, hz, ?_⟩
      exact rest_cell hS h0 h1 q
    · exact rest_cell hS h0 h1 q
theorem scTake : FnScope ["pile", "size", "digit"] ["pile", "size"] (defScope sTake) := ⟨rfl, rfl, rfl, by decide +kernel, rfl, by decide +kernel, by decide +kernel⟩
theorem ok_take {f : Addr} {fd : FuncData} (F : Fun K "_law_take" "_law_take" sTake f fd) : FnOk P w K mg base CX0 1 f fd ["pile", "size"] spTake := by
  refine F.ok scTake (fun vs H Q E h => ?_) (fun cdv A outer s H vs Q E hr h => ?_)
  · obtain ⟨c, k, z, rfl, _⟩ := h
    rfl
  · refine ⟨_, pss_cons (ps_set (i := 2) scTake.nd rfl (.inl rfl) (pe_op op_mod (pe_ix ix_list (pv 0) pe_int (fun _ _ => rfl)) (pv 1)))
      (pss_cons (ps_asg (pe_op op_fdiv (pe_ix ix_list (pv 0) pe_int (fun _ _ => rfl)) (pv 1)) (pg_sub (pv 0) pe_int set_list))
        (pss_one (ps_ret (pv 2)))), ?_⟩
    obtain ⟨a, n, z, rfl, hl, h0, h1, q⟩ := h
    refine ⟨_, rfl, a, [.int n], 0, _, rfl, rfl, SqL.of hl, rfl, _, rfl, n, z, rfl, rfl, h0, ?_⟩
    refine ⟨_, rfl, a, [.int n], 0, _, rfl, rfl, SqL.of hl, rfl, _, rfl, n, z, rfl, rfl, ⟨h0, h1⟩, ?_⟩
    refine ⟨_, rfl, a, [.int n], 0, 0, rfl, rfl, hl, rfl, ?_⟩
    refine ⟨_, rfl, ?_⟩
    exact q _ _ (Int.emod_nonneg n (by omega)) (Int.emod_lt_of_pos n h0)

def n10 : List Str := ["NoCount", "NoLetters", "NoLine", "NoMap", "NoNaming", "NoPath", "NoText", "NoTree", "NoTurning", "TooMany"]
/-- the ten error classes at cs, LeanError at cL -/
structure Ten (K : PySem.W.Frag) (mg : Str → Option Value) (cs : Nat → Addr) (cL : Addr) : Prop where
  g : ∀ i, i < 10 → mg (n10.getD i "") = some (.ref (cs i))
  gL : mg "LeanError" = some (.ref cL)
  gI : mg "isinstance" = none
  gZ : mg "zip" = none
  gV : mg "ValueError" = none
  isOne : ∀ i j, i < 10 → j < 10 → PySem.W.kitOne K (.ref (cs i)) (.ref (cs j)) = some (decide (i = j))
  isL : ∀ i, i < 10 → PySem.W.kitOne K (.ref (cs i)) (.ref cL) = some true
  isV : ∀ i, i < 10 → PySem.W.kitOne K (.ref (cs i)) (.type "ValueError") = some true
  ek : ∀ i, i < 10 → ExcK K (cs i)
theorem same_upd {H : Hp} {p : Addr} {o : HO} (h : H p = none) : Same H (upd H p o) := fun b x e => by
  rw [upd_ne (ne_of_none e h)]
  exact e
theorem n10_shaped : ∀ i, i < 10 → SeqAt.shaped (.list [.str (n10.getD i "")]) = true := by decide +kernel
/-- _law_only: of an error of the i-th class and its name: True -/
def spOnly (K : PySem.W.Frag) (cs : Nat → Addr) : Sp := fun vs H Q _ => ∃ (a : Addr) (i : Nat), i < 10 ∧ vs = [.ref a, .str (n10.getD i "")] ∧ ExIn H a (cs i) ∧ ∀ H', Same H H' → Q (.bl true) H'
theorem scOnly : FnScope ["error", "word", "called", "seen", "one", "truth"] ["error", "word"] (defScope sOnly) := ⟨rfl, rfl, rfl, by decide +kernel, rfl, by decide +kernel, by decide +kernel⟩
theorem ok_only {f : Addr} {fd : FuncData} {cs : Nat → Addr} {cL : Addr} (F : Fun K "_law_only" "_law_only" sOnly f fd) (T : Ten K mg cs cL) : FnOk P w K mg base CX0 1 f fd ["error", "word"] (spOnly K cs) := by
  refine F.ok scOnly (fun vs H Q E h => ?_) (fun cdv A outer s H vs Q E hr h => ?_)
  · obtain ⟨a, i, _, rfl, _⟩ := h
    rfl
  · have g0 := T.g 0 (by decide)
    have g1 := T.g 1 (by decide)
    have g2 := T.g 2 (by decide)
    have g3 := T.g 3 (by decide)
    have g4 := T.g 4 (by decide)
    have g5 := T.g 5 (by decide)
    have g6 := T.g 6 (by decide)
    have g7 := T.g 7 (by decide)
    have g8 := T.g 8 (by decide)
    have g9 := T.g 9 (by decide)
    refine ⟨_, (pss_cons (ps_set (i := 2) scOnly.nd rfl (.inl rfl) (pe_lst (pa_cons pe_str (pa_cons pe_str (pa_cons pe_str (pa_cons pe_str (pa_cons pe_str (pa_cons pe_str (pa_cons pe_str (pa_cons pe_str pa_nil))))))))))
      (pss_cons (ps_set (i := 2) scOnly.nd rfl (.inl rfl) (pe_op op_cat (pv 2) (pe_lst (pa_cons pe_str (pa_cons pe_str pa_nil)))))
      (pss_cons (ps_set (i := 3) scOnly.nd rfl (.inl rfl) (pe_lst (pa_cons (pe_callB call_isX (by rfl) T.gI (by decide +kernel) (pa_cons (pv 0) (pa_cons (pe_glob (v := .ref (cs 0)) (by rfl) g0 rfl) pa_nil))) (pa_cons (pe_callB call_isX (by rfl) T.gI (by decide +kernel) (pa_cons (pv 0) (pa_cons (pe_glob (v := .ref (cs 1)) (by rfl) g1 rfl) pa_nil))) (pa_cons (pe_callB call_isX (by rfl) T.gI (by decide +kernel) (pa_cons (pv 0) (pa_cons (pe_glob (v := .ref (cs 2)) (by rfl) g2 rfl) pa_nil))) pa_nil)))))
      (pss_cons (ps_set (i := 3) scOnly.nd rfl (.inl rfl) (pe_op op_cat (pv 3) (pe_lst (pa_cons (pe_callB call_isX (by rfl) T.gI (by decide +kernel) (pa_cons (pv 0) (pa_cons (pe_glob (v := .ref (cs 3)) (by rfl) g3 rfl) pa_nil))) (pa_cons (pe_callB call_isX (by rfl) T.gI (by decide +kernel) (pa_cons (pv 0) (pa_cons (pe_glob (v := .ref (cs 4)) (by rfl) g4 rfl) pa_nil))) (pa_cons (pe_callB call_isX (by rfl) T.gI (by decide +kernel) (pa_cons (pv 0) (pa_cons (pe_glob (v := .ref (cs 5)) (by rfl) g5 rfl) pa_nil))) pa_nil))))))
      (pss_cons (ps_set (i := 3) scOnly.nd rfl (.inl rfl) (pe_op op_cat (pv 3) (pe_lst (pa_cons (pe_callB call_isX (by rfl) T.gI (by decide +kernel) (pa_cons (pv 0) (pa_cons (pe_glob (v := .ref (cs 6)) (by rfl) g6 rfl) pa_nil))) (pa_cons (pe_callB call_isX (by rfl) T.gI (by decide +kernel) (pa_cons (pv 0) (pa_cons (pe_glob (v := .ref (cs 7)) (by rfl) g7 rfl) pa_nil))) (pa_cons (pe_callB call_isX (by rfl) T.gI (by decide +kernel) (pa_cons (pv 0) (pa_cons (pe_glob (v := .ref (cs 8)) (by rfl) g8 rfl) pa_nil))) pa_nil))))))
      (pss_cons (ps_expr (pe_bm PySem.F.plainAttrs_list PySem.F.slot_list_append PySem.F.type_list_append mt_append (pv 3) (pa_cons (pe_callB call_isX (by rfl) T.gI (by decide +kernel) (pa_cons (pv 0) (pa_cons (pe_glob (v := .ref (cs 9)) (by rfl) g9 rfl) pa_nil))) pa_nil)))
      (pss_cons (ps_if (pt_cmpR (op_neD hr.units) (pe_lc (own := [("one", 4), ("truth", 5)]) (g := gTup K 2 (gCons (gName 4) (gCons (gName 5) gNil))) (tt := tB (tVar 5)) (te := tVar 4) (by rfl) scOnly.nd (pi_zip (by rfl) T.gZ (pa_cons (pv 2) (pa_cons (pv 3) pa_nil))) (blkOk_by (own := [("one", 4), ("truth", 5)]) (N := ["error", "word", "called", "seen", "one", "truth"]) (sc := defScope sOnly) (by decide +kernel)) (fun _ _ _ _ _ => pg_tup (by rfl) (pgs_cons (pg_name (i := 4) scOnly.nd rfl (.inl rfl)) (pgs_cons (pg_name (i := 5) scOnly.nd rfl (.inl rfl)) pgs_nil))) (fun _ _ _ _ _ => pts_one (pt_val (pv 5))) (fun _ _ _ _ _ => pv 4)) (pe_lst (pa_cons (pv 1) pa_nil)) (nomark _)) (pss_one (ps_ret pe_bl)) pss_nil)
      (pss_one (ps_ret (pe_and (pe_callB call_isX (by rfl) T.gI (by decide +kernel) (pa_cons (pv 0) (pa_cons (pe_glob (by rfl) T.gL rfl (v := .ref cL)) pa_nil))) (pe_one (pe_callB call_isX (by rfl) T.gI (by decide +kernel) (pa_cons (pv 0) (pa_cons (pe_bltn (by rfl) T.gV (by decide +kernel) (v := .ty "ValueError") rfl) pa_nil)))))))))))))), ?_⟩
    obtain ⟨a, i, hi, rfl, ex, q⟩ := h
    have isx : ∀ (H' : Hp), Same H H' → ∀ (j : Nat), j < 10 → ∀ (Q' : VK), Q' (.bl (decide (i = j))) H' → rIsX K [.ref a, .ref (cs j)] H' Q' := fun H' sm j hj Q' z => ⟨a, cs i, _, _, _, rfl, .own _, ex.same sm, T.ek i hi, T.isOne i j hi hj, z⟩
    walk_at "rd"
    refine ⟨by decide, fun m0 hm0 => ?_⟩
    have j1 := same_upd (o := .lst [.str "NoCount", .str "NoLetters", .str "NoLine", .str "NoMap", .str "NoNaming", .str "NoPath", .str "NoText", .str "NoTree"]) hm0
    walk_at "rd"
    refine ⟨by decide, fun m1 hm1 => ?_⟩
    have j2 := j1.trans (same_upd (o := .lst [.str "NoTurning", .str "TooMany"]) hm1)
    refine ⟨m0, m1, _, _, rfl, rfl, (upd_ne (ne_of_none upd_same hm1)).trans upd_same, upd_same, (by show 10 ≤ sizeLine; decide), fun n0 hn0 => ?_⟩
    have s1 := j2.trans (same_upd (o := .lst (List.map V.str n10)) hn0)
    have e1 : ([.str "NoCount", .str "NoLetters", .str "NoLine", .str "NoMap", .str "NoNaming", .str "NoPath", .str "NoText", .str "NoTree"] ++ [.str "NoTurning", .str "TooMany"] : List V) = n10.map V.str := rfl
    rw [e1]
    obtain ⟨B, eB⟩ : ∃ B, B = upd (upd (upd H m0 (.lst [.str "NoCount", .str "NoLetters", .str "NoLine", .str "NoMap", .str "NoNaming", .str "NoPath", .str "NoText", .str "NoTree"])) m1 (.lst [.str "NoTurning", .str "TooMany"])) n0 (.lst (List.map V.str n10)) := ⟨_, rfl⟩
    have hB : B n0 = some (.lst (List.map V.str n10)) := by rw [eB]; exact upd_same
    rw [← eB] at s1
    rw [← eB]
    walk_at "rd"
    refine isx _ (s1) 0 (by decide) _ ?_
    walk_at "rd"
    refine isx _ (s1) 1 (by decide) _ ?_
    walk_at "rd"
    refine isx _ (s1) 2 (by decide) _ ?_
    walk_at "rd"
    refine ⟨(by show 3 ≤ sizeLine; decide), fun p1 hp1 => ?_⟩
    have k2 := same_upd (o := .lst [.bl (decide (i = 0)), .bl (decide (i = 1)), .bl (decide (i = 2))]) hp1
    walk_at "rd"
    refine isx _ (s1.trans k2) 3 (by decide) _ ?_
    walk_at "rd"
    refine isx _ (s1.trans k2) 4 (by decide) _ ?_
    walk_at "rd"
    refine isx _ (s1.trans k2) 5 (by decide) _ ?_
    walk_at "rd"
    refine ⟨(by show 3 ≤ sizeLine; decide), fun p2 hp2 => ?_⟩
    have k3 := k2.trans (same_upd (o := .lst [.bl (decide (i = 3)), .bl (decide (i = 4)), .bl (decide (i = 5))]) hp2)
    refine ⟨p1, p2, _, _, rfl, rfl, (upd_ne (ne_of_none upd_same hp2)).trans upd_same, upd_same, (by show 6 ≤ sizeLine; decide), fun p3 hp3 => ?_⟩
    have k4 := k3.trans (same_upd (o := .lst ([.bl (decide (i = 0)), .bl (decide (i = 1)), .bl (decide (i = 2))] ++ [.bl (decide (i = 3)), .bl (decide (i = 4)), .bl (decide (i = 5))])) hp3)
    walk_at "rd"
    refine isx _ (s1.trans k4) 6 (by decide) _ ?_
    walk_at "rd"
    refine isx _ (s1.trans k4) 7 (by decide) _ ?_
    walk_at "rd"
    refine isx _ (s1.trans k4) 8 (by decide) _ ?_
    walk_at "rd"
    refine ⟨(by show 3 ≤ sizeLine; decide), fun p4 hp4 => ?_⟩
    have k5 := k4.trans (same_upd (o := .lst [.bl (decide (i = 6)), .bl (decide (i = 7)), .bl (decide (i = 8))]) hp4)
    refine ⟨p3, p4, _, _, rfl, rfl, (upd_ne (ne_of_none upd_same hp4)).trans upd_same, upd_same, (by show 9 ≤ sizeLine; decide), fun p5 hp5 => ?_⟩
    walk_at "rd"
    refine rv_app rfl upd_same ?_
    have k6 := k5.trans (same_upd (o := .lst ([.bl (decide (i = 0)), .bl (decide (i = 1)), .bl (decide (i = 2))] ++ [.bl (decide (i = 3)), .bl (decide (i = 4)), .bl (decide (i = 5))] ++ [.bl (decide (i = 6)), .bl (decide (i = 7)), .bl (decide (i = 8))])) hp5)
    walk_at "rd"
    refine isx _ (s1.trans k6) 9 (by decide) _ ?_
    walk_at "rd"
    refine ⟨_, _, rfl, upd_same, (by show 9 < sizeLine; decide), ?_⟩
    rw [upd_upd]
    have k7 := k5.trans (same_upd (o := .lst ((List.range 10).map fun j => V.bl (decide (i = j)))) hp5)
    show tSeq _ _ _ _ (upd _ p5 (.lst ((List.range 10).map fun j => V.bl (decide (i = j)))))
    generalize e7 : upd (upd (upd (upd (upd B p1 (.lst [.bl (decide (i = 0)), .bl (decide (i = 1)), .bl (decide (i = 2))])) p2 (.lst [.bl (decide (i = 3)), .bl (decide (i = 4)), .bl (decide (i = 5))])) p3 (.lst ([.bl (decide (i = 0)), .bl (decide (i = 1)), .bl (decide (i = 2))] ++ [.bl (decide (i = 3)), .bl (decide (i = 4)), .bl (decide (i = 5))]))) p4 (.lst [.bl (decide (i = 6)), .bl (decide (i = 7)), .bl (decide (i = 8))])) p5 (.lst ((List.range 10).map fun j => V.bl (decide (i = j)))) = H7 at k7 ⊢
    have h7n : H7 n0 = some (.lst (List.map V.str n10)) := k7 _ _ hB
    have h7p : H7 p5 = some (.lst ((List.range 10).map fun j => V.bl (decide (i = j)))) := by rw [← e7]; exact upd_same
    have s7 : Same H H7 := s1.trans k7
    clear e7 k7 k6 k5 k4 k3 k2 hp5 hp4 hp3 hp2 hp1 hB eB s1 hn0 e1 j1 j2 hm0 hm1
    walk_at "rd"
    refine ⟨_, rfl, _, rfl, n0, p5, _, _, rfl, SqL.of h7n, SqL.of h7p, fun D hD => ?_⟩
    refine lc_it (walk_zip (xs := List.map V.str n10) (ys := (List.range 10).map fun j => V.bl (decide (i = j))) (n := 10) rfl)
      (fun t H' => Same H7 H' ∧ H' D = some (.lst (if i < t then [.str (n10.getD i "")] else []))) ⟨same_upd hD, upd_same⟩ (fun t H' _ ⟨s, _⟩ => ⟨SqL.of (s _ _ h7n), SqL.of (s _ _ h7p)⟩) ?_ ?_
    · rintro t x H' H2 ht ⟨sm, hd⟩ ⟨U, y1, y2, rfl, hU, rfl, e1, e2⟩
      have sU : Same H' (upd H' U (.tup [y1, y2])) := same_upd hU
      refine ⟨U, _, rfl, .inl (.inl upd_same), rfl, _, _, rfl, _, _, rfl, rfl, rfl, _, rfl, ?_⟩
      have ey1 : y1 = .str (n10.getD t "") := by
        have : ∀ t, t < 10 → (List.map V.str n10)[t]? = some (.str (n10.getD t "")) := by decide +kernel
        exact Option.some.inj (e1.symm.trans (this t ht))
      have ey2 : y2 = .bl (decide (i = t)) := by
        dsimp only at e2
        rw [List.getElem?_map, List.getElem?_range ht] at e2
        exact (Option.some.inj e2).symm
      subst ey1 ey2
      refine ⟨_, rfl, ?_⟩
      refine ite2 (fun c => ?_) (fun c => ?_)
      · have c' : i = t := of_decide_eq_true c
        refine ⟨_, rfl, _, sU _ _ hd, ?_, ?_⟩
        · rw [if_neg (by omega)]
          show 0 < sizeLine
          decide
        · refine ⟨fun b o z => ?_, ?_⟩
          · rw [upd_ne (fun z2 => by rw [z2] at z; rw [z] at hD; cases hD)]
            exact sU _ _ (sm _ _ z)
          · rw [upd_same, if_neg (by omega), if_pos (by omega), c']
            rfl
      · have c' : ¬ i = t := fun z => c (decide_eq_true z)
        refine ⟨sm.trans sU, ?_⟩
        rw [sU _ _ hd]
        have : (i < t + 1) = (i < t) := propext ⟨fun _ => by omega, fun _ => by omega⟩
        simp only [this]
    · rintro H' ⟨sm, hd⟩
      rw [if_pos hi] at hd
      walk_at "rd"
      refine ⟨(by show 1 ≤ sizeLine; decide), fun p6 hp6 => ?_⟩
      have s8 := same_upd (o := .lst [.str (n10.getD i "")]) hp6
      refine ⟨.list [.str (n10.getD i "")], .list [.str (n10.getD i "")], .lst (SqL.of (s8 _ _ hd)) (.cons (.str _) .nil), .lst (SqL.of upd_same) (.cons (.str _) .nil), n10_shaped i hi, n10_shaped i hi, ?_⟩
      have ee : (!PyData.eqv (.list [.str (n10.getD i "")]) (.list [.str (n10.getD i "")])) = false := by simp [PyData.eqv, PyData.eqvAll]
      rw [ee]
      have s9 := (s7.trans sm).trans s8
      have isb : ∀ (c : V) (u : Value) (b : Bool) (Q' : VK), ClsV c u → PySem.W.kitOne K (.ref (cs i)) u = some b → Q' (.bl b) _ → rIsX K [.ref a, c] _ Q' := fun c u b Q' k1 k2 z => ⟨a, cs i, c, u, b, rfl, k1, ex.same s9, T.ek i hi, k2, z⟩
      walk_at "rd"
      refine isb _ _ _ _ (.own _) (T.isL i hi) ?_
      walk_at "rd"
      refine isb _ _ _ _ (.ty _) (T.isV i hi) ?_
      walk_at "rd"
      exact q _ s9
end
end My

namespace XRK
open PySem PySem.Spec PySem.W PySem.Calls PyProof.Rows PySem.HandSPX
open Builtin Builtin.ObjectAttr
section
variable {M : Model} {A : Around} {E : Value → Shared → Prop} {h : Heap} {g : Array GenState} {d : Drawn} {t : Nat} {os : OsState}
variable {nm q : Str} {C N : Addr} {bs bm bmB : List Value} {hdct : Bool} {sn : List Str} {sub : List Value} {ab : Bool} {col : Option Bool} {dd : Option Addr} {k0 k1 k2 k3 k5 : Option Value} {B newId initId : String}
theorem check_new_ownK (F : ExcBaseFacts B newId initId bmB) (hT : ∀ X : String, bm.contains (.type X) = bmB.contains (.type X)) {rest : List Value} {kw : List (Str × Value)} {Q : Unit → Shared → Prop}
    (hC : h.get? C = some (excClassObj nm q C N bs bm hdct sn sub ab col dd k0 k1 k2 k3 k5 newId)) (hq : Q () ⟨h, g, d, t, os⟩) : wpAny M A (checkBuiltinCall newId ⟨.ref C :: rest, kw⟩) Q E ⟨h, g, d, t, os⟩ := by
  have hcont : (Value.ref C :: bm).contains (.type B) = true := by rw [List.contains_cons, hT, F.hasB, Bool.or_true]
  have hstar := F.noStar
  simp only [checkBuiltinCall, F.newKind, F.newSplit, F.newRow]
  repeat (first | refine wpAny_loadPart_at hC ?_ | (refine wpAny_isSubtype_exc hC ?_; rw [hcont]) | refine wpAny_staticBase_exc hC ?_ | refine wpAny_madeBy_exc hC ?_ | simp only [bne_self_eq_false, Bool.false_eq_true, if_false] | wp_step)
  exact hq
theorem check_type_callK {rest : List Value} {kw : List (Str × Value)} {newId : String} {Q : Unit → Shared → Prop} (hC : h.get? C = some (excClassObj nm q C N bs bm hdct sn sub ab col dd k0 k1 k2 k3 k5 newId))
    (hq : Q () ⟨h, g, d, t, os⟩) : wpAny M A (checkBuiltinCall "type.__call__" ⟨.ref C :: rest, kw⟩) Q E ⟨h, g, d, t, os⟩ := by
  have f3 := tc_sub
  have hT : (⟨h, g, d, t, os⟩ : Shared).TypeIs (.ref C) "type" := ⟨_, hC, rfl⟩
  simp only [checkBuiltinCall, tc_kind, tc_split]
  repeat (any_goals (first | assumption | with_reducible refine wpAny_loadPart_at hC ?_ | with_reducible refine wpAny_onRaise ?_ | with_reducible refine wpAny_map ?_ | wp_step))
end
section
variable {prog : Program} {w : World} {A : Around} {E : Value → Shared → Prop} {R : Result → Shared → Prop} {h : Heap} {g : Array GenState} {d : Drawn} {t : Nat} {os : OsState}
variable {nm q : Str} {C N : Addr} {bs bm bmB : List Value} {hdct : Bool} {sn : List Str} {sub : List Value} {ab : Bool} {col : Option Bool} {dd : Option Addr} {k0 k1 k2 k3 k5 : Option Value} {B newId initId : String}
theorem new_ownK (F : ExcBaseFacts B newId initId bmB) (hT : ∀ X : String, bm.contains (.type X) = bmB.contains (.type X)) {rest : List Value} {kw : List (Str × Value)}
    (hC : h.get? C = some (excClassObj nm q C N bs bm hdct sn sub ab col dd k0 k1 k2 k3 k5 newId))
    (hq : R (.ok (.ret (.ref (h.objs.size + 1)))) ⟨(h.push { cls := .type "tuple", data := .seq rest.toArray }).push
      { cls := .ref C, data := .fields #[.ref h.objs.size, .none, .none, .none, .bool false, .none] }, g, d, t, os⟩) (hrest : rest.length ≤ sizeLine) :
    codeAny (model prog w) A (.builtin newId ⟨.ref C :: rest, kw⟩) R ⟨h, g, d, t, os⟩ := by
  have hends := F.ends
  have hcB : (Value.ref C :: bm).contains (.type B) = true := by rw [List.contains_cons, hT, F.hasB, Bool.or_true]
  have hcA : (Value.ref C :: bm).contains (.type "AttributeError") = false := by rw [List.contains_cons, hT, F.noAttr]; rfl
  have hcN : (Value.ref C :: bm).contains (.type "NameError") = false := by rw [List.contains_cons, hT, F.noName]; rfl
  refine codeAny_builtinAt F.entry ?_
  unfold Builtin.«BaseException.__new__»
  refine PySem.wpAt_bind ?_
  show PySem.wpAt _ _ _ (stack >>= _) _ _ _
  refine PySem.wpAt_bind (PySem.wpAt_stack fun p below => PySem.wpAt_of_wpAny ?_)
  wp_walk
  refine PySem.wpAt_of_wpAny ?_
  rw [F.owner]
  repeat (first | with_reducible refine wpAny_madeHere_exc F.canon hC ?_ | with_reducible refine wpAny_loadPart_at hC ?_ | (with_reducible refine wpAny_isSubtype_exc hC ?_; first | rw [hcB] | rw [hcA] | rw [hcN]) | wp_step)
  show R _ _
  rw [Heap.size_push]
  exact hq
theorem type_call_ownK (F : ExcBaseFacts B newId initId bmB) (hT : ∀ X : String, bm.contains (.type X) = bmB.contains (.type X)) {rest : List Value} {kw : List (Str × Value)} {fI : Addr} {Q : Fin → Shared → Prop}
    (hC : h.get? C = some (excClassObj nm q C N bs bm hdct sn sub ab col dd k0 k1 k2 k3 k5 newId))
    (hi : W.Looks (model prog w) h (typeLookup (.ref C) "__init__") (some (.ref fI))) (hb : ∀ self, W.Looks (model prog w) h (bindSpecial (.ref fI) self) (.ref fI, [self])) (hrest : rest.length ≤ sizeLine)
    (hq : codeAny (model prog w) A (.call (.ref fI) ⟨.ref (h.objs.size + 1) :: rest, kw⟩)
      (fun r s' => match r with | .ok (.ret v) => v = .none ∧ Q (.done (.ret (.ref (h.objs.size + 1)))) s' | .ok _ => False | .error e => E e s')
      ⟨(h.push (W.kdv_tup rest)).push (excO C h.objs.size), g, d, t, os⟩) :
    wpAny (model prog w) A (Builtin.«type.__call__» ⟨.ref C :: rest, kw⟩) Q E ⟨h, g, d, t, os⟩ := by
  repeat (first | with_reducible refine wpAny_loadPart_at hC ?_ | with_reducible refine wpAny_madeBy_exc hC ?_ | wp_step)
  refine codeAny_call_builtin_code (Code.quiet_builtin _ F.quiet) (check_new_ownK F hT hC ?_)
  refine new_ownK F hT hC ?_ hrest
  show wpAny _ _ _ _ _ _
  have k : ∀ b o, h.get? b = some o → ((h.push (W.kdv_tup rest)).push (excO C h.objs.size)).get? b = some o := fun b o e => Heap.get?_push_of_some _ (Heap.get?_push_of_some _ e)
  have hC₁ := k _ _ hC
  have hget : ((h.push (W.kdv_tup rest)).push (excO C h.objs.size)).get? (h.objs.size + 1) = some (excO C h.objs.size) := by heap_get
  have hcC : (Value.ref C :: bm).contains (.ref C) = true := by simp
  have i1 := hi.keeps k
  have b1 := (hb (.ref (h.objs.size + 1))).keeps k
  unfold isInstance
  repeat (first | with_reducible refine wpAny_loadPart_at hget ?_ | (with_reducible refine wpAny_isSubtype_exc hC₁ ?_; rw [hcC]) | wp_step)
  show wpAny _ _ (typeLookup (.ref C) _) _ _ _
  refine i1.at ?_
  refine wpAny_holding (wpAny_bind (b1.at ?_))
  refine wpAny_bind (wpAny_call (codeAny_mono hq fun r s' z => ?_))
  rcases r with e | (v | _ | _ | _) <;> first | exact z | exact z.elim | skip
  obtain ⟨rfl, z⟩ := z
  first
    | exact wpAny_pure (wpAny_pure z)
    | (wp_walk; exact z)
theorem call_ownK (F : ExcBaseFacts B newId initId bmB) (hT : ∀ X : String, bm.contains (.type X) = bmB.contains (.type X)) {rest : List Value} {kw : List (Str × Value)} {fI : Addr}
    (hC : h.get? C = some (excClassObj nm q C N bs bm hdct sn sub ab col dd k0 k1 k2 k3 k5 newId))
    (hi : W.Looks (model prog w) h (typeLookup (.ref C) "__init__") (some (.ref fI))) (hb : ∀ self, W.Looks (model prog w) h (bindSpecial (.ref fI) self) (.ref fI, [self])) (hrest : rest.length ≤ sizeLine)
    (hq : codeAny (model prog w) (A.under (.builtin "type.__call__" ⟨.ref C :: rest, kw⟩)) (.call (.ref fI) ⟨.ref (h.objs.size + 1) :: rest, kw⟩) (W.InitBack (h.objs.size + 1) R)
      ⟨(h.push (W.kdv_tup rest)).push (excO C h.objs.size), g, d, t, os⟩) :
    codeAny (model prog w) A (.call (.ref C) ⟨rest, kw⟩) R ⟨h, g, d, t, os⟩ := by
  have f1 := tc_lookup
  have f2 := tc_bind (.ref C)
  have hTy : (⟨h, g, d, t, os⟩ : Shared).TypeIs (.ref C) "type" := ⟨_, hC, rfl⟩
  refine codeAny_of_tree ?_
  show wpAny _ _ (callAny (.ref C) _) _ _ _
  repeat (any_goals (first | assumption | with_reducible refine wpAny_loadPart_at hC ?_ | wp_step))
  refine ⟨rfl, ?_⟩
  refine codeAny_call_builtin_at (Code.quiet_builtin _ (by decide +kernel)) entry_typeCall (check_type_callK hC (type_call_ownK F hT hC hi hb hrest ?_))
  refine codeAny_mono hq fun r s' z => ?_
  rcases r with e | (v | _ | _ | _) <;> exact z
end
end XRK
namespace XR
open PySem PySem.Spec PyProof.Rows L2
/-- C(e, .., k = v, ..) as a value: n values and keywords ks -/
def tMkXK (C : Addr) (n m : Nat) (sp : Sp) (gV : List V → List V → List V) (t tk : TA) : TE := fun σ H Q => t σ H fun vs H1 => tk σ H1 fun zs H2 => vs.length = n ∧ zs.length = m ∧ n ≤ 1000 ∧
  ∀ a, H2 a = none → sp (gV (.ref a :: vs) zs) (upd H2 a (exo a C none)) (fun v H3 => v = .non ∧ Q (.ref a) H3) (fun _ _ _ => False)
section
variable {X : Cx} {CX : CXT} {k n : Nat} {C fI : Addr} {fd : FuncData} {ps ks : List Str} {sp : Sp} {x : Str} {p pos : Pos} {e : Expr} {es : List Expr} {kws : List Keyword} {t tk : TA} {g : List Value → List Value → List Value} {gV : List V → List V → List V}
theorem run_mkXK {pins : List (Addr × Obj)} {σ : L2.St} {H : Hp} {s : Shared} {Q : VK} {us ws : List Value} {vs zs : List V} (T : OexC X.K C) (iC : PySem.W.findIn X.K (.ref C) "__init__" = some (some (.ref fI))) (tI : PySem.W.typeIn X.K (.ref fI) = some (.type "function"))
    (F1 : FnOk X.prog X.w X.K X.mg X.base CX k fI fd ps sp) (hr : Room (k + 1) X.A) (hb : KBn X.K fd ps (n + 1) ks g gV) (hx : Passes CX X (fun _ _ _ => False)) (I1 : Inv X pins σ H s) (r : Vals vs us) (rz : Vals zs ws) (l1 : vs.length = n) (l2 : zs.length = ks.length) (hz : n ≤ 1000)
    (q1 : ∀ a, H a = none → sp (gV (.ref a :: vs) zs) (upd H a (exo a C none)) (fun v H2 => v = .non ∧ Q (.ref a) H2) (fun _ _ _ => False)) :
    wpAny (model X.prog X.w) X.A (call (.ref C) us (ks.zip ws)) (EP X pins σ Q) X.xe s := by
  obtain ⟨nm, q, N, bs, bm, sn, sub, ab, col, dd, k0, k1, k2, k3, k5, hC, hbm⟩ := T.cls
  obtain ⟨hp, g', dr, tk', os⟩ := s
  have hsz : hp.objs.size ≤ hp.objs.size + 1 := Nat.le_succ _
  have hn : H (hp.objs.size + 1) = none := I1.hok.fresh hsz
  have hq := q1 (hp.objs.size + 1) hn
  have kk : ∀ b o, hp.get? b = some o → ((hp.push (PySem.W.kdv_tup us)).push (PySem.HandSPX.excO C hp.objs.size)).get? b = some o := fun b o e => Heap.get?_push_of_some _ (Heap.get?_push_of_some _ e)
  have hget : ((hp.push (PySem.W.kdv_tup us)).push (PySem.HandSPX.excO C hp.objs.size)).get? (hp.objs.size + 1) = some (PySem.HandSPX.excO C hp.objs.size) := by heap_get
  have I2 : Inv X pins σ (upd H (hp.objs.size + 1) (exo (hp.objs.size + 1) C none)) ⟨(hp.push (PySem.W.kdv_tup us)).push (PySem.HandSPX.excO C hp.objs.size), g', dr, tk', os⟩ :=
    I1.laid (t' := tk') (a := hp.objs.size + 1) (o := exo (hp.objs.size + 1) C none) (h' := (hp.push (PySem.W.kdv_tup us)).push (PySem.HandSPX.excO C hp.objs.size)) kk hsz (exo_ok hget)
  have r1 : Vals (V.ref (hp.objs.size + 1) :: vs) (Value.ref (hp.objs.size + 1) :: us) := .cons rfl r
  have r2 := hb.rel r1 rz
  have e1 : (Value.ref (hp.objs.size + 1) :: us).length = n + 1 := r1.length.symm.trans (congrArg Nat.succ l1)
  have e2 : ws.length = ks.length := rz.length.symm.trans l2
  have hus : us.length ≤ sizeLine := by
    rw [← Paired.length r, sizeLine_eq]
    omega
  refine wpAny_call (XRK.call_ownK F.excBase_ValueError (fun Y => PySem.HandSPX.refsVE_contains Y bm hbm) (I1.kIn _ _ hC) (PySem.W.looks_findIn I1.kIn iC) (fun self => PySem.W.bind_fn I1.kIn self tI) hus
    (codeAny_mono (F1.run _ X.stack _ _ ⟨Value.ref (hp.objs.size + 1) :: us, ks.zip ws⟩ (g (Value.ref (hp.objs.size + 1) :: us) ws) _ _ (fun _ _ _ => False) (hr.make C us (ks.zip ws)) (I2.env0.make C us (ks.zip ws)) (hb.to _ (Value.ref (hp.objs.size + 1) :: us) ws I2.kIn e1 e2) r2 hq) fun r s' hq' => ?_))
  cases r with
  | error er => exact hx pins σ _ _ er s' I2 hq'
  | ok fl =>
    cases fl with
    | ret u =>
      obtain ⟨v, H', I3, rv, ev, q3⟩ := I2.after hq'
      subst ev
      exact ⟨rv, ⟨V.ref (hp.objs.size + 1), H', I3, rfl, q3⟩⟩
    | next => exact False.elim hq'
    | brk => exact False.elim hq'
    | cont => exact False.elim hq'
theorem pe_mkXK (T : OexC X.K C) (iC : PySem.W.findIn X.K (.ref C) "__init__" = some (some (.ref fI))) (tI : PySem.W.typeIn X.K (.ref fI) = some (.type "function"))
    (F1 : FnOk X.prog X.w X.K X.mg X.base CX k fI fd ps sp) (hr : Room (k + 1) X.A) (hb : KBn X.K fd ps (n + 1) ks g gV) (hx : Passes CX X (fun _ _ _ => False)) (hg : Gl X x) (hm : X.mg x = some (.ref C))
    (ha : PA X (e :: es) t) (hkw : PK X kws tk) (hall : (backToKw pos (keywordEach kws X.env)).all (·.1.isSome) = true := by rfl) (hks : (backToKw pos (keywordEach kws X.env)).filterMap (·.1) = ks := by rfl)
    (hdb : (x == ("__debug__" : Str)) = false := by decide) (he : starEach (e :: es) X.env = (false, eval e X.env) :: starEach es X.env := by rfl)
    (hpl : ((backTo pos (starEach (e :: es) X.env)).any (·.1) || (backToKw pos (keywordEach kws X.env)).any (·.1.isNone)) = false := by rfl) :
    PE X (.Call (.Name x p) (e :: es) kws pos) (tMkXK C n ks.length sp gV t tk) := by
  refine ⟨fun pins s σ H Q I h => ?_⟩
  refine wpAny_Call_Name_kw (ld_glob I hg hm ?_ hdb)
  refine PySem.W.callWith_KW (h₀ := X.base) I.ok.mod.kin T.kC hall (thn (ha.run pos pins s σ H _ I h) fun us s1 ⟨vs, H1, I1, r, q⟩ => ?_) hpl he
  refine thn (hkw.run pos pins s1 σ H1 _ I1 q) fun ws s2 ⟨zs, H2, I2, rz, l1, l2, l3, q2⟩ => ⟨I2.kIn, ?_⟩
  rw [hks]
  exact run_mkXK T iC tI F1 hr hb hx I2 r rz l1 l2 l3 q2
theorem pe_mkXK0 (T : OexC X.K C) (iC : PySem.W.findIn X.K (.ref C) "__init__" = some (some (.ref fI))) (tI : PySem.W.typeIn X.K (.ref fI) = some (.type "function"))
    (F1 : FnOk X.prog X.w X.K X.mg X.base CX k fI fd ps sp) (hr : Room (k + 1) X.A) (hb : KBn X.K fd ps 1 ks g gV) (hx : Passes CX X (fun _ _ _ => False)) (hg : Gl X x) (hm : X.mg x = some (.ref C))
    (hkw : PK X kws tk) (hall : (backToKw pos (keywordEach kws X.env)).all (·.1.isSome) = true := by rfl) (hks : (backToKw pos (keywordEach kws X.env)).filterMap (·.1) = ks := by rfl)
    (hdb : (x == ("__debug__" : Str)) = false := by decide)
    (hpl : ((backTo pos (starEach [] X.env)).any (·.1) || (backToKw pos (keywordEach kws X.env)).any (·.1.isNone)) = false := by rfl) :
    PE X (.Call (.Name x p) [] kws pos) (tMkXK C 0 ks.length sp gV tNil tk) := by
  refine ⟨fun pins s σ H Q I h => ?_⟩
  refine wpAny_Call_Name_kw (ld_glob I hg hm ?_ hdb)
  refine PySem.W.callWith_KW0 (h₀ := X.base) I.ok.mod.kin T.kC hall ?_ hpl
  refine thn (hkw.run pos pins s σ H _ I h) fun ws s2 ⟨zs, H2, I2, rz, l1, l2, l3, q2⟩ => ⟨I2.kIn, ?_⟩
  rw [hks]
  exact run_mkXK (us := []) T iC tI F1 hr hb hx I2 .nil rz l1 l2 l3 q2
end
end XR

namespace My
open PySem PySem.Spec PyProof.Rows L2 XR
abbrev iText : Stmt := inClass (top 4) 0
abbrev iTree : Stmt := inClass (top 5) 0
abbrev iNaming : Stmt := inClass (top 7) 0
local macro_rules | `(tactic| walk_at "rd1") => `(tactic| first
  | with_reducible refine rs_seq ?_
  | with_reducible refine rs_asg ?_
  | with_reducible refine rs_ret ?_
  | with_reducible refine rs_if ?_
  | with_reducible refine rs_next ?_
  | with_reducible refine rg_name ?_
  | ((with_reducible refine rv_var (v := ?vv) ?hv ?_); (case hv => exact rfl))
  | with_reducible refine rv_c ?_
  | with_reducible refine rv_op ?_
  | with_reducible refine rv_cons ?_
  | with_reducible refine rv_nil ?_
  | with_reducible refine rv_rI0 ?_
  | ((with_reducible refine rv_rI ?hc ?_); (case hc => walk_at "side"))
  | ((with_reducible refine rv_eq ?hc ?_); (case hc => exact rfl))
  | ((with_reducible refine rv_ne ?hc ?_); (case hc => exact rfl))
  | with_reducible refine rv_test ?_
  | with_reducible refine rv_bl ?_
  | with_reducible refine rv_cb ?_
  | with_reducible refine rv_call ?_
  | with_reducible refine rv_tup ?_
  | with_reducible refine rv_lst ?_
  | with_reducible refine rv_tB ?_
  | with_reducible refine rv_or ?_
  | with_reducible refine rv_and ?_
  | with_reducible refine rv_not ?_
  | with_reducible refine rv_andV ?_
  | with_reducible refine rv_orV ?_
  | with_reducible refine rv_notV ?_
  | with_reducible refine rv_ifE ?_
  | with_reducible refine rs_drop ?_
  | with_reducible refine iteT ?_
  | with_reducible refine iteF ?_
  | with_reducible refine ro_nx ?_
  | with_reducible refine ro_rt ?_
  | with_reducible refine ro_ct ?_
  | with_reducible refine ro_bk ?_)
local macro_rules | `(tactic| walk_at "rd") => `(tactic| repeat walk_at "rd1")
local macro_rules | `(tactic| walk_at "side") => `(tactic| first
  | assumption
  | exact (show CPow _ _ from ⟨by decide, by decide, by decide⟩)
  | exact (show CMul _ _ from .inl ⟨by decide, by decide⟩)
  | exact (show CMul _ _ from .inr ⟨by decide, by decide⟩)
  | (show (0 : Int) < _; decide)
  | (show CMul _ _; first | exact .inl ⟨by omega, by omega⟩ | exact .inr ⟨by omega, by omega⟩)
  | omega)
section
variable {P : Program} {w : World} {K : PySem.W.Frag} {mg : Str → Option Value} {base : Heap}
/-- an __init__ of n fields: a new dict with them -/
def spI (C : Addr) (n : Nat) (fs : List V → List (Str × V)) : Sp := fun vs H Q _ => ∃ (a : Addr) (ws : List V), vs = .ref a :: ws ∧ ws.length = n ∧ H a = some (exo a C none) ∧
  ∀ H' dx, (∀ b o, b ≠ a → H b = some o → H' b = some o) → H' a = some (exo a C (some dx)) → H' dx = some (exd dx (fs ws)) → Q .non H'
def fsText (vs : List V) : List (Str × V) := [("at", vs.getD 0 .non)]
def fsTree (vs : List V) : List (Str × V) := [("why", vs.getD 1 .non), ("path", vs.getD 0 .non)]
def fsNaming (vs : List V) : List (Str × V) := [("other", vs.getD 1 .non), ("one", vs.getD 0 .non)]
theorem scIText : FnScope ["self", "at"] ["self", "at"] (defScope iText) := ⟨rfl, rfl, rfl, by decide +kernel, rfl, by decide +kernel, by decide +kernel⟩
theorem scITree : FnScope ["self", "path", "why"] ["self", "path", "why"] (defScope iTree) := ⟨rfl, rfl, rfl, by decide +kernel, rfl, by decide +kernel, by decide +kernel⟩
theorem scINaming : FnScope ["self", "one", "other"] ["self", "one", "other"] (defScope iNaming) := ⟨rfl, rfl, rfl, by decide +kernel, rfl, by decide +kernel, by decide +kernel⟩
theorem len2 {α : Type} {l : List α} (h : l.length = 1) : ∃ x, l = [x] := by
  match l, h with
  | [x], _ => exact ⟨x, rfl⟩
theorem len3 {α : Type} {l : List α} (h : l.length = 2) : ∃ x y, l = [x, y] := by
  match l, h with
  | [x, y], _ => exact ⟨x, y, rfl⟩
theorem ok_iText {f C : Addr} {fd : FuncData} {dvs : List V} (F : FunD K "__init__" "NoText.__init__" (defArgs iText) (defBody iText) (defScope iText) dvs [] f fd) (O : OexC K C) (n1 : PySem.W.findIn K (.ref C) "at" = some none) : FnOk P w K mg base CX0 1 f fd ["self", "at"] (spI C 1 fsText) := by
  refine F.ok scIText (fun vs H Q E h => ?_) (fun cdv A outer s H vs Q E hr h => ?_)
  · obtain ⟨a, ws, rfl, hl, _⟩ := h
    show ws.length + 1 = 2
    omega
  · refine ⟨_, pss_one (ps_ost (pv 0) (pv 1)), ?_⟩
    obtain ⟨a, ws, rfl, hl, ha, q⟩ := h
    obtain ⟨x, rfl⟩ := len2 hl
    refine ⟨_, rfl, _, rfl, a, C, rfl, O, n1, .inl ⟨ha, fun dx nd ne => ?_⟩⟩
    refine q _ dx (fun b o hb z => ?_) upd_same ?_
    · rw [upd_ne hb, upd_ne (ne_of_none z nd)]
      exact z
    · rw [upd_ne ne, upd_same]
      rfl
theorem ok_iTwo {f C : Addr} {fd : FuncData} {dvs : List V} {st : Stmt} {x y q : Str} {fs : List V → List (Str × V)} (F : FunD K "__init__" q (defArgs st) (defBody st) (defScope st) dvs [] f fd) (O : OexC K C)
    (sc : FnScope ["self", x, y] ["self", x, y] (defScope st)) (n1 : PySem.W.findIn K (.ref C) x = some none) (n2 : PySem.W.findIn K (.ref C) y = some none)
    (hb : ∀ (cdv : Value) (A : Around) (outer : List Env) (s : Shared) (H : Hp) (E : XK), PSs (cxOf CX0 P w K mg base ["self", x, y] q (defScope st) f cdv A outer s H E) (defBody st) (tSeq (tOst K x (tVar 0) (tVar 1)) (tOst K y (tVar 0) (tVar 2))))
    (hfs : ∀ u v, fs [u, v] = [(y, v), (x, u)]) : FnOk P w K mg base CX0 1 f fd ["self", x, y] (spI C 2 fs) := by
  refine F.ok sc (fun vs H Q E h => ?_) (fun cdv A outer s H vs Q E hr h => ?_)
  · obtain ⟨a, ws, rfl, hl, _⟩ := h
    show ws.length + 1 = 3
    omega
  · refine ⟨_, hb cdv A outer s H E, ?_⟩
    obtain ⟨a, ws, rfl, hl, ha, q⟩ := h
    obtain ⟨u, v, rfl⟩ := len3 hl
    refine ⟨_, rfl, _, rfl, a, C, rfl, O, n1, .inl ⟨ha, fun dx nd ne => ?_⟩⟩
    refine ⟨_, rfl, _, rfl, a, C, rfl, O, n2, .inr ⟨dx, _, upd_same, (upd_ne ne).trans upd_same, by show 1 ≤ 900; decide, ?_⟩⟩
    refine q _ dx (fun b o hb z => ?_) ?_ ?_
    · rw [upd_ne (ne_of_none z nd), upd_ne hb, upd_ne (ne_of_none z nd)]
      exact z
    · rw [upd_ne (Ne.symm ne), upd_same]
    · rw [upd_same, hfs]
theorem ok_iTree {f C : Addr} {fd : FuncData} {dvs : List V} (F : FunD K "__init__" "NoTree.__init__" (defArgs iTree) (defBody iTree) (defScope iTree) dvs [] f fd) (O : OexC K C) (n1 : PySem.W.findIn K (.ref C) "path" = some none) (n2 : PySem.W.findIn K (.ref C) "why" = some none) :
    FnOk P w K mg base CX0 1 f fd ["self", "path", "why"] (spI C 2 fsTree) :=
  ok_iTwo F O scITree n1 n2 (fun cdv A outer s H E => pss_cons (ps_ost (pv 0) (pv 1)) (pss_one (ps_ost (pv 0) (pv 2)))) fun _ _ => rfl
theorem ok_iNaming {f C : Addr} {fd : FuncData} {dvs : List V} (F : FunD K "__init__" "NoNaming.__init__" (defArgs iNaming) (defBody iNaming) (defScope iNaming) dvs [] f fd) (O : OexC K C) (n1 : PySem.W.findIn K (.ref C) "one" = some none) (n2 : PySem.W.findIn K (.ref C) "other" = some none) :
    FnOk P w K mg base CX0 1 f fd ["self", "one", "other"] (spI C 2 fsNaming) :=
  ok_iTwo F O scINaming n1 n2 (fun cdv A outer s H E => pss_cons (ps_ost (pv 0) (pv 1)) (pss_one (ps_ost (pv 0) (pv 2)))) fun _ _ => rfl
/-! how arguments come to the parameters -/
section
variable {f : Addr} {fd : FuncData} {d0 d1 : V}
theorem bText0 (F : FunD K "__init__" "NoText.__init__" (defArgs iText) (defBody iText) (defScope iText) [d0] [] f fd) : ∃ ds, Vals [d0] ds ∧ L2.Binds K fd ["self", "at"] ds :=
  F.binds1 1 0 (by simp) rfl fun T kV doc pm an cdv ct us its h1 h2 => match us, its, h1, h2 with | [_], [_], _, _ => ⟨_, rfl, rfl⟩
theorem bText1 (F : FunD K "__init__" "NoText.__init__" (defArgs iText) (defBody iText) (defScope iText) [d0] [] f fd) : L2.Binds K fd ["self", "at"] [] := by
  obtain ⟨ds, h, b⟩ := F.binds1 (ps := ["self", "at"]) 2 1 (by simp) rfl fun T kV doc pm an cdv ct us its h1 h2 => match us, its, h1, h2 with | [_, _], [_], _, _ => ⟨_, rfl, rfl⟩
  cases h
  exact b
theorem kText (F : FunD K "__init__" "NoText.__init__" (defArgs iText) (defBody iText) (defScope iText) [d0] [] f fd) : ∃ its : List Value, KBn K fd ["self", "at"] 1 ["at"] (fun us ws => us ++ ws) (fun vs zs => vs ++ zs) :=
  F.kbindsD (ps := ["self", "at"]) 1 ["at"] (fun us _ ws => us ++ ws) (by simp) (fun h1 _ h3 => h1.append h3)
    fun T kV doc pm an cdv ct us its ws h1 h2 h3 => match us, its, ws, h1, h2, h3 with | [_], [_], [_], _, _, _ => ⟨_, rfl, rfl⟩
variable {x y : Str}
theorem vals_rev : ∀ {xs : List V} {us : List Value}, Vals xs us → Vals xs.reverse us.reverse
  | _, _, .nil => .nil
  | _, _, .cons a r => by
    rw [List.reverse_cons, List.reverse_cons]
    exact (vals_rev r).append (.cons a .nil)
/-- of __init__(self, x = .., y = ..) -/
structure TwoB (K : PySem.W.Frag) (fd : FuncData) (x y : Str) (d0 d1 : V) : Prop where
  b0 : ∃ ds, Vals [d0, d1] ds ∧ L2.Binds K fd ["self", x, y] ds
  b1 : ∃ ds, Vals [d1] ds ∧ L2.Binds K fd ["self", x, y] ds
  b2 : L2.Binds K fd ["self", x, y] []
  kyx : ∃ g, KBn K fd ["self", x, y] 1 [y, x] g (fun vs zs => vs ++ zs.reverse)
  k1y : ∃ g, KBn K fd ["self", x, y] 2 [y] g (fun vs zs => vs ++ zs)
  k0y : ∃ g, KBn K fd ["self", x, y] 1 [y] g (fun vs zs => vs ++ ([d0] ++ zs))
theorem bTree (F : FunD K "__init__" "NoTree.__init__" (defArgs iTree) (defBody iTree) (defScope iTree) [d0, d1] [] f fd) : TwoB K fd "path" "why" d0 d1 where
  b0 := F.binds1 (ps := ["self", "path", "why"]) 1 0 (by simp) rfl fun T kV doc pm an cdv ct us its h1 h2 => match us, its, h1, h2 with | [_], [_, _], _, _ => ⟨_, rfl, rfl⟩
  b1 := F.binds1 (ps := ["self", "path", "why"]) 2 1 (by simp) rfl fun T kV doc pm an cdv ct us its h1 h2 => match us, its, h1, h2 with | [_, _], [_, _], _, _ => ⟨_, rfl, rfl⟩
  b2 := by
    obtain ⟨ds, h, b⟩ := F.binds1 (ps := ["self", "path", "why"]) 3 2 (by simp) rfl fun T kV doc pm an cdv ct us its h1 h2 => match us, its, h1, h2 with | [_, _, _], [_, _], _, _ => ⟨_, rfl, rfl⟩
    cases h
    exact b
  kyx := by
    obtain ⟨its, k⟩ := F.kbindsD (ps := ["self", "path", "why"]) 1 ["why", "path"] (fun us _ ws => us ++ ws.reverse) (by simp) (fun h1 _ h3 => h1.append (vals_rev h3)) (fun T kV doc pm an cdv ct us its ws h1 h2 h3 => match us, its, ws, h1, h2, h3 with | [_], [_, _], [_, _], _, _, _ => ⟨_, rfl, rfl⟩)
    exact ⟨_, k⟩
  k1y := by
    obtain ⟨its, k⟩ := F.kbindsD (ps := ["self", "path", "why"]) 2 ["why"] (fun us _ ws => us ++ ws) (by simp) (fun h1 _ h3 => h1.append h3) (fun T kV doc pm an cdv ct us its ws h1 h2 h3 => match us, its, ws, h1, h2, h3 with | [_, _], [_, _], [_], _, _, _ => ⟨_, rfl, rfl⟩)
    exact ⟨_, k⟩
  k0y := by
    obtain ⟨its, k⟩ := F.kbindsD (ps := ["self", "path", "why"]) 1 ["why"] (fun us its ws => us ++ (its.take 1 ++ ws)) (by simp) (fun h1 h2 h3 => h1.append ((h2.take 1).append h3)) (fun T kV doc pm an cdv ct us its ws h1 h2 h3 => match us, its, ws, h1, h2, h3 with | [_], [_, _], [_], _, _, _ => ⟨_, rfl, rfl⟩)
    exact ⟨_, k⟩
theorem bNaming (F : FunD K "__init__" "NoNaming.__init__" (defArgs iNaming) (defBody iNaming) (defScope iNaming) [d0, d1] [] f fd) : TwoB K fd "one" "other" d0 d1 where
  b0 := F.binds1 (ps := ["self", "one", "other"]) 1 0 (by simp) rfl fun T kV doc pm an cdv ct us its h1 h2 => match us, its, h1, h2 with | [_], [_, _], _, _ => ⟨_, rfl, rfl⟩
  b1 := F.binds1 (ps := ["self", "one", "other"]) 2 1 (by simp) rfl fun T kV doc pm an cdv ct us its h1 h2 => match us, its, h1, h2 with | [_, _], [_, _], _, _ => ⟨_, rfl, rfl⟩
  b2 := by
    obtain ⟨ds, h, b⟩ := F.binds1 (ps := ["self", "one", "other"]) 3 2 (by simp) rfl fun T kV doc pm an cdv ct us its h1 h2 => match us, its, h1, h2 with | [_, _, _], [_, _], _, _ => ⟨_, rfl, rfl⟩
    cases h
    exact b
  kyx := by
    obtain ⟨its, k⟩ := F.kbindsD (ps := ["self", "one", "other"]) 1 ["other", "one"] (fun us _ ws => us ++ ws.reverse) (by simp) (fun h1 _ h3 => h1.append (vals_rev h3)) (fun T kV doc pm an cdv ct us its ws h1 h2 h3 => match us, its, ws, h1, h2, h3 with | [_], [_, _], [_, _], _, _, _ => ⟨_, rfl, rfl⟩)
    exact ⟨_, k⟩
  k1y := by
    obtain ⟨its, k⟩ := F.kbindsD (ps := ["self", "one", "other"]) 2 ["other"] (fun us _ ws => us ++ ws) (by simp) (fun h1 _ h3 => h1.append h3) (fun T kV doc pm an cdv ct us its ws h1 h2 h3 => match us, its, ws, h1, h2, h3 with | [_, _], [_, _], [_], _, _, _ => ⟨_, rfl, rfl⟩)
    exact ⟨_, k⟩
  k0y := by
    obtain ⟨its, k⟩ := F.kbindsD (ps := ["self", "one", "other"]) 1 ["other"] (fun us its ws => us ++ (its.take 1 ++ ws)) (by simp) (fun h1 h2 h3 => h1.append ((h2.take 1).append h3)) (fun T kV doc pm an cdv ct us its ws h1 h2 h3 => match us, its, ws, h1, h2, h3 with | [_], [_, _], [_], _, _, _ => ⟨_, rfl, rfl⟩)
    exact ⟨_, k⟩
end
end
end My

namespace XR
open PySem PySem.Spec PyProof.Rows L2
section
variable {K : PySem.W.Frag} {σ : L2.St} {H : Hp} {Q : VK} {QT : Bool → Hp → Prop} {v : V} {i j l : Nat} {te : TE} {t : TA} {D : Ends} {tb : TS} {g : TG} {wi : TI} {R : It → Hp → Prop} {Qs : L2.St → Hp → Prop}
theorem rs_for (q : wi σ H fun J H1 => ∃ W : Nat → Nat → L2.St → Hp → Prop, (∃ m, W 0 m σ H1) ∧ ∀ i m σ H, W i m σ H →
  (J.stop i H ∧ D.nx σ H) ∨ (J.go i H ∧ ∃ N : L2.St → Hp → Prop, (∀ σ' H', N σ' H' → ∃ m', m' < m ∧ W (i + 1) m' σ' H') ∧ ∀ x H', J.yld i H x H' → g x σ H' fun σ2 H2 => tb { D with nx := N, ct := N, bk := D.nx } σ2 H2)) : tFor wi g tb D σ H := q
theorem ri_zip (q : t σ H fun vs H1 => ∃ a b xs ys, vs = [.ref a, .ref b] ∧ SqL K H1 a xs ∧ SqL K H1 b ys ∧ R (Itz K a b) H1) : iZip K t σ H R := q
theorem ri_list (q : te σ H fun x H1 => ∃ a, x = .ref a ∧ (∃ xs, SqL K H1 a xs) ∧ R (Itl K a) H1) : iList K te σ H R := q
theorem ri_rng1 (q : t σ H fun vs H1 => ∃ j : Int, vs = [.int j] ∧ -(2 ^ 62) ≤ j ∧ j < 2 ^ 62 ∧ R (Itr 0 j.toNat) H1) : iRng1 t σ H R := q
theorem rv_lc {tt : TT} {vs : List Nat} (q : wi σ H fun J H1 => ∀ D, H1 D = none → ∃ W : Nat → Nat → Hp → Prop, (∃ m, W 0 m (upd H1 D (.lst []))) ∧ ∀ i m H, W i m H →
  (J.stop i H ∧ Q (.ref D) H) ∨ (J.go i H ∧ ∃ Nx : Hp → Prop, (∀ H', Nx H' → ∃ m', m' < m ∧ W (i + 1) m' H') ∧ ∀ x H', J.yld i H x H' → g x (wipe σ vs) H' fun σ2 H2 => wipe σ2 vs = wipe σ vs ∧ tt σ2 H2 fun b H3 =>
    if b = true then te σ2 H3 fun y H4 => ∃ acc, H4 D = some (.lst acc) ∧ acc.length < sizeLine ∧ Nx (upd H4 D (.lst (acc ++ [y]))) else Nx H3)) : tLc wi g tt te vs σ H Q := q
theorem rv_xfl {f : Str} (q : te σ H fun x H1 => ∃ (a C dd : Addr) (fs : List (Str × V)) (v : V), x = .ref a ∧ ExAt H1 a C (some dd) ∧ DcAt H1 dd fs ∧ ExcK K C ∧ PySem.W.findIn K (.ref C) f = some none ∧ fs.lookup f = some v ∧ Q v H1) : tXfl K f te σ H Q := q
theorem rs_par3 (q : t σ H fun vs H1 => ∃ u v w, vs = [u, v, w] ∧ D.nx (((σ.set i (some u)).set j (some v)).set l (some w)) H1) : tPar3 i j l t D σ H := q
theorem rv_yes (q : QT true H) : tYes σ H QT := q
theorem rg_tup {n : Nat} {tg : TGs} (q : ∃ a xs, v = .ref a ∧ SqT K H a xs ∧ xs.length = n ∧ tg xs σ H Qs) : gTup K n tg v σ H Qs := q
theorem rg_cons {t1 : TG} {u : TGs} {vs : List V} (q : t1 v σ H fun σ' H' => u vs σ' H' Qs) : gCons t1 u (v :: vs) σ H Qs := ⟨v, vs, rfl, q⟩
theorem rg_nil (q : Qs σ H) : gNil [] σ H Qs := ⟨rfl, q⟩
theorem iteFe {c : Bool} {A B : Prop} (hc : c = false) (h : B) : if c = true then A else B := by
  rw [hc, if_neg Bool.false_ne_true]
  exact h
theorem iteTe {c : Bool} {A B : Prop} (hc : c = true) (h : A) : if c = true then A else B := by
  rw [hc, if_pos rfl]
  exact h
end
end XR

namespace XR
open PySem PySem.Spec PyProof.Rows L2 SX
section
variable {K : PySem.W.Frag} {σ : L2.St} {H : Hp} {Q : VK} {QT : Bool → Hp → Prop} {v x y : V} {i j : Int} {n : Nat} {ta tb tc te : TE} {t : TA} {r r' : R2} {D : Ends} {g : TG} {R : It → Hp → Prop} {Qo : Option Int → Hp → Prop}
theorem rv_chain (q : ta σ H fun x H1 => tb σ H1 fun y H2 => r x y H2 fun z H3 => ∃ k, z = .bl k ∧ (if k = true then tc σ H3 fun w' H4 => r' y w' H4 Q else Q (.bl false) H3)) : tChain r r' ta tb tc σ H Q := q
theorem ri_str (q : te σ H fun v H1 => ∃ x, v = .str x ∧ R (Its x) H1) : iStr te σ H R := q
theorem rv_sl {rr : V → Option Int → Option Int → Hp → VK → Prop} {tl th : TO} (q : te σ H fun x H1 => tl σ H1 fun l H2 => th σ H2 fun u H3 => rr x l u H3 Q) : tSl rr te tl th σ H Q := q
theorem rv_part (q : te σ H fun x H1 => ∃ i, x = .int i ∧ Qo (some i) H1) : tPart te σ H Qo := q
theorem rv_nopart (q : Qo none H) : tNoPart σ H Qo := q
theorem rv_callS {sp : Sp} {E : L2.St → XK} (q : t σ H fun vs H1 => sp vs H1 Q (E σ)) : tCallS sp E t σ H Q := q
theorem rv_le (q : Q (.bl (decide (i ≤ j))) H) : rI0 (fun i j => V.bl (decide (i ≤ j))) (.int i) (.int j) H Q := ⟨i, j, rfl, rfl, q⟩
def rLeS : R2 := fun x y H Q => ∃ i j, x = .str i ∧ y = .str j ∧ Q (.bl (!decide (j.cps.toList < i.cps.toList))) H
theorem op_leS {X : Cx} : OpR X (compareOp .LtE) rLeS := op_le_str
theorem lt1 (a b : Nat) : (([a] : List Nat) < [b]) ↔ a < b := by
  constructor
  · intro h
    cases h with
    | rel h => exact h
    | cons h => cases h
  · intro h
    exact .rel h
theorem rv_leS {a b : Nat} (q : Q (.bl (decide (a ≤ b))) H) : rLeS (.str (S [a])) (.str (S [b])) H Q := by
  refine ⟨_, _, rfl, rfl, ?_⟩
  have e : (!decide ((S [b]).cps.toList < (S [a]).cps.toList)) = decide (a ≤ b) := by
    show (!decide ([b] < [a])) = decide (a ≤ b)
    rw [← decide_not]
    exact decide_eq_decide.mpr (by rw [lt1]; omega)
  rw [e]
  exact q
theorem rv_inS {c : Nat} {z : List Nat} (q : Q (.bl (decide (c ∈ z))) H) : rInS (.str (S [c])) (.str (S z)) H Q := ⟨c, S z, rfl, rfl, q⟩
theorem at_S {t : List Nat} {k c : Nat} (hk : t[k]? = some c) (hl : t.length ≤ sizeLine) (q : Q (.str (S [c])) H) : rIxS (.str (S t)) (.int (k : Int)) H Q :=
  ⟨S t, k, c, rfl, rfl, by rw [S_len]; exact hl, atI_nat hk, q⟩
theorem cut_S {t : List Nat} (a b : Nat) : cutS (S t) (some (a : Int)) (some (b : Int)) = S ((t.drop a).take (b - a)) := by
  unfold cutS
  rw [HT.sIx_nat, HT.sIx_nat, S_len]
  show S ((t.drop (min a t.length)).take (min b t.length - min a t.length)) = _
  congr 1
  by_cases h : a ≤ t.length
  · rw [Nat.min_eq_left h]
    by_cases h2 : b ≤ t.length
    · rw [Nat.min_eq_left h2]
    · rw [show min b t.length = t.length from by omega, List.take_of_length_le (by simp), List.take_of_length_le (by simp; omega)]
  · rw [show min a t.length = t.length from by omega, List.drop_of_length_le (Nat.le_refl _), List.drop_of_length_le (by omega)]
    simp
theorem rv_cut {t : List Nat} {a b : Nat} (hl : t.length ≤ sizeLine) (q : Q (.str (S ((t.drop a).take (b - a)))) H) : rSlS (.str (S t)) (some (a : Int)) (some (b : Int)) H Q :=
  ⟨S t, rfl, by rw [S_len]; exact hl, by rw [cut_S]; exact q⟩
theorem rv_lenS {t : List Nat} (hl : t.length ≤ sizeLine) (q : Q (.int (t.length : Nat)) H) : ∃ z, [V.str (S t)] = [.str z] ∧ z.length ≤ sizeLine ∧ Q (.int z.length) H :=
  ⟨S t, rfl, by rw [S_len]; exact hl, by rw [S_len]; exact q⟩
end
end XR

namespace My
open PySem PySem.Spec PyProof.Rows L2 XR SX
abbrev sLetter : Stmt := top 20
abbrev sFigure : Stmt := top 21
abbrev sLF : Stmt := top 22
abbrev sName : Stmt := top 23
abbrev sPlain : Stmt := top 24
abbrev sNumber : Stmt := top 25
abbrev sRunEnd : Stmt := top 26
abbrev sSort : Stmt := top 27
abbrev sSign : Stmt := top 28
abbrev sWords : Stmt := top 29
section
variable {P : Program} {w : World} {K : PySem.W.Frag} {mg : Str → Option Value} {base : Heap}
local macro_rules | `(tactic| walk_at "rd1") => `(tactic| first
  | with_reducible refine rs_seq ?_
  | with_reducible refine rs_asg ?_
  | with_reducible refine rs_ret ?_
  | with_reducible refine rs_if ?_
  | with_reducible refine rs_next ?_
  | with_reducible refine rg_name ?_
  | ((with_reducible refine rv_var (v := ?vv) ?hv ?_); (case hv => exact rfl))
  | with_reducible refine rv_c ?_
  | with_reducible refine rv_op ?_
  | with_reducible refine rv_cons ?_
  | with_reducible refine rv_nil ?_
  | with_reducible refine rv_rI0 ?_
  | ((with_reducible refine rv_rI ?hc ?_); (case hc => walk_at "side"))
  | ((with_reducible refine rv_eq ?hc ?_); (case hc => exact rfl))
  | ((with_reducible refine rv_ne ?hc ?_); (case hc => exact rfl))
  | with_reducible refine rv_test ?_
  | with_reducible refine rv_bl ?_
  | with_reducible refine rv_cb ?_
  | with_reducible refine rv_call ?_
  | with_reducible refine rv_tup ?_
  | with_reducible refine rv_lst ?_
  | with_reducible refine rv_tB ?_
  | with_reducible refine rv_or ?_
  | with_reducible refine rv_and ?_
  | with_reducible refine rv_not ?_
  | with_reducible refine rv_andV ?_
  | with_reducible refine rv_orV ?_
  | with_reducible refine rv_notV ?_
  | with_reducible refine rv_ifE ?_
  | with_reducible refine rs_drop ?_
  | with_reducible refine iteT ?_
  | with_reducible refine iteF ?_
  | with_reducible refine ro_nx ?_
  | with_reducible refine ro_rt ?_
  | with_reducible refine ro_ct ?_
  | with_reducible refine ro_bk ?_)
local macro_rules | `(tactic| walk_at "rd") => `(tactic| repeat walk_at "rd1")
local macro_rules | `(tactic| walk_at "side") => `(tactic| first
  | assumption
  | exact (show CPow _ _ from ⟨by decide, by decide, by decide⟩)
  | exact (show CMul _ _ from .inl ⟨by decide, by decide⟩)
  | exact (show CMul _ _ from .inr ⟨by decide, by decide⟩)
  | (show (0 : Int) < _; decide)
  | (show CMul _ _; first | exact .inl ⟨by omega, by omega⟩ | exact .inr ⟨by omega, by omega⟩)
  | omega)
local macro_rules | `(tactic| walk_at "rd1") => `(tactic| first
  | with_reducible refine rs_for ?_
  | with_reducible refine ri_zip ?_
  | with_reducible refine ri_list ?_
  | with_reducible refine ri_rng1 ?_
  | with_reducible refine rv_lc ?_
  | with_reducible refine rv_xfl ?_
  | with_reducible refine rs_par3 ?_
  | with_reducible refine rv_yes ?_
  | with_reducible refine rg_tup ?_
  | with_reducible refine rg_cons ?_
  | with_reducible refine rg_nil ?_)
local macro_rules | `(tactic| walk_at "rd1") => `(tactic| first
  | with_reducible refine ri_str ?_
  | with_reducible refine rv_sl ?_
  | with_reducible refine rv_part ?_
  | with_reducible refine rv_nopart ?_
  | with_reducible refine rv_callS ?_
  | with_reducible refine rv_chain ?_
  | with_reducible refine rv_leS ?_
  | with_reducible refine rv_inS ?_)
def isL (c : Nat) : Bool := decide (97 ≤ c) && decide (c ≤ 122)
def isF (c : Nat) : Bool := decide (48 ≤ c) && decide (c ≤ 57)
def isLF (c : Nat) : Bool := isL c || isF c
/-- a test of one sign -/
def spB (f : Nat → Bool) : Sp := fun vs H Q _ => ∃ c : Nat, vs = [.str (S [c])] ∧ Q (.bl (f c)) H
theorem scLetter : FnScope ["sign"] ["sign"] (defScope sLetter) := ⟨rfl, rfl, rfl, by decide +kernel, rfl, by decide +kernel, by decide +kernel⟩
theorem scFigure : FnScope ["sign"] ["sign"] (defScope sFigure) := ⟨rfl, rfl, rfl, by decide +kernel, rfl, by decide +kernel, by decide +kernel⟩
theorem scLF : FnScope ["sign"] ["sign"] (defScope sLF) := ⟨rfl, rfl, rfl, by decide +kernel, rfl, by decide +kernel, by decide +kernel⟩
theorem ok_Letter {f : Addr} {fd : FuncData} (F : Fun K "is_letter" "is_letter" sLetter f fd) : FnOk P w K mg base CX0 1 f fd ["sign"] (spB isL) := by
  refine F.ok scLetter (fun vs H Q E h => ?_) (fun cdv A outer s H vs Q E hr h => ?_)
  · obtain ⟨c, rfl, _⟩ := h
    rfl
  · refine ⟨_, pss_one (ps_ret (pe_chain op_leS op_leS pe_str (pv 0) pe_str)), ?_⟩
    obtain ⟨c, rfl, q⟩ := h
    walk_at "rd"
    refine rv_leS (a := 97) ?_
    refine ⟨_, rfl, ite2 (fun h => ?_) (fun h => ?_)⟩
    · walk_at "rd"
      refine rv_leS (b := 122) ?_
      show Q (.bl (decide (c ≤ 122))) H
      have e : isL c = decide (c ≤ 122) := by unfold isL; rw [h]; rfl
      rw [← e]
      exact q
    · show Q (.bl false) H
      have e : isL c = false := by unfold isL; rw [Bool.eq_false_iff.mpr h]; rfl
      rw [← e]
      exact q
theorem ok_Figure {f : Addr} {fd : FuncData} (F : Fun K "is_figure" "is_figure" sFigure f fd) : FnOk P w K mg base CX0 1 f fd ["sign"] (spB isF) := by
  refine F.ok scFigure (fun vs H Q E h => ?_) (fun cdv A outer s H vs Q E hr h => ?_)
  · obtain ⟨c, rfl, _⟩ := h
    rfl
  · refine ⟨_, pss_one (ps_ret (pe_chain op_leS op_leS pe_str (pv 0) pe_str)), ?_⟩
    obtain ⟨c, rfl, q⟩ := h
    walk_at "rd"
    refine rv_leS (a := 48) ?_
    refine ⟨_, rfl, ite2 (fun h => ?_) (fun h => ?_)⟩
    · walk_at "rd"
      refine rv_leS (b := 57) ?_
      show Q (.bl (decide (c ≤ 57))) H
      have e : isF c = decide (c ≤ 57) := by unfold isF; rw [h]; rfl
      rw [← e]
      exact q
    · show Q (.bl false) H
      have e : isF c = false := by unfold isF; rw [Bool.eq_false_iff.mpr h]; rfl
      rw [← e]
      exact q
theorem ok_LF {f fL fF : Addr} {fd dL dF : FuncData} (F : Fun K "is_letter_or_figure" "is_letter_or_figure" sLF f fd) (FL : Fun K "is_letter" "is_letter" sLetter fL dL) (FF : Fun K "is_figure" "is_figure" sFigure fF dF)
    (gL : mg "is_letter" = some (.ref fL)) (gF : mg "is_figure" = some (.ref fF)) (bL : L2.Binds K dL ["sign"] []) (bF : L2.Binds K dF ["sign"] []) : FnOk P w K mg base CX0 2 f fd ["sign"] (spB isLF) := by
  have GL : FnOk P w K mg base CX0 1 fL dL ["sign"] (spB isL) := ok_Letter FL
  have GF : FnOk P w K mg base CX0 1 fF dF ["sign"] (spB isF) := ok_Figure FF
  refine F.ok scLF (fun vs H Q E h => ?_) (fun cdv A outer s H vs Q E hr h => ?_)
  · obtain ⟨c, rfl, _⟩ := h
    rfl
  · refine ⟨_, pss_one (ps_ret (pe_or (pe_call GL hr (by rfl) gL FL.kp bL .nil pass0 (pa_cons (pv 0) pa_nil)) (pe_one (pe_call GF hr (by rfl) gF FF.kp bF .nil pass0 (pa_cons (pv 0) pa_nil))))), ?_⟩
    obtain ⟨c, rfl, q⟩ := h
    walk_at "rd"
    refine ⟨c, rfl, ?_⟩
    refine ⟨_, rfl, ite2 (fun h => ?_) (fun h => ?_)⟩
    · have e : isLF c = true := by unfold isLF; rw [h]; rfl
      rw [e] at q
      exact q
    · walk_at "rd"
      refine ⟨c, rfl, ?_⟩
      have e : isLF c = isF c := by unfold isLF; rw [Bool.eq_false_iff.mpr h]; rfl
      rw [← e]
      exact q
def keptL : List Str := ["let", "if", "else", "while", "return", "fail", "try", "catch", "out", "fn"]
/-- is the text of these signs a kept word -/
def kept (t : List Nat) : Bool := inV (.str (S t)) (keptL.map V.str)
def nameB (t : List Nat) : Bool := decide (1 ≤ t.length) && decide (t.length ≤ 12) && !kept t && t.all isL
def spName : Sp := fun vs H Q _ => ∃ t : List Nat, vs = [.str (S t)] ∧ t.length ≤ 4000 ∧ ∀ H', Same H H' → Q (.bl (nameB t)) H'
def plainB (t : List Nat) : Bool := !decide (t = []) && t.all isF && (decide (t = [48]) || !decide (t.head? = some 48))
def spPlain : Sp := fun vs H Q _ => ∃ t : List Nat, vs = [.str (S t)] ∧ t.length ≤ 4000 ∧ ∀ H', Same H H' → Q (.bl (plainB t)) H'
/-- the signs of a text, each asked -/
theorem lc_signs {t : List Nat} {H : Hp} {D : Addr} {i : Nat} {f : Nat → Bool} {σ : L2.St} {vs : List Nat} {Qd : Hp → Prop} (hl : t.length ≤ 4000) (hD : H D = none)
    (hσ : i < (wipe σ vs).length) (hv : wipe ((wipe σ vs).set i none) vs = wipe σ vs) (hw : ∀ x : V, wipe ((wipe σ vs).set i (some x)) vs = wipe σ vs)
    (hd : ∀ H', Same H H' → H' D = some (.lst ((t.map f).map V.bl)) → Qd H') :
    ∃ W : Nat → Nat → Hp → Prop, (∃ m, W 0 m (upd H D (.lst []))) ∧ ∀ i' m H, W i' m H →
      ((Its (S t)).stop i' H ∧ Qd H) ∨ ((Its (S t)).go i' H ∧ ∃ Nx : Hp → Prop, (∀ H', Nx H' → ∃ m', m' < m ∧ W (i' + 1) m' H') ∧ ∀ x H', (Its (S t)).yld i' H x H' → gName i x (wipe σ vs) H' fun σ2 H2 => wipe σ2 vs = wipe σ vs ∧ tYes σ2 H2 fun b H3 =>
        if b = true then tCall (spB f) [] E0 (tCons (tVar i) tNil) σ2 H3 fun y H4 => ∃ acc, H4 D = some (.lst acc) ∧ acc.length < sizeLine ∧ Nx (upd H4 D (.lst (acc ++ [y]))) else Nx H3) := by
  refine lc_it walk_str (fun n H' => Same H H' ∧ H' D = some (.lst (((t.take n).map f).map V.bl))) ⟨same_upd hD, by rw [List.take_zero]; exact upd_same⟩ (fun _ _ _ _ => True.intro) ?_ ?_
  · rintro n x H' H2 hn ⟨sm, hd'⟩ ⟨rfl, c, hc, rfl⟩
    have hn' : n < t.length := by simpa using hn
    have hc' : t[n]? = some c := by simpa using hc
    refine rg_name ⟨hw _, ?_⟩
    refine rv_yes ?_
    refine iteT ?_
    refine rv_call ?_
    refine rv_cons ?_
    refine ⟨_, by rw [List.getElem?_set_self hσ], ?_⟩
    refine ⟨c, rfl, _, hd', ?_, fun b o z => ?_, ?_⟩
    · rw [List.length_map, List.length_map, List.length_take]
      exact Nat.lt_of_lt_of_le (by omega : min n t.length < 4001) (by rw [sizeLine_eq]; decide)
    · rw [upd_ne (fun z2 => by rw [z2] at z; rw [z] at hD; cases hD)]
      exact sm _ _ z
    · rw [upd_same, List.take_succ, hc']
      simp
  · rintro H' ⟨sm, hd'⟩
    refine hd H' sm ?_
    have : t.take (S t).cps.size = t := List.take_of_length_le (by simp)
    rw [this] at hd'
    exact hd'
end
end My

namespace My
open PySem PySem.Spec PyProof.Rows L2 XR SX
section
variable {P : Program} {w : World} {K : PySem.W.Frag} {mg : Str → Option Value} {base : Heap} {aK aL aS : Addr}
local macro_rules | `(tactic| walk_at "rd1") => `(tactic| first
  | with_reducible refine rs_seq ?_
  | with_reducible refine rs_asg ?_
  | with_reducible refine rs_ret ?_
  | with_reducible refine rs_if ?_
  | with_reducible refine rs_next ?_
  | with_reducible refine rg_name ?_
  | ((with_reducible refine rv_var (v := ?vv) ?hv ?_); (case hv => exact rfl))
  | with_reducible refine rv_c ?_
  | with_reducible refine rv_op ?_
  | with_reducible refine rv_cons ?_
  | with_reducible refine rv_nil ?_
  | with_reducible refine rv_rI0 ?_
  | ((with_reducible refine rv_rI ?hc ?_); (case hc => walk_at "side"))
  | ((with_reducible refine rv_eq ?hc ?_); (case hc => exact rfl))
  | ((with_reducible refine rv_ne ?hc ?_); (case hc => exact rfl))
  | with_reducible refine rv_test ?_
  | with_reducible refine rv_bl ?_
  | with_reducible refine rv_cb ?_
  | with_reducible refine rv_call ?_
  | with_reducible refine rv_tup ?_
  | with_reducible refine rv_lst ?_
  | with_reducible refine rv_tB ?_
  | with_reducible refine rv_or ?_
  | with_reducible refine rv_and ?_
  | with_reducible refine rv_not ?_
  | with_reducible refine rv_andV ?_
  | with_reducible refine rv_orV ?_
  | with_reducible refine rv_notV ?_
  | with_reducible refine rv_ifE ?_
  | with_reducible refine rs_drop ?_
  | with_reducible refine iteT ?_
  | with_reducible refine iteF ?_
  | with_reducible refine ro_nx ?_
  | with_reducible refine ro_rt ?_
  | with_reducible refine ro_ct ?_
  | with_reducible refine ro_bk ?_)
local macro_rules | `(tactic| walk_at "rd") => `(tactic| repeat walk_at "rd1")
local macro_rules | `(tactic| walk_at "side") => `(tactic| first
  | assumption
  | exact (show CPow _ _ from ⟨by decide, by decide, by decide⟩)
  | exact (show CMul _ _ from .inl ⟨by decide, by decide⟩)
  | exact (show CMul _ _ from .inr ⟨by decide, by decide⟩)
  | (show (0 : Int) < _; decide)
  | (show CMul _ _; first | exact .inl ⟨by omega, by omega⟩ | exact .inr ⟨by omega, by omega⟩)
  | omega)
local macro_rules | `(tactic| walk_at "rd1") => `(tactic| first
  | with_reducible refine rs_for ?_
  | with_reducible refine ri_zip ?_
  | with_reducible refine ri_list ?_
  | with_reducible refine ri_rng1 ?_
  | with_reducible refine rv_lc ?_
  | with_reducible refine rv_xfl ?_
  | with_reducible refine rs_par3 ?_
  | with_reducible refine rv_yes ?_
  | with_reducible refine rg_tup ?_
  | with_reducible refine rg_cons ?_
  | with_reducible refine rg_nil ?_)
local macro_rules | `(tactic| walk_at "rd1") => `(tactic| first
  | with_reducible refine ri_str ?_
  | with_reducible refine rv_sl ?_
  | with_reducible refine rv_part ?_
  | with_reducible refine rv_nopart ?_
  | with_reducible refine rv_callS ?_
  | with_reducible refine rv_chain ?_
  | with_reducible refine rv_leS ?_
  | with_reducible refine rv_inS ?_)
def longL : List Str := ["<=", ">=", "==", "!=", "&&", "||"]
def shortL : List Str := ["+", "-", "*", "/", "~", "<", ">", "!", "?", ":", ".", ",", "=", "(", ")", "{", "}", "[", "]", ";"]
structure Glo (K : PySem.W.Frag) (mg : Str → Option Value) (aK aL aS : Addr) : Prop where
  mI : mg "isinstance" = none
  mS : mg "str" = none
  mA : mg "all" = none
  mL : mg "len" = none
  mN : mg "int" = none
  c12 : ∃ t, mg "MOST_LETTERS" = some (.int 12 t)
  c18 : ∃ t, mg "MOST_FIGURES" = some (.int 18 t)
  gK : mg "KEPT" = some (.ref aK)
  gLo : mg "LONG_SIGNS" = some (.ref aL)
  gSh : mg "SHORT_SIGNS" = some (.ref aS)
  sK : ∀ H, SqT K H aK (keptL.map V.str)
  sLo : ∀ H, SqT K H aL (longL.map V.str)
  sSh : ∀ H, SqT K H aS (shortL.map V.str)
theorem kit_same {K : PySem.W.Frag} {t : Value} : PySem.W.kitOne K t t = some true := by
  unfold PySem.W.kitOne
  rw [if_pos (beq_self_eq_true t)]
theorem eqS {t u : List Nat} {k : Bool} (h : decide (V.str (S t) = V.str (S u)) = k) : decide (t = u) = k := by
  rw [← h]
  exact decide_eq_decide.mpr ⟨fun e => by rw [e], fun e => S_inj (V.str.inj e)⟩
theorem len_le {n : Nat} (h : n ≤ 4000) : n ≤ sizeLine := Nat.le_trans h (by rw [sizeLine_eq]; decide)
theorem scName : FnScope ["thing", "sign"] ["thing"] (defScope sName) := ⟨rfl, rfl, rfl, by decide +kernel, rfl, by decide +kernel, by decide +kernel⟩
theorem scPlain : FnScope ["word", "sign"] ["word"] (defScope sPlain) := ⟨rfl, rfl, rfl, by decide +kernel, rfl, by decide +kernel, by decide +kernel⟩
theorem ok_Name {f fL : Addr} {fd dL : FuncData} (F : Fun K "is_name" "is_name" sName f fd) (T : Glo K mg aK aL aS) (FL : Fun K "is_letter" "is_letter" sLetter fL dL) (gL : mg "is_letter" = some (.ref fL)) (bL : L2.Binds K dL ["sign"] []) : FnOk P w K mg base CX0 2 f fd ["thing"] spName := by
  have GL : FnOk P w K mg base CX0 1 fL dL ["sign"] (spB isL) := ok_Letter FL
  obtain ⟨t12, h12⟩ := T.c12
  refine F.ok scName (fun vs H Q E h => ?_) (fun cdv A outer s H vs Q E hr h => ?_)
  · obtain ⟨c, rfl, _⟩ := h
    rfl
  · refine ⟨_, (pss_cons (ps_if (PW.pt (pw_or (pt_not (pt_val (pe_callB call_isi (by rfl) T.mI (by decide +kernel) (pa_cons (pv 0) (pa_cons (pe_bltn (by rfl) T.mS (by decide +kernel) (v := .ty "str") rfl) pa_nil))))) (pw_or (pt_not (pt_chain op_le op_le pe_int (pe_callB call_len_str (by rfl) T.mL PySem.boot_len (pa_cons (pv 0) pa_nil)) (pe_glob (by rfl) h12 (v := .int 12) ⟨_, rfl⟩))) (pw_or1 (pt_cmpR op_in_seq (pv 0) (pe_glob (by rfl) T.gK (v := .ref aK) rfl) (by rfl)))))) (pss_one (ps_ret pe_bl)) pss_nil)
        (pss_one (ps_ret (pe_callB (cr_all rfl) (by rfl) T.mA (by decide +kernel) (pa_cons (pe_lc (own := [("sign", 1)]) (g := gName 1) (tt := tYes) (te := tCall (spB isL) [] E0 (tCons (tVar 1) tNil)) (by rfl) scName.nd (pi_str (pv 0)) (blkOk_by (own := [("sign", 1)]) (N := ["thing", "sign"]) (sc := defScope sName) (by decide +kernel)) (fun _ _ _ _ _ => (pg_name (i := 1) scName.nd rfl (.inl rfl))) (fun _ _ _ _ _ => pts_nil) (fun _ _ _ _ _ => pe_call GL hr (by rfl) gL FL.kp bL .nil pass0 (pa_cons (pv 1) pa_nil))) pa_nil))))), ?_⟩
    obtain ⟨t, rfl, hl, q⟩ := h
    walk_at "rd"
    refine ⟨_, _, _, _, true, rfl, .ty _, .base (.str _), kit_same, ?_⟩
    refine ⟨_, rfl, ?_⟩
    refine iteFe rfl ?_
    walk_at "rd"
    refine ⟨S t, rfl, len_le hl, ?_⟩
    rw [S_len]
    refine ⟨_, _, rfl, rfl, ?_⟩
    refine ⟨_, rfl, ite2 (fun h1 => ?_) (fun h1 => ?_)⟩
    · have h1' : 1 ≤ t.length := by have := of_decide_eq_true h1; omega
      walk_at "rd"
      refine ite2 (fun h2 => ?_) (fun h2 => ?_)
      · walk_at "rd"
        have h2' : ¬ t.length ≤ 12 := fun z => by
          have : decide ((t.length : Int) ≤ 12) = true := decide_eq_true (by omega)
          rw [this] at h2
          cases h2
        have e : nameB t = false := by unfold nameB; rw [decide_eq_false h2']; simp
        rw [e] at q
        exact q H (Same.refl H)
      · have h2' : t.length ≤ 12 := by
          have : decide ((t.length : Int) ≤ 12) = true := by simpa using h2
          have := of_decide_eq_true this
          omega
        walk_at "rd"
        refine ⟨aK, _, rfl, .inr (T.sK H), rfl, (by decide +kernel), ?_⟩
        refine ⟨_, rfl, ite2 (fun h3 => ?_) (fun h3 => ?_)⟩
        · walk_at "rd"
          have h3' : kept t = true := h3
          have e : nameB t = false := by unfold nameB; rw [h3']; simp
          rw [e] at q
          exact q H (Same.refl H)
        · walk_at "rd"
          refine ⟨_, rfl, ?_⟩
          intro D hD
          refine lc_signs (i := 1) (vs := [1]) hl hD (by show 1 < 2; decide) (by rfl) (fun _ => by rfl) fun H' sm hs => ?_
          walk_at "rd"
          refine ⟨D, _, rfl, SqL.of hs, ?_⟩
          have h3' : kept t = false := Bool.eq_false_iff.mpr h3
          have e : (t.map isL).all id = nameB t := by
            unfold nameB
            rw [decide_eq_true h1', decide_eq_true h2', h3', List.all_map]
            rfl
          rw [e]
          exact q H' sm
    · walk_at "rd"
      have h1' : ¬ 1 ≤ t.length := fun z => h1 (decide_eq_true (by omega))
      have e : nameB t = false := by unfold nameB; rw [decide_eq_false h1']; simp
      rw [e] at q
      exact q H (Same.refl H)
theorem ok_Plain {f fF : Addr} {fd dF : FuncData} (F : Fun K "is_plain_number" "is_plain_number" sPlain f fd) (T : Glo K mg aK aL aS) (FF : Fun K "is_figure" "is_figure" sFigure fF dF) (gF : mg "is_figure" = some (.ref fF)) (bF : L2.Binds K dF ["sign"] []) : FnOk P w K mg base CX0 2 f fd ["word"] spPlain := by
  have GF : FnOk P w K mg base CX0 1 fF dF ["sign"] (spB isF) := ok_Figure FF
  refine F.ok scPlain (fun vs H Q E h => ?_) (fun cdv A outer s H vs Q E hr h => ?_)
  · obtain ⟨c, rfl, _⟩ := h
    rfl
  · refine ⟨_, (pss_cons (ps_if (PW.pt (pw_or (pt_cmpR op_eq (pv 0) pe_str (nomark _)) (pw_or1 (pt_not (pt_val (pe_callB (cr_all rfl) (by rfl) T.mA (by decide +kernel) (pa_cons (pe_lc (own := [("sign", 1)]) (g := gName 1) (tt := tYes) (te := tCall (spB isF) [] E0 (tCons (tVar 1) tNil)) (by rfl) scPlain.nd (pi_str (pv 0)) (blkOk_by (own := [("sign", 1)]) (N := ["word", "sign"]) (sc := defScope sPlain) (by decide +kernel)) (fun _ _ _ _ _ => (pg_name (i := 1) scPlain.nd rfl (.inl rfl))) (fun _ _ _ _ _ => pts_nil) (fun _ _ _ _ _ => pe_call GF hr (by rfl) gF FF.kp bF .nil pass0 (pa_cons (pv 1) pa_nil))) pa_nil))))))) (pss_one (ps_ret pe_bl)) pss_nil)
        (pss_one (ps_ret (pe_or (pe_cmpR op_eq (pv 0) pe_str (nomark _)) (pe_one (pe_cmpR op_ne (pe_ix ix_str (pv 0) pe_int (fun _ _ => rfl)) pe_str (nomark _))))))), ?_⟩
    obtain ⟨t, rfl, hl, q⟩ := h
    walk_at "rd"
    refine ite2 (fun h1 => ?_) (fun h1 => ?_)
    · have h1' : t = [] := of_decide_eq_true (eqS (u := []) h1)
      walk_at "rd"
      have e : plainB t = false := by rw [h1']; rfl
      rw [e] at q
      exact q H (Same.refl H)
    · have h1' : t ≠ [] := of_decide_eq_false (eqS (u := []) (Bool.eq_false_iff.mpr h1))
      walk_at "rd"
      refine ⟨_, rfl, ?_⟩
      intro D hD
      refine lc_signs (i := 1) (vs := [1]) hl hD (by show 1 < 2; decide) (by rfl) (fun _ => by rfl) fun H' sm hs => ?_
      walk_at "rd"
      refine ⟨D, _, rfl, SqL.of hs, ?_⟩
      refine ⟨_, rfl, ite2 (fun h2 => ?_) (fun h2 => ?_)⟩
      · have h2' : t.all isF = false := by rw [List.all_map] at h2; simpa using h2
        walk_at "rd"
        have e : plainB t = false := by unfold plainB; rw [h2']; simp
        rw [e] at q
        exact q H' sm
      · have h2' : t.all isF = true := by rw [List.all_map] at h2; simpa using h2
        walk_at "rd"
        refine ite2 (fun h3 => ?_) (fun h3 => ?_)
        · have h3' : t = [48] := of_decide_eq_true (eqS (u := [48]) h3)
          have e : plainB t = true := by unfold plainB; rw [h2', decide_eq_false h1', decide_eq_true h3']; rfl
          rw [e] at q
          exact q H' sm
        · have h3' : ¬ t = [48] := of_decide_eq_false (eqS (u := [48]) (Bool.eq_false_iff.mpr h3))
          obtain ⟨c, r, rfl⟩ : ∃ c r, t = c :: r := by
            cases t with
            | nil => exact absurd rfl h1'
            | cons c r => exact ⟨c, r, rfl⟩
          walk_at "rd"
          refine at_S (k := 0) (c := c) rfl (len_le hl) ?_
          refine rv_ne rfl ?_
          have e : (!decide (V.str (S [c]) = V.str "0")) = plainB (c :: r) := by
            rw [show decide (V.str (S [c]) = V.str "0") = decide ([c] = [48]) from (eqS (u := [48]) rfl).symm]
            unfold plainB
            rw [h2', decide_eq_false h1', decide_eq_false h3']
            simp
          rw [e]
          exact q H' sm
end
end My

namespace My
open PySem PySem.Spec PyProof.Rows L2 XR SX
section
variable {P : Program} {w : World} {K : PySem.W.Frag} {mg : Str → Option Value} {base : Heap} {aK aL aS : Addr}
local macro_rules | `(tactic| walk_at "rd1") => `(tactic| first
  | with_reducible refine rs_seq ?_
  | with_reducible refine rs_asg ?_
  | with_reducible refine rs_ret ?_
  | with_reducible refine rs_if ?_
  | with_reducible refine rs_next ?_
  | with_reducible refine rg_name ?_
  | ((with_reducible refine rv_var (v := ?vv) ?hv ?_); (case hv => exact rfl))
  | with_reducible refine rv_c ?_
  | with_reducible refine rv_op ?_
  | with_reducible refine rv_cons ?_
  | with_reducible refine rv_nil ?_
  | with_reducible refine rv_rI0 ?_
  | ((with_reducible refine rv_rI ?hc ?_); (case hc => walk_at "side"))
  | ((with_reducible refine rv_eq ?hc ?_); (case hc => exact rfl))
  | ((with_reducible refine rv_ne ?hc ?_); (case hc => exact rfl))
  | with_reducible refine rv_test ?_
  | with_reducible refine rv_bl ?_
  | with_reducible refine rv_cb ?_
  | with_reducible refine rv_call ?_
  | with_reducible refine rv_tup ?_
  | with_reducible refine rv_lst ?_
  | with_reducible refine rv_tB ?_
  | with_reducible refine rv_or ?_
  | with_reducible refine rv_and ?_
  | with_reducible refine rv_not ?_
  | with_reducible refine rv_andV ?_
  | with_reducible refine rv_orV ?_
  | with_reducible refine rv_notV ?_
  | with_reducible refine rv_ifE ?_
  | with_reducible refine rs_drop ?_
  | with_reducible refine iteT ?_
  | with_reducible refine iteF ?_
  | with_reducible refine ro_nx ?_
  | with_reducible refine ro_rt ?_
  | with_reducible refine ro_ct ?_
  | with_reducible refine ro_bk ?_)
local macro_rules | `(tactic| walk_at "rd") => `(tactic| repeat walk_at "rd1")
local macro_rules | `(tactic| walk_at "side") => `(tactic| first
  | assumption
  | exact (show CPow _ _ from ⟨by decide, by decide, by decide⟩)
  | exact (show CMul _ _ from .inl ⟨by decide, by decide⟩)
  | exact (show CMul _ _ from .inr ⟨by decide, by decide⟩)
  | (show (0 : Int) < _; decide)
  | (show CMul _ _; first | exact .inl ⟨by omega, by omega⟩ | exact .inr ⟨by omega, by omega⟩)
  | omega)
local macro_rules | `(tactic| walk_at "rd1") => `(tactic| first
  | with_reducible refine rs_for ?_
  | with_reducible refine ri_zip ?_
  | with_reducible refine ri_list ?_
  | with_reducible refine ri_rng1 ?_
  | with_reducible refine rv_lc ?_
  | with_reducible refine rv_xfl ?_
  | with_reducible refine rs_par3 ?_
  | with_reducible refine rv_yes ?_
  | with_reducible refine rg_tup ?_
  | with_reducible refine rg_cons ?_
  | with_reducible refine rg_nil ?_)
local macro_rules | `(tactic| walk_at "rd1") => `(tactic| first
  | with_reducible refine ri_str ?_
  | with_reducible refine rv_sl ?_
  | with_reducible refine rv_part ?_
  | with_reducible refine rv_nopart ?_
  | with_reducible refine rv_callS ?_
  | with_reducible refine rv_chain ?_
  | with_reducible refine rv_leS ?_
  | with_reducible refine rv_inS ?_)
def noE (c : Nat) : Bool := !(c == 101)
def numB (t : List Nat) : Bool :=
  if plainB (t.takeWhile noE) = true then
    if (t.takeWhile noE).length = t.length then decide ((t.takeWhile noE).length ≤ 18)
    else !decide (t.takeWhile noE = [48]) && !decide (t.drop ((t.takeWhile noE).length + 1) = [48]) && decide ((t.drop ((t.takeWhile noE).length + 1)).length ≤ 2) && plainB (t.drop ((t.takeWhile noE).length + 1)) &&
      decide ((t.takeWhile noE).length + NumText.digitsVal (t.drop ((t.takeWhile noE).length + 1)) ≤ 18)
  else false
theorem tw_no : ∀ {t : List Nat}, 101 ∉ t → t.takeWhile noE = t
  | [], _ => rfl
  | c :: t, h => by
    have h1 : noE c = true := by
      unfold noE
      have : ¬ c = 101 := fun e => h (by rw [e]; exact List.mem_cons_self)
      simp [this]
    rw [List.takeWhile_cons, h1, if_pos rfl, tw_no fun z => h (List.mem_cons_of_mem _ z)]
theorem tw_e : ∀ {p q : List Nat}, 101 ∉ p → (p ++ 101 :: q).takeWhile noE = p
  | [], q, _ => by
    rw [List.nil_append, List.takeWhile_cons]
    rfl
  | c :: p, q, h => by
    have h1 : noE c = true := by
      unfold noE
      have : ¬ c = 101 := fun e => h (by rw [e]; exact List.mem_cons_self)
      simp [this]
    rw [List.cons_append, List.takeWhile_cons, h1, if_pos rfl, tw_e fun z => h (List.mem_cons_of_mem _ z)]
theorem split_e : ∀ t : List Nat, 101 ∉ t ∨ ∃ p q, t = p ++ 101 :: q ∧ 101 ∉ p
  | [] => .inl (by simp)
  | c :: t => by
    by_cases hc : c = 101
    · exact .inr ⟨[], t, by rw [hc]; rfl, by simp⟩
    · rcases split_e t with h | ⟨p, q, e, h⟩
      · exact .inl (by simp [h]; exact fun z => hc z.symm)
      · exact .inr ⟨c :: p, q, by rw [e]; rfl, by simp [h]; exact fun z => hc z.symm⟩
theorem numB_no {t : List Nat} (h : 101 ∉ t) : numB t = (plainB t && decide (t.length ≤ 18)) := by
  unfold numB
  rw [tw_no h]
  by_cases p : plainB t = true
  · rw [if_pos p, if_pos rfl, p]
    rfl
  · rw [if_neg p, Bool.eq_false_iff.mpr p]
    rfl
theorem numB_e {p q : List Nat} (h : 101 ∉ p) : numB (p ++ 101 :: q) = (plainB p && (!decide (p = [48]) && !decide (q = [48]) && decide (q.length ≤ 2) && plainB q && decide (p.length + NumText.digitsVal q ≤ 18))) := by
  unfold numB
  rw [tw_e h]
  have e : (p ++ 101 :: q).drop (p.length + 1) = q := by
    rw [show p ++ 101 :: q = (p ++ [101]) ++ q by simp, List.drop_append_of_le_length (by simp), List.drop_of_length_le (by simp)]
    rfl
  by_cases z : plainB p = true
  · rw [if_pos z, if_neg (by simp), z, e]
    rfl
  · rw [if_neg z, Bool.eq_false_iff.mpr z]
    rfl
def spNumber : Sp := fun vs H Q _ => ∃ t : List Nat, vs = [.str (S t)] ∧ t.length ≤ 4000 ∧ ∀ H', Same H H' → Q (.bl (numB t)) H'
theorem plain_figs {t : List Nat} (h : plainB t = true) : t ≠ [] ∧ t.all isF = true := by
  unfold plainB at h
  simp only [Bool.and_eq_true] at h
  exact ⟨by simpa using h.1.1, h.1.2⟩
theorem iteB {c : Bool} {A B : Prop} (h1 : c = true → A) (h2 : c = false → B) : if c = true then A else B := by
  cases c
  · exact iteF (h2 rfl)
  · exact iteT (h1 rfl)
theorem scNumber : FnScope ["word", "head", "parted", "tail"] ["word"] (defScope sNumber) := ⟨rfl, rfl, rfl, by decide +kernel, rfl, by decide +kernel, by decide +kernel⟩
theorem ok_Number {f fP fF : Addr} {fd dP dF : FuncData} (F : Fun K "is_number" "is_number" sNumber f fd) (T : Glo K mg aK aL aS) (FF : Fun K "is_figure" "is_figure" sFigure fF dF) (gF : mg "is_figure" = some (.ref fF)) (bF : L2.Binds K dF ["sign"] [])
    (FP : Fun K "is_plain_number" "is_plain_number" sPlain fP dP) (gP : mg "is_plain_number" = some (.ref fP)) (bP : L2.Binds K dP ["word"] []) : FnOk P w K mg base CX0 3 f fd ["word"] spNumber := by
  have GP : FnOk P w K mg base CX0 2 fP dP ["word"] spPlain := ok_Plain FP T FF gF bF
  obtain ⟨t18, h18⟩ := T.c18
  refine F.ok scNumber (fun vs H Q E h => ?_) (fun cdv A outer s H vs Q E hr h => ?_)
  · obtain ⟨c, rfl, _⟩ := h
    rfl
  · refine ⟨_, (pss_cons (ps_asg (pe_partition (pv 0) pe_str) (pg_tup (by rfl) (pgs_cons (pg_name (i := 1) scNumber.nd rfl (.inl rfl)) (pgs_cons (pg_name (i := 2) scNumber.nd rfl (.inl rfl)) (pgs_cons (pg_name (i := 3) scNumber.nd rfl (.inl rfl)) pgs_nil)))))
        (pss_cons (ps_if (pt_not (pt_val (pe_call GP hr (by rfl) gP FP.kp bP .nil pass0 (pa_cons (pv 1) pa_nil)))) (pss_one (ps_ret pe_bl)) pss_nil)
        (pss_cons (ps_if (pt_cmpR op_eq (pv 2) pe_str (nomark _)) (pss_one (ps_ret (pe_cmpR op_le (pe_callB call_len_str (by rfl) T.mL PySem.boot_len (pa_cons (pv 1) pa_nil)) (pe_glob (by rfl) h18 (v := .int 18) ⟨_, rfl⟩) (nomark _)))) pss_nil)
        (pss_cons (ps_if (PW.pt (pw_or (pt_cmpR op_eq (pv 1) pe_str (nomark _)) (pw_or (pt_cmpR op_eq (pv 3) pe_str (nomark _)) (pw_or (pt_cmpR op_gt (pe_callB call_len_str (by rfl) T.mL PySem.boot_len (pa_cons (pv 3) pa_nil)) pe_int (nomark _)) (pw_or1 (pt_not (pt_val (pe_call GP hr (by rfl) gP FP.kp bP .nil pass0 (pa_cons (pv 3) pa_nil))))))))) (pss_one (ps_ret pe_bl)) pss_nil)
        (pss_one (ps_ret (pe_cmpR op_le (pe_op op_add (pe_callB call_len_str (by rfl) T.mL PySem.boot_len (pa_cons (pv 1) pa_nil)) (pe_callTy call_int_str (by rfl) T.mN (by decide +kernel) (pa_cons (pv 3) pa_nil))) (pe_glob (by rfl) h18 (v := .int 18) ⟨_, rfl⟩) (nomark _)))))))), ?_⟩
    obtain ⟨t, rfl, hl, q⟩ := h
    walk_at "rd"
    refine ⟨_, rfl, ⟨_, rfl⟩, ?_⟩
    walk_at "rd"
    refine ⟨S t, S [101], rfl, rfl, rfl, len_le hl, fun p0 hp0 => ?_⟩
    rcases split_e t with ne | ⟨p, u, et, ne⟩
    · rw [partition_none (by simp) (par_head_none ne)]
      refine ⟨p0, _, rfl, .inl (.inl upd_same), rfl, ?_⟩
      have s0 := same_upd (o := .tup [.str (S t), .str (S []), .str (S [])]) hp0
      walk_at "rd"
      refine ⟨_, rfl, hl, fun H1 s1 => ?_⟩
      have k1 := s0.trans s1
      rw [numB_no ne] at q
      refine ⟨_, rfl, iteB (fun h1 => ?_) (fun h1 => ?_)⟩
      · have h1' : plainB t = false := by simpa using h1
        walk_at "rd"
        rw [h1'] at q
        exact q H1 k1
      · have h1' : plainB t = true := by simpa using h1
        walk_at "rd"
        refine iteTe rfl ?_
        walk_at "rd"
        refine ⟨S t, rfl, len_le hl, ?_⟩
        rw [S_len]
        walk_at "rd"
        rw [h1'] at q
        have e : decide ((t.length : Int) ≤ 18) = decide (t.length ≤ 18) := decide_eq_decide.mpr (by omega)
        rw [e]
        exact q H1 k1
    · have e2 : t = p ++ ((101 :: []) ++ u) := et
      have hlp : p.length ≤ 4000 := by rw [et] at hl; simp at hl; omega
      have hlu : u.length ≤ 4000 := by rw [et] at hl; simp at hl; omega
      rw [partition_some (p := p) (q := u) (by simp) (by rw [e2]; exact par_head u ne)]
      refine ⟨p0, _, rfl, .inl (.inl upd_same), rfl, ?_⟩
      have s0 := same_upd (o := .tup [.str (S p), .str (S [101]), .str (S u)]) hp0
      walk_at "rd"
      refine ⟨_, rfl, hlp, fun H1 s1 => ?_⟩
      have k1 := s0.trans s1
      rw [et, numB_e ne] at q
      refine ⟨_, rfl, iteB (fun h1 => ?_) (fun h1 => ?_)⟩
      · have h1' : plainB p = false := by simpa using h1
        walk_at "rd"
        rw [h1'] at q
        exact q H1 k1
      · have h1' : plainB p = true := by simpa using h1
        rw [h1', Bool.true_and] at q
        walk_at "rd"
        refine iteFe rfl ?_
        walk_at "rd"
        refine iteB (fun h2 => ?_) (fun h2 => ?_)
        · have h2' : p = [48] := of_decide_eq_true (eqS (u := [48]) h2)
          walk_at "rd"
          rw [decide_eq_true h2'] at q
          exact q H1 k1
        · have h2' : ¬ p = [48] := of_decide_eq_false (eqS (u := [48]) h2)
          walk_at "rd"
          refine iteB (fun h3 => ?_) (fun h3 => ?_)
          · have h3' : u = [48] := of_decide_eq_true (eqS (u := [48]) h3)
            walk_at "rd"
            rw [decide_eq_true h3'] at q
            simp only [Bool.not_true, Bool.and_false, Bool.false_and] at q
            exact q H1 k1
          · have h3' : ¬ u = [48] := of_decide_eq_false (eqS (u := [48]) h3)
            walk_at "rd"
            refine ⟨S u, rfl, len_le hlu, ?_⟩
            rw [S_len]
            walk_at "rd"
            refine iteB (fun h4 => ?_) (fun h4 => ?_)
            · have h4' : ¬ u.length ≤ 2 := by have := of_decide_eq_true h4; omega
              walk_at "rd"
              rw [decide_eq_false h4'] at q
              simp only [Bool.and_false, Bool.false_and] at q
              exact q H1 k1
            · have h4' : u.length ≤ 2 := by have := of_decide_eq_false h4; omega
              walk_at "rd"
              refine ⟨_, rfl, hlu, fun H2 s2 => ?_⟩
              have k2 := k1.trans s2
              refine ⟨_, rfl, iteB (fun h5 => ?_) (fun h5 => ?_)⟩
              · have h5' : plainB u = false := by simpa using h5
                walk_at "rd"
                rw [h5'] at q
                simp only [Bool.and_false, Bool.false_and] at q
                exact q H2 k2
              · have h5' : plainB u = true := by simpa using h5
                have fg := plain_figs h5'
                walk_at "rd"
                refine ⟨S p, rfl, len_le hlp, ?_⟩
                rw [S_len]
                walk_at "rd"
                refine ⟨S u, _, rfl, int_S fg.2 fg.1 (by omega), (by rw [S_len]; omega), ?_⟩
                walk_at "rd"
                rw [decide_eq_false h2', decide_eq_false h3', decide_eq_true h4', h5'] at q
                have e : decide (((p.length : Nat) : Int) + ((NumText.digitsVal u : Nat) : Int) ≤ 18) = decide (p.length + NumText.digitsVal u ≤ 18) := decide_eq_decide.mpr (by omega)
                rw [e]
                exact q H2 k2
end
end My

namespace My
open PySem PySem.Spec PyProof.Rows L2 XR SX
section
variable {P : Program} {w : World} {K : PySem.W.Frag} {mg : Str → Option Value} {base : Heap} {aK aL aS : Addr}
local macro_rules | `(tactic| walk_at "rd1") => `(tactic| first
  | with_reducible refine rs_seq ?_
  | with_reducible refine rs_asg ?_
  | with_reducible refine rs_ret ?_
  | with_reducible refine rs_if ?_
  | with_reducible refine rs_next ?_
  | with_reducible refine rg_name ?_
  | ((with_reducible refine rv_var (v := ?vv) ?hv ?_); (case hv => exact rfl))
  | with_reducible refine rv_c ?_
  | with_reducible refine rv_op ?_
  | with_reducible refine rv_cons ?_
  | with_reducible refine rv_nil ?_
  | with_reducible refine rv_rI0 ?_
  | ((with_reducible refine rv_rI ?hc ?_); (case hc => walk_at "side"))
  | ((with_reducible refine rv_eq ?hc ?_); (case hc => exact rfl))
  | ((with_reducible refine rv_ne ?hc ?_); (case hc => exact rfl))
  | with_reducible refine rv_test ?_
  | with_reducible refine rv_bl ?_
  | with_reducible refine rv_cb ?_
  | with_reducible refine rv_call ?_
  | with_reducible refine rv_tup ?_
  | with_reducible refine rv_lst ?_
  | with_reducible refine rv_tB ?_
  | with_reducible refine rv_or ?_
  | with_reducible refine rv_and ?_
  | with_reducible refine rv_not ?_
  | with_reducible refine rv_andV ?_
  | with_reducible refine rv_orV ?_
  | with_reducible refine rv_notV ?_
  | with_reducible refine rv_ifE ?_
  | with_reducible refine rs_drop ?_
  | with_reducible refine iteT ?_
  | with_reducible refine iteF ?_
  | with_reducible refine ro_nx ?_
  | with_reducible refine ro_rt ?_
  | with_reducible refine ro_ct ?_
  | with_reducible refine ro_bk ?_)
local macro_rules | `(tactic| walk_at "rd") => `(tactic| repeat walk_at "rd1")
local macro_rules | `(tactic| walk_at "side") => `(tactic| first
  | assumption
  | exact (show CPow _ _ from ⟨by decide, by decide, by decide⟩)
  | exact (show CMul _ _ from .inl ⟨by decide, by decide⟩)
  | exact (show CMul _ _ from .inr ⟨by decide, by decide⟩)
  | (show (0 : Int) < _; decide)
  | (show CMul _ _; first | exact .inl ⟨by omega, by omega⟩ | exact .inr ⟨by omega, by omega⟩)
  | omega)
local macro_rules | `(tactic| walk_at "rd1") => `(tactic| first
  | with_reducible refine rs_for ?_
  | with_reducible refine ri_zip ?_
  | with_reducible refine ri_list ?_
  | with_reducible refine ri_rng1 ?_
  | with_reducible refine rv_lc ?_
  | with_reducible refine rv_xfl ?_
  | with_reducible refine rs_par3 ?_
  | with_reducible refine rv_yes ?_
  | with_reducible refine rg_tup ?_
  | with_reducible refine rg_cons ?_
  | with_reducible refine rg_nil ?_)
local macro_rules | `(tactic| walk_at "rd1") => `(tactic| first
  | with_reducible refine ri_str ?_
  | with_reducible refine rv_sl ?_
  | with_reducible refine rv_part ?_
  | with_reducible refine rv_nopart ?_
  | with_reducible refine rv_callS ?_
  | with_reducible refine rv_chain ?_
  | with_reducible refine rv_leS ?_
  | with_reducible refine rv_inS ?_)
theorem while_m {c : TT} {tb : TS} {D : Ends} {σ : L2.St} {H : Hp} (Pv : Nat → L2.St → Hp → Prop) (m0 : Nat) (h0 : Pv m0 σ H)
    (hs : ∀ m σ H, Pv m σ H → c σ H fun b H1 => if b = true then ∃ N : L2.St → Hp → Prop, (∀ σ' H', N σ' H' → ∃ m', m' < m ∧ Pv m' σ' H') ∧ tb { D with nx := N, ct := N, bk := D.nx } σ H1 else D.nx σ H1) : tWhile c tb D σ H :=
  ⟨Pv, ⟨m0, h0⟩, hs⟩
def runL (t : List Nat) : Nat := (t.takeWhile isLF).length
theorem run_step {t : List Nat} {k c : Nat} (hc : t[k]? = some c) : runL (t.drop k) = if isLF c = true then 1 + runL (t.drop (k + 1)) else 0 := by
  have hk : k < t.length := (List.getElem?_eq_some_iff.mp hc).1
  have e : t.drop k = c :: t.drop (k + 1) := by
    rw [List.drop_eq_getElem_cons hk]
    congr 1
    exact Option.some.inj ((List.getElem?_eq_getElem hk).symm.trans hc)
  unfold runL
  rw [e, List.takeWhile_cons]
  by_cases h : isLF c = true
  · rw [if_pos h, if_pos h, List.length_cons]
    omega
  · rw [if_neg h, if_neg h]
    rfl
theorem run_end {t : List Nat} {k : Nat} (h : t.length ≤ k) : runL (t.drop k) = 0 := by
  rw [List.drop_of_length_le h]
  rfl
def spRunEnd : Sp := fun vs H Q _ => ∃ (t : List Nat) (k : Nat), vs = [.str (S t), .int (k : Int)] ∧ t.length ≤ 4000 ∧ k ≤ t.length ∧ Q (.int ((k + runL (t.drop k) : Nat) : Int)) H
theorem scRunEnd : FnScope ["text", "at"] ["text", "at"] (defScope sRunEnd) := ⟨rfl, rfl, rfl, by decide +kernel, rfl, by decide +kernel, by decide +kernel⟩
theorem ok_RunEnd {f fF : Addr} {fd dF : FuncData} (F : Fun K "run_end" "run_end" sRunEnd f fd) (mL : mg "len" = none) (FF : Fun K "is_letter_or_figure" "is_letter_or_figure" sLF fF dF) (gF : mg "is_letter_or_figure" = some (.ref fF)) (bF : L2.Binds K dF ["sign"] [])
    (GF : FnOk P w K mg base CX0 2 fF dF ["sign"] (spB isLF)) : FnOk P w K mg base CX0 3 f fd ["text", "at"] spRunEnd := by
  refine F.ok scRunEnd (fun vs H Q E h => ?_) (fun cdv A outer s H vs Q E hr h => ?_)
  · obtain ⟨t, k, rfl, _⟩ := h
    rfl
  · refine ⟨_, (pss_cons (ps_while PassesOwn.never (PW.pt (pw_and (pt_cmpR op_lt (pv 1) (pe_callB call_len_str (by rfl) mL PySem.boot_len (pa_cons (pv 0) pa_nil)) (nomark _)) (pw_and1 (pt_val (pe_call GF hr (by rfl) gF FF.kp bF .nil pass0 (pa_cons (pe_ix ix_str (pv 0) (pv 1) (fun _ _ => rfl)) pa_nil)))))) (pss_one (ps_aug (i := 1) scRunEnd.nd rfl (.inl rfl) pe_int ip_add)))
        (pss_one (ps_ret (pv 1)))), ?_⟩
    obtain ⟨t, k, rfl, hl, hk, q⟩ := h
    walk_at "rd"
    refine while_m (fun m σ H' => H' = H ∧ ∃ j : Nat, σ = [some (.str (S t)), some (.int (j : Int))] ∧ m = t.length - j ∧ j ≤ t.length ∧ j + runL (t.drop j) = k + runL (t.drop k)) _ ⟨rfl, k, rfl, rfl, hk, rfl⟩ ?_
    rintro m σ H' ⟨rfl, j, rfl, rfl, hj, ej⟩
    walk_at "rd"
    refine ⟨S t, rfl, len_le hl, ?_⟩
    rw [S_len]
    walk_at "rd"
    refine iteB (fun h1 => ?_) (fun h1 => ?_)
    · have hjl : j < t.length := by have := of_decide_eq_true h1; omega
      obtain ⟨c, hc⟩ : ∃ c, t[j]? = some c := ⟨t[j], List.getElem?_eq_getElem hjl⟩
      walk_at "rd"
      refine at_S hc (len_le hl) ?_
      walk_at "rd"
      refine ⟨c, rfl, ?_⟩
      refine ⟨_, rfl, iteB (fun h2 => ?_) (fun h2 => ?_)⟩
      · refine ⟨fun σ' H'' => H'' = H' ∧ σ' = [some (.str (S t)), some (.int ((j + 1 : Nat) : Int))], ?_, ?_⟩
        · rintro σ' H'' ⟨rfl, rfl⟩
          refine ⟨t.length - (j + 1), by omega, rfl, j + 1, rfl, rfl, hjl, ?_⟩
          rw [run_step hc, if_pos h2] at ej
          omega
        · exact ⟨_, rfl, _, _, rfl, rfl, rfl, rfl⟩
      · walk_at "rd"
        rw [run_step hc, h2, if_neg Bool.false_ne_true] at ej
        rw [← ej] at q
        exact q
    · have hjl : ¬ j < t.length := by have := of_decide_eq_false h1; omega
      walk_at "rd"
      rw [run_end (by omega)] at ej
      rw [← ej] at q
      exact q
end
end My

namespace My
open PySem PySem.Spec PyProof.Rows L2 XR SX
section
variable {P : Program} {w : World} {K : PySem.W.Frag} {mg : Str → Option Value} {base : Heap} {aK aL aS cT fT : Addr} {fdT : FuncData}
local macro_rules | `(tactic| walk_at "rd1") => `(tactic| first
  | with_reducible refine rs_seq ?_
  | with_reducible refine rs_asg ?_
  | with_reducible refine rs_ret ?_
  | with_reducible refine rs_if ?_
  | with_reducible refine rs_next ?_
  | with_reducible refine rg_name ?_
  | ((with_reducible refine rv_var (v := ?vv) ?hv ?_); (case hv => exact rfl))
  | with_reducible refine rv_c ?_
  | with_reducible refine rv_op ?_
  | with_reducible refine rv_cons ?_
  | with_reducible refine rv_nil ?_
  | with_reducible refine rv_rI0 ?_
  | ((with_reducible refine rv_rI ?hc ?_); (case hc => walk_at "side"))
  | ((with_reducible refine rv_eq ?hc ?_); (case hc => exact rfl))
  | ((with_reducible refine rv_ne ?hc ?_); (case hc => exact rfl))
  | with_reducible refine rv_test ?_
  | with_reducible refine rv_bl ?_
  | with_reducible refine rv_cb ?_
  | with_reducible refine rv_call ?_
  | with_reducible refine rv_tup ?_
  | with_reducible refine rv_lst ?_
  | with_reducible refine rv_tB ?_
  | with_reducible refine rv_or ?_
  | with_reducible refine rv_and ?_
  | with_reducible refine rv_not ?_
  | with_reducible refine rv_andV ?_
  | with_reducible refine rv_orV ?_
  | with_reducible refine rv_notV ?_
  | with_reducible refine rv_ifE ?_
  | with_reducible refine rs_drop ?_
  | with_reducible refine iteT ?_
  | with_reducible refine iteF ?_
  | with_reducible refine ro_nx ?_
  | with_reducible refine ro_rt ?_
  | with_reducible refine ro_ct ?_
  | with_reducible refine ro_bk ?_)
local macro_rules | `(tactic| walk_at "rd") => `(tactic| repeat walk_at "rd1")
local macro_rules | `(tactic| walk_at "side") => `(tactic| first
  | assumption
  | exact (show CPow _ _ from ⟨by decide, by decide, by decide⟩)
  | exact (show CMul _ _ from .inl ⟨by decide, by decide⟩)
  | exact (show CMul _ _ from .inr ⟨by decide, by decide⟩)
  | (show (0 : Int) < _; decide)
  | (show CMul _ _; first | exact .inl ⟨by omega, by omega⟩ | exact .inr ⟨by omega, by omega⟩)
  | omega)
local macro_rules | `(tactic| walk_at "rd1") => `(tactic| first
  | with_reducible refine rs_for ?_
  | with_reducible refine ri_zip ?_
  | with_reducible refine ri_list ?_
  | with_reducible refine ri_rng1 ?_
  | with_reducible refine rv_lc ?_
  | with_reducible refine rv_xfl ?_
  | with_reducible refine rs_par3 ?_
  | with_reducible refine rv_yes ?_
  | with_reducible refine rg_tup ?_
  | with_reducible refine rg_cons ?_
  | with_reducible refine rg_nil ?_)
local macro_rules | `(tactic| walk_at "rd1") => `(tactic| first
  | with_reducible refine ri_str ?_
  | with_reducible refine rv_sl ?_
  | with_reducible refine rv_part ?_
  | with_reducible refine rv_nopart ?_
  | with_reducible refine rv_callS ?_
  | with_reducible refine rv_chain ?_
  | with_reducible refine rv_leS ?_
  | with_reducible refine rv_inS ?_)
/-- __init__ of NoText: a new dict, not there before -/
def spN (C : Addr) : Sp := fun vs H Q _ => ∃ (a : Addr) (x : V), vs = [.ref a, x] ∧ H a = some (exo a C none) ∧
  ∀ H' dx, H dx = none → dx ≠ a → (∀ b o, b ≠ a → H b = some o → H' b = some o) → H' a = some (exo a C (some dx)) → H' dx = some (exd dx [("at", x)]) → Q .non H'
theorem ok_iText2 {f C : Addr} {fd : FuncData} {dvs : List V} (F : FunD K "__init__" "NoText.__init__" (defArgs iText) (defBody iText) (defScope iText) dvs [] f fd) (O : OexC K C) (n1 : PySem.W.findIn K (.ref C) "at" = some none) : FnOk P w K mg base CX0 1 f fd ["self", "at"] (spN C) := by
  refine F.ok scIText (fun vs H Q E h => ?_) (fun cdv A outer s H vs Q E hr h => ?_)
  · obtain ⟨a, x, rfl, _⟩ := h
    rfl
  · refine ⟨_, pss_one (ps_ost (pv 0) (pv 1)), ?_⟩
    obtain ⟨a, x, rfl, ha, q⟩ := h
    refine ⟨_, rfl, _, rfl, a, C, rfl, O, n1, .inl ⟨ha, fun dx nd ne => ?_⟩⟩
    refine q _ dx nd ne (fun b o hb z => ?_) upd_same ?_
    · rw [upd_ne hb, upd_ne (ne_of_none z nd)]
      exact z
    · rw [upd_ne ne, upd_same]
/-- what the written part says of NoText -/
structure TextC (K : PySem.W.Frag) (mg : Str → Option Value) (cT fT : Addr) (fdT : FuncData) : Prop where
  o : OexC K cT
  i : PySem.W.findIn K (.ref cT) "__init__" = some (some (.ref fT))
  t : PySem.W.typeIn K (.ref fT) = some (.type "function")
  F : FunD K "__init__" "NoText.__init__" (defArgs iText) (defBody iText) (defScope iText) [.int 0] [] fT fdT
  n : PySem.W.findIn K (.ref cT) "at" = some none
  g : mg "NoText" = some (.ref cT)
theorem no_in {H : Hp} {x : V} {cT : Addr} {Q : XK} (q : ∀ H' d, Same H H' → H' d = some (.xd [("at", x)]) → Q (.ref cT) (some d) H') :
    [x].length ≤ 1000 ∧ ∀ a, H a = none → spN cT (.ref a :: ([x] ++ [])) (upd H a (exo a cT none))
      (fun v H2 => v = .non ∧ ∃ (d : Addr) (fs : List (Str × V)), H2 a = some (exo a cT (some d)) ∧ H2 d = some (exd d fs) ∧ H d = none ∧ Q (.ref cT) (some d) (upd (del H2 a) d (.xd fs))) (fun _ _ _ => False) := by
  refine ⟨by show 1 ≤ 1000; decide, fun a ha => ⟨a, x, rfl, upd_same, fun H' dx hdx ne keep ea ed => ⟨rfl, dx, _, ea, ed, ?_, ?_⟩⟩⟩
  · rw [upd_ne ne] at hdx
    exact hdx
  · refine q _ dx (fun b o z => ?_) upd_same
    have hba : b ≠ a := fun e => by rw [e, ha] at z; cases z
    have hbd : b ≠ dx := fun e => by rw [upd_ne ne, ← e, z] at hdx; cases hdx
    rw [upd_ne hbd, del_ne hba]
    exact keep b o hba (by rw [upd_ne hba]; exact z)
def sortB (t : List Nat) : Option Str := if kept t = true then some "kept" else if nameB t = true then some "name" else if numB t = true then some "number" else none
def spSort (cT : Addr) : Sp := fun vs H Q E => ∃ (t : List Nat) (k : Nat), vs = [.str (S t), .int (k : Int)] ∧ t.length ≤ 4000 ∧ (∀ x, sortB t = some x → ∀ H', Same H H' → Q (.str x) H') ∧
  (sortB t = none → ∀ H' d, Same H H' → H' d = some (.xd [("at", .int (k : Int))]) → E (.ref cT) (some d) H')
def signB (u : List Nat) : Option Nat := if inV (.str (S (u.take 2))) (longL.map V.str) = true then some 2 else if inV (.str (S (u.take 1))) (shortL.map V.str) = true then some 1 else none
def spSign (cT : Addr) : Sp := fun vs H Q E => ∃ (t : List Nat) (k c : Nat), vs = [.str (S t), .int (k : Int)] ∧ t.length ≤ 4000 ∧ t[k]? = some c ∧ (∀ n, signB (t.drop k) = some n → ∀ H', Same H H' → Q (.int ((k + n : Nat) : Int)) H') ∧
  (signB (t.drop k) = none → ∀ H' d, Same H H' → H' d = some (.xd [("at", .int (k : Int))]) → E (.ref cT) (some d) H')
theorem take1 {t : List Nat} {k c : Nat} (h : t[k]? = some c) : (t.drop k).take 1 = [c] := by
  have hk : k < t.length := (List.getElem?_eq_some_iff.mp h).1
  rw [List.drop_eq_getElem_cons hk, List.take_succ_cons, List.take_zero]
  congr 1
  exact Option.some.inj ((List.getElem?_eq_getElem hk).symm.trans h)
theorem scSort : FnScope ["word", "at"] ["word", "at"] (defScope sSort) := ⟨rfl, rfl, rfl, by decide +kernel, rfl, by decide +kernel, by decide +kernel⟩
theorem scSign : FnScope ["text", "at"] ["text", "at"] (defScope sSign) := ⟨rfl, rfl, rfl, by decide +kernel, rfl, by decide +kernel, by decide +kernel⟩
theorem ok_Sort {f fN fU : Addr} {fd dN dU : FuncData} (F : Fun K "sort_of" "sort_of" sSort f fd) (T : Glo K mg aK aL aS) (C : TextC K mg cT fT fdT)
    (FN : Fun K "is_name" "is_name" sName fN dN) (gN : mg "is_name" = some (.ref fN)) (bN : L2.Binds K dN ["thing"] []) (GN : FnOk P w K mg base CX0 2 fN dN ["thing"] spName)
    (FU : Fun K "is_number" "is_number" sNumber fU dU) (gU : mg "is_number" = some (.ref fU)) (bU : L2.Binds K dU ["word"] []) (GU : FnOk P w K mg base CX0 3 fU dU ["word"] spNumber) : FnOk P w K mg base (L2.CX P w) 4 f fd ["word", "at"] (spSort cT) := by
  have GT : FnOk P w K mg base CX0 1 fT fdT ["self", "at"] (spN cT) := ok_iText2 C.F C.o C.n
  have bT1 := bText1 C.F
  refine F.okX scSort (fun vs H Q E h => ?_) (fun cdv A outer s H vs Q E hr h => ?_)
  · obtain ⟨t, k, rfl, _⟩ := h
    rfl
  · have hr2 := hr.mono (by decide : 2 ≤ 3)
    refine ⟨_, (pss_cons (ps_if (pt_cmpR op_in_seq (pv 0) (pe_glob (by rfl) T.gK (v := .ref aK) rfl) (by rfl)) (pss_one (ps_ret pe_str)) pss_nil)
        (pss_cons (ps_if (pt_val (pe_call GN hr2 (by rfl) gN FN.kp bN .nil pass0 (pa_cons (pv 0) pa_nil))) (pss_one (ps_ret pe_str)) pss_nil)
        (pss_cons (ps_if (pt_val (pe_call GU hr (by rfl) gU FU.kp bU .nil pass0 (pa_cons (pv 0) pa_nil))) (pss_one (ps_ret pe_str)) pss_nil)
        (pss_one (ps_raise rfl (takes_of rfl rfl rfl rfl) (pmk_oex C.o C.i C.t GT hr2 bT1 .nil pass0 (by rfl) C.g (pa_cons (pv 1) pa_nil))))))), ?_⟩
    obtain ⟨t, k, rfl, hl, q, e⟩ := h
    walk_at "rd"
    refine ⟨aK, _, rfl, .inr (T.sK H), rfl, (by decide +kernel), ?_⟩
    refine ⟨_, rfl, iteB (fun h1 => ?_) (fun h1 => ?_)⟩
    · have h1' : kept t = true := h1
      walk_at "rd"
      exact q _ (by unfold sortB; rw [if_pos h1']) H (Same.refl H)
    · have h1' : ¬ kept t = true := fun z => by
        have h1'' : kept t = false := h1
        rw [h1''] at z
        cases z
      walk_at "rd"
      refine ⟨t, rfl, hl, fun H1 s1 => ?_⟩
      refine ⟨_, rfl, iteB (fun h2 => ?_) (fun h2 => ?_)⟩
      · walk_at "rd"
        exact q _ (by unfold sortB; rw [if_neg h1', if_pos h2]) H1 s1
      · have h2' : ¬ nameB t = true := fun z => by rw [h2] at z; cases z
        walk_at "rd"
        refine ⟨t, rfl, hl, fun H2 s2 => ?_⟩
        refine ⟨_, rfl, iteB (fun h3 => ?_) (fun h3 => ?_)⟩
        · walk_at "rd"
          exact q _ (by unfold sortB; rw [if_neg h1', if_neg h2', if_pos h3]) H2 (s1.trans s2)
        · have h3' : ¬ numB t = true := fun z => by rw [h3] at z; cases z
          walk_at "rd"
          refine ⟨_, rfl, ?_⟩
          exact no_in fun H' d s3 hd => e (by unfold sortB; rw [if_neg h1', if_neg h2', if_neg h3']) H' d ((s1.trans s2).trans s3) hd
theorem ok_Sign {f : Addr} {fd : FuncData} (F : Fun K "sign_end" "sign_end" sSign f fd) (T : Glo K mg aK aL aS) (C : TextC K mg cT fT fdT) : FnOk P w K mg base (L2.CX P w) 3 f fd ["text", "at"] (spSign cT) := by
  have GT : FnOk P w K mg base CX0 1 fT fdT ["self", "at"] (spN cT) := ok_iText2 C.F C.o C.n
  have bT1 := bText1 C.F
  refine F.okX scSign (fun vs H Q E h => ?_) (fun cdv A outer s H vs Q E hr h => ?_)
  · obtain ⟨t, k, c, rfl, _⟩ := h
    rfl
  · refine ⟨_, (pss_cons (ps_if (pt_cmpR op_in_seq (pe_slice sl_str (pv 0) (po_some (pv 1)) (po_some (pe_op op_add (pv 1) pe_int))) (pe_glob (by rfl) T.gLo (v := .ref aL) rfl) (by rfl)) (pss_one (ps_ret (pe_op op_add (pv 1) pe_int))) pss_nil)
        (pss_cons (ps_if (pt_cmpR op_in_seq (pe_ix ix_str (pv 0) (pv 1) (fun _ _ => rfl)) (pe_glob (by rfl) T.gSh (v := .ref aS) rfl) (by rfl)) (pss_one (ps_ret (pe_op op_add (pv 1) pe_int))) pss_nil)
        (pss_one (ps_raise rfl (takes_of rfl rfl rfl rfl) (pmk_oex C.o C.i C.t GT hr bT1 .nil pass0 (by rfl) C.g (pa_cons (pv 1) pa_nil)))))), ?_⟩
    obtain ⟨t, k, c, rfl, hl, hc, q, e⟩ := h
    walk_at "rd"
    refine ⟨_, rfl, ?_⟩
    walk_at "rd"
    refine ⟨_, rfl, ?_⟩
    refine rv_cut (a := k) (b := k + 2) (len_le hl) ?_
    rw [show k + 2 - k = 2 by omega]
    walk_at "rd"
    refine ⟨aL, _, rfl, .inr (T.sLo H), rfl, (by decide +kernel), ?_⟩
    refine ⟨_, rfl, iteB (fun h1 => ?_) (fun h1 => ?_)⟩
    · have h1' : inV (.str (S ((t.drop k).take 2))) (longL.map V.str) = true := h1
      walk_at "rd"
      exact q 2 (by unfold signB; rw [if_pos h1']) H (Same.refl H)
    · have h1' : ¬ inV (.str (S ((t.drop k).take 2))) (longL.map V.str) = true := Bool.eq_false_iff.mp h1
      walk_at "rd"
      refine at_S hc (len_le hl) ?_
      walk_at "rd"
      refine ⟨aS, _, rfl, .inr (T.sSh H), rfl, (by decide +kernel), ?_⟩
      refine ⟨_, rfl, iteB (fun h2 => ?_) (fun h2 => ?_)⟩
      · have h2' : inV (.str (S ((t.drop k).take 1))) (shortL.map V.str) = true := by rw [take1 hc]; exact h2
        walk_at "rd"
        exact q 1 (by unfold signB; rw [if_neg h1', if_pos h2']) H (Same.refl H)
      · have h2' : ¬ inV (.str (S ((t.drop k).take 1))) (shortL.map V.str) = true := by rw [take1 hc]; exact Bool.eq_false_iff.mp h2
        walk_at "rd"
        refine ⟨_, rfl, ?_⟩
        exact no_in fun H' d s3 hd => e (by unfold signB; rw [if_neg h1', if_neg h2']) H' d s3 hd
end
end My

namespace My
open PySem PySem.Spec PyProof.Rows L2 XR SX
section
variable {P : Program} {w : World} {K : PySem.W.Frag} {mg : Str → Option Value} {base : Heap} {aK aL aS cT fT : Addr} {fdT : FuncData}
local macro_rules | `(tactic| walk_at "rd1") => `(tactic| first
  | with_reducible refine rs_seq ?_
  | with_reducible refine rs_asg ?_
  | with_reducible refine rs_ret ?_
  | with_reducible refine rs_if ?_
  | with_reducible refine rs_next ?_
  | with_reducible refine rg_name ?_
  | ((with_reducible refine rv_var (v := ?vv) ?hv ?_); (case hv => exact rfl))
  | with_reducible refine rv_c ?_
  | with_reducible refine rv_op ?_
  | with_reducible refine rv_cons ?_
  | with_reducible refine rv_nil ?_
  | with_reducible refine rv_rI0 ?_
  | ((with_reducible refine rv_rI ?hc ?_); (case hc => walk_at "side"))
  | ((with_reducible refine rv_eq ?hc ?_); (case hc => exact rfl))
  | ((with_reducible refine rv_ne ?hc ?_); (case hc => exact rfl))
  | with_reducible refine rv_test ?_
  | with_reducible refine rv_bl ?_
  | with_reducible refine rv_cb ?_
  | with_reducible refine rv_call ?_
  | with_reducible refine rv_tup ?_
  | with_reducible refine rv_lst ?_
  | with_reducible refine rv_tB ?_
  | with_reducible refine rv_or ?_
  | with_reducible refine rv_and ?_
  | with_reducible refine rv_not ?_
  | with_reducible refine rv_andV ?_
  | with_reducible refine rv_orV ?_
  | with_reducible refine rv_notV ?_
  | with_reducible refine rv_ifE ?_
  | with_reducible refine rs_drop ?_
  | with_reducible refine iteT ?_
  | with_reducible refine iteF ?_
  | with_reducible refine ro_nx ?_
  | with_reducible refine ro_rt ?_
  | with_reducible refine ro_ct ?_
  | with_reducible refine ro_bk ?_)
local macro_rules | `(tactic| walk_at "rd") => `(tactic| repeat walk_at "rd1")
local macro_rules | `(tactic| walk_at "side") => `(tactic| first
  | assumption
  | exact (show CPow _ _ from ⟨by decide, by decide, by decide⟩)
  | exact (show CMul _ _ from .inl ⟨by decide, by decide⟩)
  | exact (show CMul _ _ from .inr ⟨by decide, by decide⟩)
  | (show (0 : Int) < _; decide)
  | (show CMul _ _; first | exact .inl ⟨by omega, by omega⟩ | exact .inr ⟨by omega, by omega⟩)
  | omega)
local macro_rules | `(tactic| walk_at "rd1") => `(tactic| first
  | with_reducible refine rs_for ?_
  | with_reducible refine ri_zip ?_
  | with_reducible refine ri_list ?_
  | with_reducible refine ri_rng1 ?_
  | with_reducible refine rv_lc ?_
  | with_reducible refine rv_xfl ?_
  | with_reducible refine rs_par3 ?_
  | with_reducible refine rv_yes ?_
  | with_reducible refine rg_tup ?_
  | with_reducible refine rg_cons ?_
  | with_reducible refine rg_nil ?_)
local macro_rules | `(tactic| walk_at "rd1") => `(tactic| first
  | with_reducible refine ri_str ?_
  | with_reducible refine rv_sl ?_
  | with_reducible refine rv_part ?_
  | with_reducible refine rv_nopart ?_
  | with_reducible refine rv_callS ?_
  | with_reducible refine rv_chain ?_
  | with_reducible refine rv_leS ?_
  | with_reducible refine rv_inS ?_)
def blank (c : Nat) : Bool := decide (c ∈ [32, 10])
theorem blank_in (c : Nat) : inV (.str (S [c])) [.str " ", .str "\n"] = blank c := by
  have h1 : (.str " " : V) = .str (S [32]) := rfl
  have h2 : (.str "\n" : V) = .str (S [10]) := rfl
  rw [h1, h2]
  show ((S [32] == S [c]) || ((S [10] == S [c]) || false)) = _
  rw [S_beq_eq, S_beq_eq, Bool.or_false]
  unfold blank
  rw [Bool.eq_iff_iff]
  simp
  constructor
  · rintro (h | h)
    · exact .inl h.symm
    · exact .inr h.symm
  · rintro (h | h)
    · exact .inl h.symm
    · exact .inr h.symm
/-- a word that is told: its sort, its signs, where it begins -/
abbrev Ent := Str × List Nat × Nat
def entV (e : Ent) : List V := [.str e.1, .str (S e.2.1), .int (e.2.2 : Nat)]
def Ents (H : Hp) : List V → List Ent → Prop
  | [], [] => True
  | x :: xs, e :: es => (∃ p, x = .ref p ∧ H p = some (.tup (entV e))) ∧ Ents H xs es
  | _, _ => False
theorem Ents.keep {H H' : Hp} (k : ∀ b ys, H b = some (.tup ys) → H' b = some (.tup ys)) : ∀ {xs : List V} {es : List Ent}, Ents H xs es → Ents H' xs es
  | [], [], _ => True.intro
  | _ :: _, _ :: _, ⟨⟨p, e, h⟩, r⟩ => ⟨⟨p, e, k _ _ h⟩, Ents.keep k r⟩
theorem Ents.snoc {H : Hp} {p : Addr} {e : Ent} (hp : H p = some (.tup (entV e))) : ∀ {xs : List V} {es : List Ent}, Ents H xs es → Ents H (xs ++ [.ref p]) (es ++ [e])
  | [], [], _ => ⟨⟨p, rfl, hp⟩, True.intro⟩
  | _ :: _, _ :: _, ⟨a, r⟩ => ⟨a, Ents.snoc hp r⟩
theorem Ents.len {H : Hp} : ∀ {xs : List V} {es : List Ent}, Ents H xs es → xs.length = es.length
  | [], [], _ => rfl
  | _ :: _, _ :: _, ⟨_, r⟩ => congrArg (· + 1) (Ents.len r)
/-- the words of a text from a place on, by a function that reads one; where it reads none -/
inductive Scan (f : List Nat → Option (Str × Nat)) (t : List Nat) : Nat → List Ent → Option Nat → Prop
  | stop {k : Nat} : k = t.length → Scan f t k [] none
  | blank {k c : Nat} {es : List Ent} {z : Option Nat} : t[k]? = some c → blank c = true → Scan f t (k + 1) es z → Scan f t k es z
  | bad {k c : Nat} : t[k]? = some c → blank c = false → f (t.drop k) = none → Scan f t k [] (some k)
  | word {k c m : Nat} {s : Str} {es : List Ent} {z : Option Nat} : t[k]? = some c → blank c = false → f (t.drop k) = some (s, m) → 0 < m → k + m ≤ t.length → Scan f t (k + m) es z → Scan f t k ((s, (t.drop k).take m, k) :: es) z
def stepP (u : List Nat) : Option (Str × Nat) :=
  if isLF (u.headD 0) = true then (sortB (u.take (runL u))).map fun s => (s, runL u) else (signB u).map fun n => (("sign" : Str), n)
def spWords (cT : Addr) : Sp := fun vs H Q E => ∃ (t : List Nat) (es : List Ent) (z : Option Nat), vs = [.str (S t)] ∧ t.length ≤ 4000 ∧ Scan stepP t 0 es z ∧
  (z = none → ∀ H' a xs, Same H H' → H a = none → H' a = some (.lst xs) → Ents H' xs es → Q (.ref a) H') ∧
  (∀ k, z = some k → ∀ H' d, Same H H' → H' d = some (.xd [("at", .int (k : Nat))]) → E (.ref cT) (some d) H')
theorem headD_drop {t : List Nat} {k c : Nat} (h : t[k]? = some c) : (t.drop k).headD 0 = c := by
  have e := take1 h
  cases q : t.drop k with
  | nil => rw [q] at e; cases e
  | cons a r => rw [q] at e; exact (List.cons.inj e).1
theorem scWords : FnScope ["text", "told", "at", "end", "sort"] ["text"] (defScope sWords) := ⟨rfl, rfl, rfl, by decide +kernel, rfl, by decide +kernel, by decide +kernel⟩
theorem ok_Words {f fF fR fS fG : Addr} {fd dF dR dS dG : FuncData} (F : Fun K "words" "words" sWords f fd) (T : Glo K mg aK aL aS)
    (FF : Fun K "is_letter_or_figure" "is_letter_or_figure" sLF fF dF) (gF : mg "is_letter_or_figure" = some (.ref fF)) (bF : L2.Binds K dF ["sign"] []) (GF : FnOk P w K mg base CX0 2 fF dF ["sign"] (spB isLF))
    (FR : Fun K "run_end" "run_end" sRunEnd fR dR) (gR : mg "run_end" = some (.ref fR)) (bR : L2.Binds K dR ["text", "at"] []) (GR : FnOk P w K mg base CX0 3 fR dR ["text", "at"] spRunEnd)
    (FS : Fun K "sort_of" "sort_of" sSort fS dS) (gS : mg "sort_of" = some (.ref fS)) (bS : L2.Binds K dS ["word", "at"] []) (GS : FnOk P w K mg base (L2.CX P w) 4 fS dS ["word", "at"] (spSort cT))
    (FG : Fun K "sign_end" "sign_end" sSign fG dG) (gG : mg "sign_end" = some (.ref fG)) (bG : L2.Binds K dG ["text", "at"] []) (GG : FnOk P w K mg base (L2.CX P w) 3 fG dG ["text", "at"] (spSign cT)) :
    FnOk P w K mg base (L2.CX P w) 5 f fd ["text"] (spWords cT) := by
  refine F.okX scWords (fun vs H Q E h => ?_) (fun cdv A outer s H vs Q E hr h => ?_)
  · obtain ⟨t, es, z, rfl, _⟩ := h
    rfl
  · have hr2 := hr.mono (by decide : 2 ≤ 4)
    have hr3 := hr.mono (by decide : 3 ≤ 4)
    have tk : Takes (cxOf (L2.CX P w) P w K mg base ["text", "told", "at", "end", "sort"] "words" (defScope sWords) f cdv A outer s H E) (fun cls d _ H' => E cls d H') := takes_of rfl rfl rfl rfl
    refine ⟨_, (pss_cons (ps_set (i := 1) scWords.nd rfl (.inl rfl) (pe_lst pa_nil))
        (pss_cons (ps_set (i := 2) scWords.nd rfl (.inl rfl) pe_int)
        (pss_cons (ps_while (passes_of rfl) (pt_cmpR op_lt (pv 2) (pe_callB call_len_str (by rfl) T.mL PySem.boot_len (pa_cons (pv 0) pa_nil)) (nomark _)) (pss_cons (ps_if (pt_cmpR op_in_seq (pe_ix ix_str (pv 0) (pv 2) (fun _ _ => rfl)) (pe_tup (pa_cons pe_str (pa_cons pe_str pa_nil))) (by rfl)) (pss_cons (ps_aug (i := 2) scWords.nd rfl (.inl rfl) pe_int ip_add)
        (pss_one ps_continue)) pss_nil)
        (pss_cons (ps_if (pt_val (pe_call GF hr2 (by rfl) gF FF.kp bF .nil pass0 (pa_cons (pe_ix ix_str (pv 0) (pv 2) (fun _ _ => rfl)) pa_nil))) (pss_cons (ps_set (i := 3) scWords.nd rfl (.inl rfl) (pe_call GR hr3 (by rfl) gR FR.kp bR .nil pass0 (pa_cons (pv 0) (pa_cons (pv 2) pa_nil))))
        (pss_one (ps_set (i := 4) scWords.nd rfl (.inl rfl) (pe_callS GS hr (by rfl) gS FS.kp bS (fun σ => passAt tk σ) (pa_cons (pe_slice sl_str (pv 0) (po_some (pv 2)) (po_some (pv 3))) (pa_cons (pv 2) pa_nil)))))) (pss_cons (ps_set (i := 3) scWords.nd rfl (.inl rfl) (pe_callS GG hr3 (by rfl) gG FG.kp bG (fun σ => passAt tk σ) (pa_cons (pv 0) (pa_cons (pv 2) pa_nil))))
        (pss_one (ps_set (i := 4) scWords.nd rfl (.inl rfl) pe_str))))
        (pss_cons (ps_expr (pe_bm PySem.F.plainAttrs_list PySem.F.slot_list_append PySem.F.type_list_append mt_append (pv 1) (pa_cons (pe_tup (pa_cons (pv 4) (pa_cons (pe_slice sl_str (pv 0) (po_some (pv 2)) (po_some (pv 3))) (pa_cons (pv 2) pa_nil)))) pa_nil)))
        (pss_one (ps_set (i := 2) scWords.nd rfl (.inl rfl) (pv 3)))))))
        (pss_one (ps_ret (pv 1)))))), ?_⟩
    obtain ⟨t, es, z, rfl, hl, hs, q, e⟩ := h
    walk_at "rd"
    refine ⟨by decide, fun a ha => ?_⟩
    walk_at "rd"
    refine while_m (fun m σ H' => ∃ (k : Nat) (o3 o4 : Option V) (xs : List V) (e0 e1 : List Ent), σ = [some (.str (S t)), some (.ref a), some (.int (k : Int)), o3, o4] ∧ m = t.length - k ∧ k ≤ t.length ∧ Same H H' ∧ H' a = some (.lst xs) ∧ Ents H' xs e0 ∧ e0.length ≤ k ∧ es = e0 ++ e1 ∧ Scan stepP t k e1 z) t.length
      ⟨0, none, none, [], [], es, rfl, rfl, Nat.zero_le _, same_upd ha, upd_same, True.intro, Nat.le_refl _, rfl, hs⟩ ?_
    rintro m σ H' ⟨k, o3, o4, xs, e0, e1, rfl, rfl, hk, sm, hd, en, hle, rfl, hk1⟩
    walk_at "rd"
    refine ⟨S t, rfl, len_le hl, ?_⟩
    rw [S_len]
    walk_at "rd"
    refine iteB (fun h1 => ?_) (fun h1 => ?_)
    · have hkl : k < t.length := by have := of_decide_eq_true h1; omega
      obtain ⟨c, hc⟩ : ∃ c, t[k]? = some c := ⟨t[k], List.getElem?_eq_getElem hkl⟩
      refine ⟨fun σ' H'' => ∃ m', m' < t.length - k ∧ ∃ (k' : Nat) (o3 o4 : Option V) (xs : List V) (f0 f1 : List Ent), σ' = [some (.str (S t)), some (.ref a), some (.int (k' : Int)), o3, o4] ∧ m' = t.length - k' ∧ k' ≤ t.length ∧ Same H H'' ∧ H'' a = some (.lst xs) ∧ Ents H'' xs f0 ∧ f0.length ≤ k' ∧ e0 ++ e1 = f0 ++ f1 ∧ Scan stepP t k' f1 z, fun σ' H'' h => h, ?_⟩
      walk_at "rd"
      refine at_S hc (len_le hl) ?_
      walk_at "rd"
      refine ⟨(by show 2 ≤ sizeLine; decide), fun p hp => ?_⟩
      have sp := same_upd (o := .tup [.str " ", .str "\n"]) hp
      refine ⟨p, _, rfl, .inr (.inl (.inl upd_same)), rfl, rfl, ?_⟩
      rw [blank_in]
      refine ⟨_, rfl, iteB (fun h2 => ?_) (fun h2 => ?_)⟩
      · have h2p : blank c = true := h2
        cases hk1 with
        | stop h => omega
        | bad g1 g2 g3 => rw [hc] at g1; cases g1; rw [h2p] at g2; cases g2
        | word g1 g2 g3 g4 g5 g6 => rw [hc] at g1; cases g1; rw [h2p] at g2; cases g2
        | blank g1 g2 g3 =>
          refine ⟨_, rfl, _, _, rfl, rfl, ?_⟩
          refine ⟨t.length - (k + 1), by omega, k + 1, o3, o4, xs, e0, e1, rfl, rfl, hkl, sm.trans sp, sp _ _ hd, en.keep (fun b ys z => sp _ _ z), by omega, rfl, g3⟩
      · have h2' : blank c = false := h2
        walk_at "rd"
        refine at_S hc (len_le hl) ?_
        walk_at "rd"
        refine ⟨c, rfl, ?_⟩
        refine ⟨_, rfl, iteB (fun h3 => ?_) (fun h3 => ?_)⟩
        · have rs : stepP (t.drop k) = (sortB ((t.drop k).take (runL (t.drop k)))).map fun s => (s, runL (t.drop k)) := by
            unfold stepP
            rw [headD_drop hc, if_pos h3]
          have hrun : 0 < runL (t.drop k) := by rw [run_step hc, if_pos h3]; omega
          have hrl : k + runL (t.drop k) ≤ t.length := by
            have : runL (t.drop k) ≤ (t.drop k).length := by unfold runL; exact (List.takeWhile_prefix _).length_le
            rw [List.length_drop] at this
            omega
          walk_at "rd"
          refine ⟨t, k, rfl, hl, hk, ?_⟩
          walk_at "rd"
          refine ⟨_, rfl, ?_⟩
          walk_at "rd"
          refine ⟨_, rfl, ?_⟩
          refine rv_cut (a := k) (b := k + runL (t.drop k)) (len_le hl) ?_
          rw [show k + runL (t.drop k) - k = runL (t.drop k) by omega]
          walk_at "rd"
          refine ⟨_, k, rfl, (by rw [List.length_take, List.length_drop]; omega), fun x hx H3 s3 => ?_, fun hx H3 d s3 hd3 => ?_⟩
          · rw [hx] at rs
            have sm3 := (sm.trans sp).trans s3
            have hd3 : H3 a = some (.lst xs) := s3 _ _ (sp _ _ hd)
            have en3 : Ents H3 xs e0 := en.keep (fun b ys z => s3 _ _ (sp _ _ z))
            have hw : ∃ es', e1 = (x, (t.drop k).take (runL (t.drop k)), k) :: es' ∧ Scan stepP t (k + (runL (t.drop k))) es' z ∧ 0 < runL (t.drop k) ∧ k + (runL (t.drop k)) ≤ t.length := by
              cases hk1 with
              | stop h => omega
              | blank g1 g2 g3 => rw [hc] at g1; cases g1; rw [h2'] at g2; cases g2
              | bad g1 g2 g3 => rw [rs] at g3; cases g3
              | word g1 g2 g3 g4 g5 g6 =>
                rw [rs] at g3
                cases g3
                exact ⟨_, rfl, g6, g4, g5⟩
            obtain ⟨es', rfl, hsc, hm0, hml⟩ := hw
            walk_at "rd"
            refine rv_app rfl hd3 ?_
            walk_at "rd"
            refine ⟨_, rfl, ?_⟩
            walk_at "rd"
            refine ⟨_, rfl, ?_⟩
            refine rv_cut (a := k) (b := k + (runL (t.drop k))) (len_le hl) ?_
            rw [show k + (runL (t.drop k)) - k = runL (t.drop k) by omega]
            walk_at "rd"
            refine ⟨(by show 3 ≤ sizeLine; decide), fun p3 hp3 => ?_⟩
            have s4 := same_upd (o := .tup [.str x, .str (S ((t.drop k).take (runL (t.drop k)))), .int (k : Int)]) hp3
            refine ⟨xs, _, rfl, s4 _ _ hd3, ?_, ?_⟩
            · rw [en3.len]
              exact Nat.lt_of_le_of_lt (Nat.le_trans hle hk) (Nat.lt_of_le_of_lt hl (by rw [sizeLine_eq]; decide))
            walk_at "rd"
            have k4 : ∀ b ys, H3 b = some (.tup ys) → (upd (upd H3 p3 (.tup [.str x, .str (S ((t.drop k).take (runL (t.drop k)))), .int (k : Int)])) a (.lst (xs ++ [.ref p3]))) b = some (.tup ys) := fun b ys z => by
              rw [upd_ne (fun e => by rw [e, hd3] at z; cases z)]
              exact s4 _ _ z
            refine ⟨t.length - (k + (runL (t.drop k))), by omega, k + (runL (t.drop k)), _, _, xs ++ [.ref p3], e0 ++ [(x, (t.drop k).take (runL (t.drop k)), k)], es', rfl, rfl, hml, ?_, upd_same, ?_, ?_, ?_, hsc⟩
            · refine fun b o z => ?_
              rw [upd_ne (fun e => by rw [e, ha] at z; cases z)]
              exact s4 _ _ (sm3 _ _ z)
            · refine Ents.snoc ?_ (en3.keep k4)
              rw [upd_ne (fun e => by rw [e, hd3] at hp3; cases hp3), upd_same]
              rfl
            · rw [List.length_append]
              show e0.length + 1 ≤ _
              omega
            · rw [List.append_assoc]
              rfl
          · rw [hx] at rs
            have zk : z = some k := by
              cases hk1 with
              | stop h => omega
              | blank g1 g2 g3 => rw [hc] at g1; cases g1; rw [h2'] at g2; cases g2
              | word g1 g2 g3 g4 g5 g6 => rw [rs] at g3; cases g3
              | bad g1 g2 g3 => rfl
            exact e k zk H3 d ((sm.trans sp).trans s3) hd3
        · have rs : stepP (t.drop k) = (signB (t.drop k)).map fun n => (("sign" : Str), n) := by
            unfold stepP
            rw [headD_drop hc, h3, if_neg Bool.false_ne_true]
          walk_at "rd"
          refine ⟨t, k, c, rfl, hl, hc, fun n hx H3 s3 => ?_, fun hx H3 d s3 hd3 => ?_⟩
          · rw [hx] at rs
            walk_at "rd"
            have sm3 := (sm.trans sp).trans s3
            have hd3 : H3 a = some (.lst xs) := s3 _ _ (sp _ _ hd)
            have en3 : Ents H3 xs e0 := en.keep (fun b ys z => s3 _ _ (sp _ _ z))
            have hw : ∃ es', e1 = (("sign" : Str), (t.drop k).take (n), k) :: es' ∧ Scan stepP t (k + (n)) es' z ∧ 0 < n ∧ k + (n) ≤ t.length := by
              cases hk1 with
              | stop h => omega
              | blank g1 g2 g3 => rw [hc] at g1; cases g1; rw [h2'] at g2; cases g2
              | bad g1 g2 g3 => rw [rs] at g3; cases g3
              | word g1 g2 g3 g4 g5 g6 =>
                rw [rs] at g3
                cases g3
                exact ⟨_, rfl, g6, g4, g5⟩
            obtain ⟨es', rfl, hsc, hm0, hml⟩ := hw
            walk_at "rd"
            refine rv_app rfl hd3 ?_
            walk_at "rd"
            refine ⟨_, rfl, ?_⟩
            walk_at "rd"
            refine ⟨_, rfl, ?_⟩
            refine rv_cut (a := k) (b := k + (n)) (len_le hl) ?_
            rw [show k + (n) - k = n by omega]
            walk_at "rd"
            refine ⟨(by show 3 ≤ sizeLine; decide), fun p3 hp3 => ?_⟩
            have s4 := same_upd (o := .tup [.str "sign", .str (S ((t.drop k).take (n))), .int (k : Int)]) hp3
            refine ⟨xs, _, rfl, s4 _ _ hd3, ?_, ?_⟩
            · rw [en3.len]
              exact Nat.lt_of_le_of_lt (Nat.le_trans hle hk) (Nat.lt_of_le_of_lt hl (by rw [sizeLine_eq]; decide))
            walk_at "rd"
            have k4 : ∀ b ys, H3 b = some (.tup ys) → (upd (upd H3 p3 (.tup [.str "sign", .str (S ((t.drop k).take (n))), .int (k : Int)])) a (.lst (xs ++ [.ref p3]))) b = some (.tup ys) := fun b ys z => by
              rw [upd_ne (fun e => by rw [e, hd3] at z; cases z)]
              exact s4 _ _ z
            refine ⟨t.length - (k + (n)), by omega, k + (n), _, _, xs ++ [.ref p3], e0 ++ [(("sign" : Str), (t.drop k).take (n), k)], es', rfl, rfl, hml, ?_, upd_same, ?_, ?_, ?_, hsc⟩
            · refine fun b o z => ?_
              rw [upd_ne (fun e => by rw [e, ha] at z; cases z)]
              exact s4 _ _ (sm3 _ _ z)
            · refine Ents.snoc ?_ (en3.keep k4)
              rw [upd_ne (fun e => by rw [e, hd3] at hp3; cases hp3), upd_same]
              rfl
            · rw [List.length_append]
              show e0.length + 1 ≤ _
              omega
            · rw [List.append_assoc]
              rfl
          · rw [hx] at rs
            have zk : z = some k := by
              cases hk1 with
              | stop h => omega
              | blank g1 g2 g3 => rw [hc] at g1; cases g1; rw [h2'] at g2; cases g2
              | word g1 g2 g3 g4 g5 g6 => rw [rs] at g3; cases g3
              | bad g1 g2 g3 => rfl
            exact e k zk H3 d ((sm.trans sp).trans s3) hd3
    · have hkl : k = t.length := by have := of_decide_eq_false h1; omega
      walk_at "rd"
      cases hk1 with
      | stop h => exact q rfl H' a xs sm ha hd (by rw [List.append_nil]; exact en)
      | blank g1 g2 g3 => rw [hkl, List.getElem?_eq_none (Nat.le_refl _)] at g1; cases g1
      | word g1 g2 g3 g4 g5 g6 => rw [hkl, List.getElem?_eq_none (Nat.le_refl _)] at g1; cases g1
      | bad g1 g2 g3 => rw [hkl, List.getElem?_eq_none (Nat.le_refl _)] at g1; cases g1
end
end My

namespace XR
open PySem PySem.Spec PyProof.Rows L2
/-- an exception's object, whatever its fields -/
def exl (a : Addr) (C : Addr) (d : Option Addr) : HO := .ext fun h => ∃ (oe : Obj) (vs : Array Value), h.get? a = some oe ∧ oe.cls = .ref C ∧ oe.dict = d ∧ oe.data = .fields vs
theorem exAt_exl {H : Hp} {a C : Addr} {d : Option Addr} (h : H a = some (exl a C d)) : ExAt H a C d := ⟨_, h, fun _ z => z⟩
theorem exl_ok {P : Program} {w : World} {H : Hp} {h : Heap} {a C : Addr} {d : Option Addr} {oe : Obj} {vs : Array Value} (e : h.get? a = some oe) (c : oe.cls = .ref C) (dd : oe.dict = d) (t : oe.data = .fields vs) : ObjOk P w H h a (exl a C d) :=
  ⟨⟨oe, vs, e, c, dd, t⟩, ⟨oe, e⟩, fun _ _ ⟨o, v, q, r⟩ k => ⟨o, v, k o q, r⟩⟩
section
variable {X : Cx} {pins : List (Addr × Obj)} {σ : L2.St} {H : Hp} {s : Shared}
/-- an object that stands in no abstract heap and was not there at the entry is tracked from now on -/
theorem Inv.track {a : Addr} {o : HO} (I : Inv X pins σ H s) (na : H a = none) (n0 : X.s_0.heap.get? a = none) (nL : a ≠ X.env.locals) (nC : ∀ x c, X.env.cells.lookup x = some c → c ≠ a) (nP : ∀ p ∈ X.pn ++ pins, p.1 ≠ a)
    (new : ObjOk X.prog X.w (upd H a o) s.heap a o) : Inv X pins σ (upd H a o) s := by
  have ne0 : ∀ b o, X.s_0.heap.get? b = some o → b ≠ a := fun b o e z => by
    rw [z, n0] at e
    cases e
  have neN : ∀ b u, H b = some u → b ≠ a := fun b u e z => by
    rw [z, na] at e
    cases e
  refine ⟨I.ok, I.os, I.bare, ⟨I.base.keep, I.base.slot, fun b o e n hq => ?_, I.base.there, fun b xs e => ?_, fun b o u e => ?_, fun b ps e => ?_⟩, I.loc, I.cell, ?_, fun x c e => ?_, fun p hp => ?_, fun b u e => ?_, I.len⟩
  · rw [upd_ne (ne0 b o e)]
    exact I.base.free b o e n hq
  · have q := I.base.tups b xs e
    rw [upd_ne (neN b _ q)]
    exact q
  · have q := I.base.frzs b o u e
    rw [upd_ne (neN b _ q)]
    exact q
  · obtain ⟨m, q⟩ := I.base.tbls b ps e
    exact ⟨m, by rw [upd_ne (neN b _ q)]; exact q⟩
  · rw [upd_ne (Ne.symm nL)]
    exact I.free
  · rw [upd_ne (nC x c e)]
    exact I.freeC x c e
  · obtain ⟨e, n, ne, nf, d⟩ := I.pin p hp
    exact ⟨e, by rw [upd_ne (nP p hp)]; exact n, ne, nf, d⟩
  · by_cases hb : b = a
    · subst hb
      rw [upd_same] at e
      cases e
      exact new
    · rw [upd_ne hb] at e
      exact (I.hok b u e).stay (fun c v _ q => q) (fun c q => by rw [upd_ne (neN c _ q)]; exact q) fun c xs q => by rw [upd_ne (neN c _ q)]; exact q
end
/-- what the clause 'except x as n: m = n' wishes of an exception of the body: slot i is n's, slot j m's; the exception's object is tracked behind it -/
def wKeep (K : PySem.W.Frag) (c : Value) (i j : Nat) (Wout : WX) (D : Ends) : WX := fun cls d σ H =>
  ∃ b, PySem.W.exmOne K cls c = some b ∧ (b = true → ∃ C, cls = .ref C ∧ ∀ a, H a = none → D.nx (((σ.set i (some (.ref a))).set j (some (.ref a))).set i none) (upd H a (exl a C d))) ∧ (b = false → Wout cls d σ H)
section
variable {X : Cx} {x n m : Str} {c : Value} {i j : Nat} {body : List Stmt} {np pos pos' mp np2 ap : Pos} {tb : WX → TS} {Wout : WX}
theorem ps_try_keep (hs : X.stack = X.env :: X.outer) (hf : X.env.frame = some X.env.locals) (hN : X.N.Nodup) (hi : X.N[i]? = some n) (hj : X.N[j]? = some m) (hij : i ≠ j) (hln : X.env.kindOf n = some .local) (hlm : X.env.kindOf m = some .local) (hx : X.ex = []) (hc : Names X x c) (tk : Takes X Wout)
    (hb : ∀ (W : WX) (pn : List (Addr × Obj)) (xe : Value → Shared → Prop), Takes (X.tr pn xe) W → PassesOwn (model X.prog X.w) X.A X.env xe → PSs (X.tr pn xe) body (tb W))
    (hpn : X.pn = [])
    (hsu : ∀ (a : Addr) (oe : Obj) (pn : List (Addr × Obj)), PSs (X.suite a ((a, oe) :: pn)) [.Assign [.Name m mp] (.Name n np2) ap] (tAsg (tVar i) (gName j))) :
    PS X (.Try body [.ExceptHandler (some (.Name x np)) (some n) [.Assign [.Name m mp] (.Name n np2) ap] pos'] [] [] pos) (fun D σ H => tb (wKeep X.K c i j Wout D) D σ H) := by
  refine ⟨fun pins s σ H D I h => ?_⟩
  have ok := I.ok
  have hfr : X.A.frames = some (X.env :: X.outer) := by rw [ok.frames, hs]
  have hloc : Loc X.env.scope n := .inl hln
  refine wpAny_Try_except ?_
  refine wpAny_mono ((hb (wKeep X.K c i j Wout D) (X.pn ++ pins) (fun e s₁ => wpAny (model X.prog X.w) X.A (noteFrame e X.env) (fun _ s₂ => wpAny (model X.prog X.w) X.A (setFlight e none) (fun _ s₃ =>
    wpAny (model X.prog X.w) X.A (handleBy e X.env [.ExceptHandler (some (.Name x np)) (some n) [.Assign [.Name m mp] (.Name n np2) ap] pos']) (SP X pins D) X.xe s₃) X.xe s₂) X.xe s₁) (fun u s' xx => ?_) PassesOwn.looking).run [] s σ H D (I.toTry _) h) (fun f s1 hsp => ?_) (fun e s1 he => he)
  · -- the catch
    obtain ⟨a, B, sI, pins', σ', H', cls, d, rfl, J', nb, up, sky, na, os, ag, b, hb1, hyes, hno⟩ := xx
    have J : Inv X pins σ' H' sI := J'.ofTry ok
    have sky' : Sky B (X.env :: X.outer) a (Zc cls d) X.env.locals s'.heap := by rw [← hs]; exact sky
    show wpAny (model X.prog X.w) X.A (noteFrame (.ref a) X.env) _ _ _
    refine Sky.land Zc.steady hfr hf sky' fun h3 fl3 up3 => ?_
    have J3 : Inv X pins σ' H' { s' with heap := h3 } := J.landed nb fl3.1 (up.trans up3) os ag
    obtain ⟨oe3, vs3, he3, hz3, hd3⟩ := fl3.there
    have notFr : ∀ {h : Heap} {o : Obj} {vs : Array Value}, h.FunFrames B (X.env :: X.outer) → h.get? a = some o → o.data = .fields vs → a ∉ frs (X.env :: X.outer) := fun {h o vs} ff e dd hm => by
      obtain ⟨_, o', e', hnf⟩ := ff.mem hm
      rw [e] at e'; cases e'
      exact hnf _ dd
    have nfr := notFr fl3.2.2.1 he3 hd3
    have nL : a ≠ X.env.locals := fun z => nfr (List.mem_filterMap.mpr ⟨X.env, List.mem_cons_self, by rw [hf, z]⟩)
    have nF : a ∉ X.fs := fun hm => by
      obtain ⟨e, he, q⟩ := List.mem_filterMap.mp hm
      exact nfr (List.mem_filterMap.mpr ⟨e, List.mem_cons_of_mem _ he, q⟩)
    have nI : sI.heap.get? a = none := by
      cases q : sI.heap.get? a with
      | none => rfl
      | some o =>
        have z := nb a o q (by rw [hs]; exact nfr)
        rw [fl3.2.1] at z
        cases z
    have n0 : X.s_0.heap.get? a = none := by
      cases q : X.s_0.heap.get? a with
      | none => rfl
      | some o =>
        obtain ⟨o', z⟩ := J.base.there a o q (by rw [hx]; exact fun z => nomatch z)
        rw [nI] at z
        cases z
    have nP : ∀ p ∈ X.pn ++ pins, p.1 ≠ a := fun p hp z => by
      have q := (J.pin p hp).1
      rw [z, nI] at q
      cases q
    have S3 := J3.suite he3 hd3 na nL nF
    refine wpAny_handleBy_cons (codeAny_handlers_test ?_) (by intro q; cases q)
    have LT : PySem.W.Looks (model X.prog X.w) h3 (typeOf (.ref a)) cls := fun A Q E s k q => wpAny_typeOf_ref (k _ _ he3) (by rw [hz3.1]; exact q)
    have LM := PySem.W.exm_one (M := model X.prog X.w) (J3.kIn) LT hb1
    have test : ∀ {Q : Value → Shared → Prop} {E : Value → Shared → Prop}, Q c { s' with heap := h3 } → wpAny (model X.prog X.w) (X.A.mark (some (.ref a))) (eval (.Name x np) X.env) Q E { s' with heap := h3 } := fun {Q E} q => by
      obtain ⟨hg, hdbg, hm | ⟨hm, hv, hnn⟩⟩ := hc
      · exact ld_glob (X := X.suite a ((a, oe3) :: (X.pn ++ pins))) S3 hg hm q hdbg
      · exact ld_blt (X := X.suite a ((a, oe3) :: (X.pn ++ pins))) S3 hg hm hv q hnn hdbg
    refine test (LM.here ?_)
    cases b with
    | true =>
      obtain ⟨C, ec, hy2⟩ := hyes rfl
      subst ec
      refine codeAny_handlers_suite_as ?_
      refine HandSPX.lands_againZ fl3 fun h4 fl4 up4 => ?_
      have J4 : Inv X pins σ' H' { s' with heap := h4 } := J.landed nb fl4.1 ((up.trans up3).trans up4) os ag
      obtain ⟨oe4, vs4, he4, hz4, hd4⟩ := fl4.there
      have S4 := J4.suite he4 hd4 na nL nF
      refine store_ok (X := X.suite a ((a, oe4) :: (X.pn ++ pins))) (v := .ref a) S4 hN hi hloc rfl (fun s5 S5 => ?_) (.inr hln)
      have hlen : i < σ'.length := by
        rw [J.len]
        exact (List.getElem?_eq_some_iff.mp hi).1
      refine wpAny_mono ((hsu a oe4 (X.pn ++ pins)).run [] s5 _ H' { nx := fun σ6 H6 => σ6 = (σ'.set i (some (.ref a))).set j (some (.ref a)) ∧ H6 = H', rt := fun _ _ => False } S5 ⟨_, List.getElem?_set_self hlen, rfl, rfl⟩) (fun f s6 hsp => ?_) (fun _ _ z => False.elim z)
      cases f with
      | next =>
        obtain ⟨σ6, H6, S6, rfl, rfl⟩ := hsp
        have U : Inv X ((a, oe4) :: pins) ((σ'.set i (some (.ref a))).set j (some (.ref a))) H6 s6 :=
          ⟨ok, S6.os, S6.bare, S6.base, S6.loc, S6.cell, S6.free, S6.freeC, fun p hp => S6.pin p (by
            rw [hpn] at hp ⊢
            rw [List.append_nil]
            exact hp), S6.hok, S6.len⟩
        refine gone_ok U hN hi hln fun s7 J7 => ⟨_, upd H6 a (exl a C d), ?_, hy2 a na⟩
        have J8 : Inv X pins (((σ'.set i (some (.ref a))).set j (some (.ref a))).set i none) H6 s7 :=
          ⟨ok, J7.os, J7.bare, J7.base, J7.loc, J7.cell, J7.free, J7.freeC, fun p hp => J7.pin p (by
            rcases List.mem_append.mp hp with z | z
            · exact List.mem_append_left _ z
            · exact List.mem_append_right _ (List.mem_cons_of_mem _ z)), J7.hok, J7.len⟩
        have pa := (J7.pin (a, oe4) (List.mem_append_right _ List.mem_cons_self)).1
        refine Inv.track J8 na n0 nL (fun x c e z => ?_) nP (exl_ok pa hz4.1 hz4.2 hd4)
        obtain ⟨v, o, ho, hd⟩ := J7.cell x c e
        rw [z, pa] at ho
        cases ho
        rw [hd4] at hd
        cases hd
      | brk =>
        obtain ⟨σ6, H6, S6, q6⟩ := hsp
        exact q6.elim
      | cont =>
        obtain ⟨σ6, H6, S6, q6⟩ := hsp
        exact q6.elim
      | ret u =>
        obtain ⟨v6, σ6, H6, S6, r6, q6⟩ := hsp
        exact q6.elim
    | false =>
      show wpAny _ X.A (handleBy (.ref a) X.env []) _ _ _
      refine wpAny_handleBy_nil ?_
      obtain ⟨k1, k2, k3, oe, vs, T, oT, ts', he, hz, hd, h1, hr⟩ := id fl3
      unfold PySem.passOn
      refine wpAny_bind (wpAny_field he hd h1 ?_)
      rw [if_neg (show ¬ ((Value.ref T == Value.none) = true) from by simp)]
      have fin : wpAny (model X.prog X.w) X.A (setFlight (.ref a) X.env.frame) (fun _ s4 => wpAny (model X.prog X.w) X.A (throw (.ref a) : Sem Flow) (SP X pins D) X.xe s4) X.xe { s' with heap := h3 } := by
        rw [hf]
        refine HandSPX.setFlight_upZ fl3 fun h4 hh4 up4 => wpAny_throw (tk _ _ ?_)
        exact ⟨a, B, sI, pins, σ', H', cls, d, rfl, J, nb, (up.trans up3).trans up4, .inr (.inr (by rw [hs]; exact hh4)), na, os, ag, hno rfl⟩
      first
        | exact wpAny_bind (wpAny_pure (wpAny_bind fin))
        | exact wpAny_bind fin
  · cases f with
    | next =>
      obtain ⟨σ', H', J', q⟩ := hsp
      exact wpAny_execs_nil ⟨σ', H', J'.ofTry ok, q⟩
    | brk =>
      obtain ⟨σ', H', J', q⟩ := hsp
      exact ⟨σ', H', J'.ofTry ok, q⟩
    | cont =>
      obtain ⟨σ', H', J', q⟩ := hsp
      exact ⟨σ', H', J'.ofTry ok, q⟩
    | ret u =>
      obtain ⟨v, σ', H', J', r, q⟩ := hsp
      exact ⟨v, σ', H', J'.ofTry ok, r, q⟩
end
end XR

/-! zip of a list and a tuple -/
namespace XR
open PySem PySem.Spec PyProof.Rows L2
section
variable {K : PySem.W.Frag} {a b : Addr}
def ItzM (K : PySem.W.Frag) (a b : Addr) : It where
  go := fun i H => ∃ (xs ys : List V) (x y : V), SqL K H a xs ∧ SqT K H b ys ∧ xs[i]? = some x ∧ ys[i]? = some y
  yld := fun i H v H' => ∃ T x y, v = .ref T ∧ H T = none ∧ H' = upd H T (.tup [x, y]) ∧ (∀ xs, SqL K H a xs → xs[i]? = some x) ∧ ∀ ys, SqT K H b ys → ys[i]? = some y
  stop := fun i H => ∃ xs ys : List V, SqL K H a xs ∧ SqT K H b ys ∧ i ≤ xs.length ∧ i ≤ ys.length ∧ (i = xs.length ∨ i = ys.length)
theorem turn_zipM {P : Program} {w : World} {elts : List Expr} {kk : Nat} {tpos : Pos} {z TI TO i1 i2 : Addr} (S : ZipSep2 z TI TO i1 i2 [i1, a] [i2, b]) (na : a ≠ i1) (nb : b ≠ i2) :
    Turn P w K (.Tuple elts kk tpos) (ItzM K a b) [z, TI, TO, i1, i2] z (fun i h => IsZip h z TI TO .none ∧ IsTupOf2 h TI (.ref i1) (.ref i2) ∧ (∃ x y, IsTupOf2 h TO x y) ∧ h.IsListIter i1 a i ∧ h.IsTupleIter i2 b i) where
  mem := List.mem_cons_self
  obj := fun i h st c hc => by
    obtain ⟨hz, hTI, ⟨x, y, hTO⟩, ⟨o1, e1, _, d1⟩, ⟨o2, e2, _, d2⟩⟩ := st
    simp only [List.mem_cons, List.not_mem_nil, or_false] at hc
    rcases hc with rfl | rfl | rfl | rfl | rfl
    · exact ⟨_, hz, fun v => nofun⟩
    · exact ⟨_, hTI, fun v => nofun⟩
    · exact ⟨_, hTO, fun v => nofun⟩
    · exact ⟨o1, e1, fun v q => by rw [q] at d1; cases d1⟩
    · exact ⟨o2, e2, fun v q => by rw [q] at d2; cases d2⟩
  keep := fun i h h' ⟨hz, hTI, ⟨x, y, hTO⟩, h1, h2⟩ k =>
    ⟨k z (by simp) _ hz, k TI (by simp) _ hTI, ⟨x, y, k TO (by simp) _ hTO⟩, h1.at (k i1 (by simp)), h2.at (k i2 (by simp))⟩
  item := by
    rintro X rfl rfl rfl hc i pins s σ H E I hf ⟨hz, hTI, ⟨x0, y0, hTO⟩, h1, h2⟩ ⟨xs, ys, x, y, qx, qy, ex, ey⟩
    obtain ⟨l1, v1, p1, _⟩ := I.list qx
    obtain ⟨l2, v2, p2, _⟩ := I.tuple qy
    obtain ⟨u1, w1, r1⟩ := v1.get ex
    obtain ⟨u2, w2, r2⟩ := v2.get ey
    have b1 : i < l1.toArray.size := by simpa using (List.getElem?_eq_some_iff.mp w1).1
    have b2 : i < l2.toArray.size := by simpa using (List.getElem?_eq_some_iff.mp w2).1
    have zl : z < s.heap.objs.size := Heap.lt_size hz
    refine wpAny_pyNext_zipD2_item S (Draws.list (A := X.A.in1) (I.ok.hd hc) i1 a na l1.toArray) (Draws.tuple (A := X.A.in1) (I.ok.hd hc) i2 b nb l2.toArray) hz hTI hTO ⟨h1, p1.isList⟩ ⟨h2, p2⟩ b1 b2 fun y1 y2 g tk f1 f2 z' TO' t1 t2 hT hs hk => ?_
    have e1 : y1 = u1 := by
      have f1 : l1.toArray[i]? = some y1 := f1
      rw [List.getElem?_toArray, w1] at f1
      exact (Option.some.inj f1).symm
    have e2 : y2 = u2 := by
      have f2 : l2.toArray[i]? = some y2 := f2
      rw [List.getElem?_toArray, w2] at f2
      exact (Option.some.inj f2).symm
    subst e1 e2
    refine ⟨_, rfl, wpAny_letOwnedTupleGo_zip (s := { s with heap := g, toks := tk }) z' fun g2 z2 sb => ?_⟩
    have hT2 : g2.get? s.heap.objs.size = some { cls := .type "tuple", data := .seq #[y1, y2] } := (sb.2 _ (Nat.ne_of_gt zl)).trans hT
    have nw : ObjOk X.prog X.w (upd H s.heap.objs.size (.tup [x, y])) g2 s.heap.objs.size (.tup [x, y]) := ⟨by show 2 ≤ sizeLine; decide, [y1, y2], .cons r1 (.cons r2 .nil), _, hT2, rfl, _, rfl⟩
    have far : ∀ (c : Addr) (o : Obj), c ∉ [z, TI, TO, i1, i2] → s.heap.get? c = some o → g2.get? c = some o := fun c o hb q => by
      simp only [List.mem_cons, List.not_mem_nil, or_false, not_or] at hb
      exact (sb.2 c hb.1).trans (hk c o hb.1 hb.2.2.1 hb.2.2.2.1 hb.2.2.2.2 q)
    have J : Inv X pins σ (upd H s.heap.objs.size (.tup [x, y])) { s with heap := g2, toks := tk } := I.turnedNew far hf (Nat.le_refl _) nw
    refine ⟨.ref s.heap.objs.size, _, J, rfl, ⟨_, x, y, rfl, I.hok.fresh (Nat.le_refl _), rfl, fun l hl => by rw [I.list_inj hl qx]; exact ex, fun l hl => by rw [I.tuple_inj hl qy]; exact ey⟩, ⟨z2, ?_, ⟨y1, y2, ?_⟩, ?_, ?_⟩, fun c hcm => ?_⟩
    · exact (sb.2 _ S.TIz).trans (hk _ _ S.TIz S.TITO S.TIi1 S.TIi2 hTI)
    · exact (sb.2 _ S.TOz).trans TO'
    · exact t1.1.at fun o q => (sb.2 _ S.zi1.symm).trans q
    · exact t2.1.at fun o q => (sb.2 _ S.zi2.symm).trans q
    · have below : c < s.heap.objs.size := by
        simp only [List.mem_cons, List.not_mem_nil, or_false] at hcm
        rcases hcm with rfl | rfl | rfl | rfl | rfl
        · exact zl
        · exact Heap.lt_size hTI
        · exact Heap.lt_size hTO
        · exact let ⟨_, e1, _⟩ := h1; Heap.lt_size e1
        · exact let ⟨_, e2, _⟩ := h2; Heap.lt_size e2
      rw [upd_ne (Nat.ne_of_lt below)]
      exact (hf c hcm).1
  done := by
    rintro X rfl rfl rfl hc i pins s σ H E I hf ⟨hz, hTI, ⟨x0, y0, hTO⟩, h1, h2⟩ ⟨xs, ys, qx, qy, m1, m2, hend⟩
    obtain ⟨l1, v1, p1, _⟩ := I.list qx
    obtain ⟨l2, v2, p2, _⟩ := I.tuple qy
    have n1 := v1.length
    have n2 := v2.length
    refine wpAny_pyNext_zipD2_end S (Draws.list (A := X.A.in1) (I.ok.hd hc) i1 a na l1.toArray) (Draws.tuple (A := X.A.in1) (I.ok.hd hc) i2 b nb l2.toArray) hz hTI hTO ⟨h1, p1.isList⟩ ⟨h2, p2⟩ (by simp; omega) (by simp; omega) (by simp; omega) fun g tk hk => ⟨rfl, I.turnedL (ch := [z, TI, TO, i1, i2]) (fun c o hb q => ?_) hf⟩
    simp only [List.mem_cons, List.not_mem_nil, or_false, not_or] at hb
    exact hk c o hb.1 hb.2.2.1 hb.2.2.2.1 hb.2.2.2.2 q
  self := fun A i s Q E st h => wpAny_pyIter_zip st.1 h
def iZipM (K : PySem.W.Frag) (ta : TA) : TI := fun σ H R => ta σ H fun vs H1 => ∃ a b xs ys, vs = [.ref a, .ref b] ∧ SqL K H1 a xs ∧ SqT K H1 b ys ∧ R (ItzM K a b) H1
theorem pi_zipM {X : Cx} {e e2 : Expr} {ta : TA} {p pos tpos : Pos} {elts : List Expr} {kk : Nat} (hg : Gl X "zip") (hm : X.mg "zip" = none) (ha : PA X [e, e2] ta)
    (st : starEach [e, e2] X.env = (false, eval e X.env) :: starEach [e2] X.env := by rfl) (np : (backTo pos (starEach [e2] X.env)).any (·.1) = false := by rfl) : PI X (.Tuple elts kk tpos) (.Call (.Name "zip" p) [e, e2] [] pos) (iZipM X.K ta) := by
  refine ⟨fun pins s σ H R I h => Call_ (ld_blt I hg hm PyProof.Rows.boot_zip (PyProof.Rows.callWith_type1 (thn (ha.run pos pins s σ H _ I h) fun us s1 ⟨vs, H1, I1, r1, q1⟩ => ?_) st np))⟩
  obtain ⟨a, b, xs, ys, rfl, qx, qy, q⟩ := q1
  rcases r1 with _ | ⟨r, _ | ⟨r', _ | _⟩⟩
  cases r
  cases r'
  obtain ⟨l1, v1, p1, _⟩ := I1.list qx
  obtain ⟨l2, v2, p2, _⟩ := I1.tuple qy
  have la := p1.lt
  have lb : b < s1.heap.objs.size := let ⟨o2, ho2, _⟩ := id p2; Heap.lt_size ho2
  refine zip_begins2 (begins_list a l1.toArray) (begins_tuple b l2.toArray) p1.isList p2 fun g hz hTI hTO f1 f2 hs hk => wpAny_pyIter_zip hz ?_
  have J : Inv X pins σ H1 { s1 with heap := g } := I1.kept (t' := s1.toks) hk
  have dd : ∀ {n a b : Nat}, a < n → b < n → ZipSep2 (n + 4) (n + 2) (n + 3) n (n + 1) [n, a] [n + 1, b] := fun {n a b} h1 h2 => by
    have no : ∀ {x y z : Nat}, x ≠ y → x ≠ z → x ∉ [y, z] := fun p q m => by
      rcases List.mem_cons.mp m with e | m
      · exact p e
      · exact q (List.mem_singleton.mp m)
    exact ⟨(show (n + 2 : Nat) ≠ n + 4 by omega), (show (n + 3 : Nat) ≠ n + 4 by omega), (show (n + 2 : Nat) ≠ n + 3 by omega), (show (n + 2 : Nat) ≠ n by omega), List.mem_cons_self, no (by omega) (by omega), no (by omega) (by omega), (show (n + 2 : Nat) ≠ n + 1 by omega), List.mem_cons_self, no (by omega) (by omega), no (by omega) (by omega), no (by omega) (by omega), no (by omega) (by omega)⟩
  refine ⟨s1.heap.objs.size + 4, [s1.heap.objs.size + 4, s1.heap.objs.size + 2, s1.heap.objs.size + 3, s1.heap.objs.size, s1.heap.objs.size + 1], _, _, H1, rfl, J, turn_zipM (dd la lb) (Nat.ne_of_lt la) (Nat.ne_of_lt (Nat.lt_succ_of_lt lb)), ⟨hz, hTI, ⟨_, _, hTO⟩, ⟨_, f1, rfl, rfl⟩, ⟨_, f2, rfl, rfl⟩⟩, fun c hcm => ?_, q⟩
  have le : s1.heap.objs.size ≤ c := by
    simp only [List.mem_cons, List.not_mem_nil, or_false] at hcm
    rcases hcm with e | e | e | e | e
    · exact e ▸ Nat.le_add_right _ _
    · exact e ▸ Nat.le_add_right _ _
    · exact e ▸ Nat.le_add_right _ _
    · exact Nat.le_of_eq e.symm
    · exact e ▸ Nat.le_add_right _ _
  exact I1.fpOk le (I1.hok.fresh le)
theorem walk_zipM {xs ys : List V} {n : Nat} (hn : n = min xs.length ys.length) : Walk (ItzM K a b) n (fun H => SqL K H a xs ∧ SqT K H b ys) (fun i H v H' => ∃ T x y, v = .ref T ∧ H T = none ∧ H' = upd H T (.tup [x, y]) ∧ xs[i]? = some x ∧ ys[i]? = some y) where
  goes := fun i H hi ⟨h1, h2⟩ => ⟨xs, ys, _, _, h1, h2, List.getElem?_eq_getElem (by omega), List.getElem?_eq_getElem (by omega)⟩
  stops := fun H ⟨h1, h2⟩ => ⟨xs, ys, h1, h2, by omega, by omega, by omega⟩
  yields := fun i H x H' hi ⟨h1, h2⟩ ⟨T, x1, y1, e, n, e2, k1, k2⟩ => ⟨T, x1, y1, e, n, e2, k1 _ h1, k2 _ h2⟩
end
end XR
namespace XR
open PySem PySem.Spec PyProof.Rows L2 RZ
theorem walk_zipT {K : PySem.W.Frag} {a b : Addr} {xs ys : List V} {n : Nat} (hn : n = min xs.length ys.length) : Walk (ItzT K a b) n (fun H => SqT K H a xs ∧ SqT K H b ys) (fun i H v H' => ∃ T x y, v = .ref T ∧ H T = none ∧ H' = upd H T (.tup [x, y]) ∧ xs[i]? = some x ∧ ys[i]? = some y) where
  goes := fun i H hi ⟨h1, h2⟩ => ⟨xs, ys, _, _, h1, h2, List.getElem?_eq_getElem (by omega), List.getElem?_eq_getElem (by omega)⟩
  stops := fun H ⟨h1, h2⟩ => ⟨xs, ys, h1, h2, by omega⟩
  yields := fun i H x H' hi ⟨h1, h2⟩ ⟨T, x1, y1, e, n, e2, k1, k2⟩ => ⟨T, x1, y1, e, n, e2, k1 _ h1, k2 _ h2⟩
end XR

/-! enumerate of a text -/
namespace XR
open PySem PySem.Spec PyProof.Rows L2
def Ites (x : Str) : It := ⟨fun i _ => i < x.cps.size, fun i H v H' => ∃ T c, v = .ref T ∧ H T = none ∧ x.cps[i]? = some c ∧ H' = upd H T (.tup [.int (i : Nat), .str ⟨#[c]⟩]), fun i _ => i = x.cps.size⟩
theorem turn_enumS {P : Program} {w : World} {K : PySem.W.Frag} {elts : List Expr} {kk : Nat} {tpos : Pos} (e it : Addr) (x : Str) (t : Tok) :
    Turn P w K (.Tuple elts kk tpos) (Ites x) [e, it] e (fun i h => (∃ old, IsEnum h e it ((i : Nat) : Int) old) ∧ h.IsStrIter it (strIterType x) x t i ∧ e ≠ it) where
  mem := by simp
  obj := fun i h st b hb => by
    obtain ⟨⟨old, he⟩, ⟨o, ho, hc, hd⟩, _⟩ := st
    have e' : b = e ∨ b = it := by simpa using hb
    rcases e' with z | z
    · rw [z]; exact ⟨_, he, fun v q => nomatch q⟩
    · rw [z]; exact ⟨o, ho, fun v q => by rw [hd] at q; cases q⟩
  keep := fun i h h' st k => let ⟨⟨old, he⟩, ⟨o, ho, r⟩, hne⟩ := st; ⟨⟨old, k e (by simp) _ he⟩, ⟨o, k it (by simp) o ho, r⟩, hne⟩
  item := by
    intro X hP hw hK hc i pins s σ H E I hf st hg
    subst hP hw hK
    obtain ⟨⟨old, he⟩, hit, hne⟩ := st
    have hel : e < s.heap.objs.size := Heap.lt_size he
    have hil : it < s.heap.objs.size := by obtain ⟨_, q, _⟩ := hit; exact Heap.lt_size q
    have D := Draws.text (prog := X.prog) (w := X.w) (A := X.A.in1) (I.ok.hd hc) it x t
    refine wpAny_pyNext_enum_itemC D he hit hg hne (by simpa using hne) fun u h' tk hu ho hit' hT hsz hk => ?_
    obtain ⟨c, tc, hx, rfl⟩ := hu
    refine ⟨_, rfl, wpAny_letOwnedTupleGo_enum (s := { s with heap := h', toks := tk + 1 }) ho fun h'' he' sb => ?_⟩
    have hT2 : h''.get? s.heap.objs.size = some { cls := .type "tuple", data := .seq #[.int i tk, .str ⟨#[c]⟩ tc] } := (sb.2 _ (Nat.ne_of_gt hel)).trans hT
    have new : ObjOk X.prog X.w (upd H s.heap.objs.size (.tup [.int (i : Nat), .str ⟨#[c]⟩])) h'' s.heap.objs.size (.tup [.int (i : Nat), .str ⟨#[c]⟩]) :=
      ⟨by show 2 ≤ sizeLine; decide, [.int i tk, .str ⟨#[c]⟩ tc], .cons ⟨_, rfl⟩ (.cons ⟨_, rfl⟩ .nil), ⟨_, hT2, rfl, _, rfl⟩⟩
    have I1 : Inv X pins σ (upd H s.heap.objs.size (.tup [.int (i : Nat), .str ⟨#[c]⟩])) { s with heap := h'', toks := tk + 1 } :=
      I.turnedNew (ch := [e, it]) (fun b ob hb q => (sb.2 b (fun z => hb (by simp [z]))).trans (hk b ob (fun z => hb (by simp [z])) (fun z => hb (by simp [z])) q)) hf (Nat.le_refl _) new
    refine ⟨.ref s.heap.objs.size, _, I1, rfl, ⟨_, c, rfl, I.hok.fresh (Nat.le_refl _), hx, rfl⟩, ⟨⟨.str ⟨#[c]⟩ tc, ?_⟩, ?_, hne⟩, fun b hb => ?_⟩
    · have e1 : ((i + 1 : Nat) : Int) = (i : Int) + 1 := by omega
      rw [e1]; exact he'
    · obtain ⟨o, z, r⟩ := hit'
      exact ⟨o, (sb.2 it (Ne.symm hne)).trans z, r⟩
    · have hb' : b < s.heap.objs.size := by
        have e' : b = e ∨ b = it := by simpa using hb
        rcases e' with z | z
        · rw [z]; exact hel
        · rw [z]; exact hil
      rw [upd_ne (Nat.ne_of_lt hb')]
      exact (hf b hb).1
  done := by
    intro X hP hw hK hc i pins s σ H E I hf st hg
    subst hP hw hK
    obtain ⟨⟨old, he⟩, hit, hne⟩ := st
    obtain ⟨f0, f1, f2, f3, f4, f5⟩ := hf it (by simp)
    have D := Draws.text (prog := X.prog) (w := X.w) (A := X.A.in1) (I.ok.hd hc) it x t
    have e : i = x.cps.size := hg
    subst e
    exact wpAny_pyNext_enum_endD D he hit fun h' eb => ⟨rfl, I.turned (t' := s.toks) (fun b o hb q => eb b o hb q) f0 f1 f3 f4 f5⟩
  self := fun A i s Q E st h => let ⟨⟨_, he⟩, _⟩ := st; wpAny_pyIter_enum he h
def iEnumS (ta : TA) : TI := fun σ H R => ta σ H fun vs H1 => ∃ x, vs = [.str x] ∧ R (Ites x) H1
theorem pi_enumS {X : Cx} {e : Expr} {ta : TA} {p pos tpos : Pos} {elts : List Expr} {kk : Nat} (hg : Gl X "enumerate") (hm : X.mg "enumerate" = none) (ha : PA X [e] ta) (hs : starEach [e] X.env = [(false, eval e X.env)] := by rfl) :
    PI X (.Tuple elts kk tpos) (.Call (.Name "enumerate" p) [e] [] pos) (iEnumS ta) := by
  refine ⟨fun pins s σ H R I h => ?_⟩
  refine Call_ (ld_blt I hg hm boot_enumerate (PyProof.Rows.callWith_type1 (thn (ha.run pos pins s σ H _ I h) fun us s1 ⟨vs, H1, I1, r1, q1⟩ => ?_) hs rfl))
  obtain ⟨x, ex, q⟩ := q1
  subst ex
  cases r1 with
  | cons r rr =>
    cases rr
    obtain ⟨t, rfl⟩ := r
    refine call_enumerate_str fun h' he hit hsz hk => wpAny_pyIter_enum he ?_
    have I2 : Inv X pins σ H1 { s1 with heap := h' } := I1.kept (t' := s1.toks) hk
    refine ⟨s1.heap.objs.size + 1, [s1.heap.objs.size + 1, s1.heap.objs.size], _, _, H1, rfl, I2, turn_enumS (s1.heap.objs.size + 1) s1.heap.objs.size x t, ⟨⟨.none, he⟩, hit, Nat.succ_ne_self _⟩, fun b hb => ?_, q⟩
    have e' : b = s1.heap.objs.size + 1 ∨ b = s1.heap.objs.size := by simpa using hb
    have hle : s1.heap.objs.size ≤ b := by
      rcases e' with z | z
      · rw [z]; exact Nat.le_add_right _ _
      · rw [z]; exact Nat.le_refl _
    exact I1.fpOk hle (I1.hok.fresh hle)
theorem walk_enumS {z : Str} : Walk (Ites z) z.cps.size (fun _ => True) (fun i H v H' => ∃ T c, v = .ref T ∧ H T = none ∧ z.cps[i]? = some c ∧ H' = upd H T (.tup [.int (i : Nat), .str ⟨#[c]⟩])) :=
  ⟨fun _ _ hi _ => hi, fun _ _ => rfl, fun _ _ _ _ _ _ y => y⟩
end XR
namespace XR
open PySem PySem.Spec PyProof.Rows L2
theorem paired_of {α β : Type} {G : α → β → Prop} : ∀ {xs : List α} {ys : List β}, xs.length = ys.length → (∀ (i : Nat) (x : α) (y : β), xs[i]? = some x → ys[i]? = some y → G x y) → Paired G xs ys
  | [], [], _, _ => .nil
  | x :: xs, y :: ys, h, k => .cons (k 0 x y rfl rfl) (paired_of (by simpa using h) fun i a b e f => k (i + 1) a b (by simpa using e) (by simpa using f))
  | [], _ :: _, h, _ => by simp at h
  | _ :: _, [], h, _ => by simp at h
/-- list(text) -/
def rListS : List V → Hp → VK → Prop := fun xs H Q => ∃ x : Str, xs = [.str x] ∧ x.cps.size ≤ sizeLine ∧ ∀ l, H l = none → Q (.ref l) (upd H l (.lst (x.cps.toList.map fun c => V.str ⟨#[c]⟩)))
theorem call_listS {X : Cx} (hc : X.calm = true) : CallR X (.type "list") rListS := by
  intro pins s σ H xs us Q I r h
  obtain ⟨x, rfl, hz, q⟩ := h
  obtain ⟨u, rfl, rx⟩ := vals1 r
  obtain ⟨t, rfl⟩ := rx
  refine call_list_str (hn := hz) (I.ok.hd hc) x t fun h' tk acc c' kp e it => ?_
  have r' : Vals (x.cps.toList.map fun c => V.str ⟨#[c]⟩) acc.toList := paired_of (by simp [it.1]) fun i a b ha hb => by
    have hb' : acc[i]? = some b := by simpa using hb
    obtain ⟨c, u, hx, rfl⟩ := it.2 i b hb'
    have hx' : x.cps.toList[i]? = some c := by simpa using hx
    rw [List.getElem?_map, hx'] at ha
    cases ha
    exact ⟨_, rfl⟩
  exact ⟨.ref s.heap.objs.size, _, I.laid (t' := tk) kp (Nat.le_refl _) (show ObjOk X.prog X.w _ h' _ (.lst _) from ⟨by simpa using hz, acc.toList, c', r', by simpa using e⟩), rfl, q _ (I.hok.fresh (Nat.le_refl _))⟩
end XR

/-! enumerate of a tuple, also with a start -/
namespace PySem
open Sem (wp)
theorem meets_enumerate_newB1 {v : Value} {o : Obj} {H : Heap → Prop} (B : Begins v o H) :
    Meets (Builtin.«enumerate.__new__» ⟨[.type "enumerate", v], []⟩) (fun _ R s => H s.heap ∧
      R (.ok (.ret (.ref (s.heap.push o).objs.size))) { s with heap := (s.heap.push o).push { cls := .type "enumerate", data := .fields #[.none, .bool false, .ref s.heap.objs.size, rawInt 0, .none, .none] } }) :=
  .of_wp fun prog w A R s h => by
    obtain ⟨hp, g, d, tk, os⟩ := s; obtain ⟨h1, h⟩ := h
    have hsub := sub_enumerate
    have q1 : ∀ {A' : Around} {E : Value → Shared → Prop} {Q : Value → Shared → Prop}, Q (.ref hp.objs.size) ⟨hp.push o, g, d, tk, os⟩ → wpAny (model prog w) A' (pyIter v) Q E ⟨hp, g, d, tk, os⟩ :=
      fun q => B.iter prog w _ _ ⟨hp, g, d, tk, os⟩ _ h1 q
    wp_walk using q1
    refine wpAny_stack_any fun st => wpAny_pure ?_
    split
    · rename_i c _ _ _ _ _
      cases (c == Value.type "enumerate")
      · wp_walk using q1
        exact ⟨_, rfl, h⟩
      · wp_walk using q1
        exact ⟨_, rfl, h⟩
    · wp_walk using q1
      exact ⟨_, rfl, h⟩
section
variable {prog : Program} {w : World} {A : Around} {E : Value → Shared → Prop} {s : Shared}
theorem enum_begins1 {v : Value} {o : Obj} {H : Heap → Prop} {Q : Value → Shared → Prop} (B : Begins v o H) (h1 : H s.heap)
    (h : ∀ h', IsEnum h' (s.heap.objs.size + 1) s.heap.objs.size 0 .none → h'.get? s.heap.objs.size = some o → h'.objs.size = s.heap.objs.size + 2 →
      (∀ b o, s.heap.get? b = some o → h'.get? b = some o) → Q (.ref (s.heap.objs.size + 1)) { s with heap := h' }) :
    wpAny (model prog w) A (call (.type "enumerate") [v]) Q E s := by
  refine callType_new F.called_enumerate (by decide) (F.typeCall_enumerate_1 _) (F.newCall_enumerate_1 _) (fun obj => F.args_object_init_2 obj _) F.entry_enumerate_new
    (meets_enumerate_newB1 B) ⟨h1, ?_⟩
  have hz : (s.heap.push o).objs.size = s.heap.objs.size + 1 := Heap.size_push ..
  show _ ∧ _
  rw [hz]
  have he : IsEnum ((s.heap.push o).push { cls := .type "enumerate", data := .fields #[.none, .bool false, .ref s.heap.objs.size, rawInt 0, .none, .none] }) (s.heap.objs.size + 1) s.heap.objs.size 0 .none := by
    have := Heap.get?_push_size (s.heap.push o) (o := { cls := .type "enumerate", data := .fields #[.none, .bool false, .ref s.heap.objs.size, rawInt 0, .none, .none] }) rfl
    rw [hz] at this; exact this
  refine ⟨⟨_, he, rfl⟩, h _ he (Heap.get?_push_of_some _ (Heap.get?_push_size _ B.free)) (by rw [Heap.size_push, hz]) fun b o x => Heap.get?_push_of_some _ (Heap.get?_push_of_some _ x)⟩
end
end PySem
namespace XR
open PySem PySem.Spec PyProof.Rows L2
def Itet (K : PySem.W.Frag) (a : Addr) (k : Int) : It :=
  ⟨fun i H => ∃ (xs : List V) (x : V), SqT K H a xs ∧ xs[i]? = some x, fun i H v H' => ∃ T x, v = .ref T ∧ H T = none ∧ H' = upd H T (.tup [.int (k + (i : Nat)), x]) ∧ ∀ xs, SqT K H a xs → xs[i]? = some x, fun i H => ∃ xs : List V, SqT K H a xs ∧ xs.length = i⟩
theorem turn_enumT {P : Program} {w : World} {K : PySem.W.Frag} {elts : List Expr} {kk : Nat} {tpos : Pos} (a e it : Addr) (k0 : Int) :
    Turn P w K (.Tuple elts kk tpos) (Itet K a k0) [e, it] e (fun i h => (∃ old, IsEnum h e it (k0 + ((i : Nat) : Int)) old) ∧ h.IsTupleIter it a i ∧ e ≠ it) where
  mem := by simp
  obj := fun i h st b hb => by
    obtain ⟨⟨old, he⟩, ⟨o, ho, hc, hd⟩, _⟩ := st
    have e' : b = e ∨ b = it := by simpa using hb
    rcases e' with z | z
    · rw [z]; exact ⟨_, he, fun v q => nomatch q⟩
    · rw [z]; exact ⟨o, ho, fun v q => by rw [hd] at q; cases q⟩
  keep := fun i h h' st k => let ⟨⟨old, he⟩, hi, hne⟩ := st; ⟨⟨old, k e (by simp) _ he⟩, hi.at fun o q => k it (by simp) o q, hne⟩
  item := by
    intro X hP hw hK hc i pins s σ H E I hf st hg
    subst hP hw hK
    obtain ⟨⟨old, he⟩, hit, hne⟩ := st
    obtain ⟨xs, x, hq, hx⟩ := hg
    obtain ⟨its, rv, p, hz⟩ := I.tuple hq
    obtain ⟨u, hu, ru⟩ := rv.get hx
    have hel : e < s.heap.objs.size := Heap.lt_size he
    have hil : it < s.heap.objs.size := by obtain ⟨_, q, _⟩ := hit; exact Heap.lt_size q
    have hti : s.heap.IsTuple a its.toArray := p
    have hai : a ≠ it := fun z => by
      obtain ⟨o, ho, hc, _⟩ := hti
      obtain ⟨o2, ho2, hc2, _⟩ := hit
      rw [z] at ho
      have ho' : s.heap.get? it = some o := ho
      rw [ho'] at ho2
      cases ho2
      rw [hc] at hc2
      exact absurd (Value.type.inj hc2) (by decide)
    have hea : e ≠ a := fun z => by
      obtain ⟨o, ho, hc, _⟩ := hti
      have he' : s.heap.get? e = _ := he
      rw [z, ho] at he'
      have := Option.some.inj he'
      rw [this] at hc
      exact absurd (Value.type.inj hc) (by decide)
    have D := Draws.tuple (prog := X.prog) (w := X.w) (A := X.A.in1) (I.ok.hd hc) it a hai its.toArray
    have hx' : i < its.toArray.size := by
      have := (List.getElem?_eq_some_iff.mp hu).1
      simpa using this
    refine wpAny_pyNext_enum_itemC D he ⟨hit, hti⟩ hx' hne (by simp; exact ⟨hne, hea⟩) fun v h' tk hv ho hit' hT hsz hk => ?_
    have ev : v = u := by
      rw [show its.toArray[i]? = its[i]? by simp, hu] at hv
      exact (Option.some.inj hv).symm
    subst ev
    refine ⟨_, rfl, wpAny_letOwnedTupleGo_enum (s := { s with heap := h', toks := tk + 1 }) ho fun h'' he' sb => ?_⟩
    have hT2 : h''.get? s.heap.objs.size = some { cls := .type "tuple", data := .seq #[.int (k0 + (i : Nat)) tk, v] } := (sb.2 _ (Nat.ne_of_gt hel)).trans hT
    have new : ObjOk X.prog X.w (upd H s.heap.objs.size (.tup [.int (k0 + (i : Nat)), x])) h'' s.heap.objs.size (.tup [.int (k0 + (i : Nat)), x]) :=
      ⟨by show 2 ≤ sizeLine; decide, [.int (k0 + (i : Nat)) tk, v], .cons ⟨_, rfl⟩ (.cons ru .nil), ⟨_, hT2, rfl, _, rfl⟩⟩
    have I1 : Inv X pins σ (upd H s.heap.objs.size (.tup [.int (k0 + (i : Nat)), x])) { s with heap := h'', toks := tk + 1 } :=
      I.turnedNew (ch := [e, it]) (fun b ob hb q => (sb.2 b (fun z => hb (by simp [z]))).trans (hk b ob (fun z => hb (by simp [z])) (fun z => hb (by simp [z])) q)) hf (Nat.le_refl _) new
    refine ⟨.ref s.heap.objs.size, _, I1, rfl, ⟨_, x, rfl, I.hok.fresh (Nat.le_refl _), rfl, fun ys hy => by rw [I.tuple_inj hy hq]; exact hx⟩, ⟨⟨v, ?_⟩, ?_, hne⟩, fun b hb => ?_⟩
    · have e1 : k0 + ((i + 1 : Nat) : Int) = k0 + (i : Int) + 1 := by omega
      rw [e1]; exact he'
    · exact hit'.1.at fun o q => (sb.2 it (Ne.symm hne)).trans q
    · have hb' : b < s.heap.objs.size := by
        have e' : b = e ∨ b = it := by simpa using hb
        rcases e' with z | z
        · rw [z]; exact hel
        · rw [z]; exact hil
      rw [upd_ne (Nat.ne_of_lt hb')]
      exact (hf b hb).1
  done := by
    intro X hP hw hK hc i pins s σ H E I hf st hg
    subst hP hw hK
    obtain ⟨⟨old, he⟩, hit, hne⟩ := st
    obtain ⟨xs, hq, hx⟩ := hg
    obtain ⟨its, rv, p, hz⟩ := I.tuple hq
    obtain ⟨f0, f1, f2, f3, f4, f5⟩ := hf it (by simp)
    have hl := rv.length
    have hti : s.heap.IsTuple a its.toArray := p
    have hai : a ≠ it := fun z => by
      obtain ⟨o, ho, hc, _⟩ := hti
      obtain ⟨o2, ho2, hc2, _⟩ := hit
      rw [z] at ho
      have ho' : s.heap.get? it = some o := ho
      rw [ho'] at ho2
      cases ho2
      rw [hc] at hc2
      exact absurd (Value.type.inj hc2) (by decide)
    have D := Draws.tuple (prog := X.prog) (w := X.w) (A := X.A.in1) (I.ok.hd hc) it a hai its.toArray
    have en : its.toArray.size = i := by simp; omega
    rw [en] at D
    exact wpAny_pyNext_enum_endD D he ⟨hit, hti⟩ fun h' eb => ⟨rfl, I.turned (t' := s.toks) (fun b o hb q => eb b o hb q) f0 f1 f3 f4 f5⟩
  self := fun A i s Q E st h => let ⟨⟨_, he⟩, _⟩ := st; wpAny_pyIter_enum he h
def iEnumT (K : PySem.W.Frag) (ta : TA) : TI := fun σ H R => ta σ H fun vs H1 => ∃ a xs, vs = [.ref a] ∧ SqT K H1 a xs ∧ R (Itet K a 0) H1
def iEnumTk (K : PySem.W.Frag) (ta : TA) : TI := fun σ H R => ta σ H fun vs H1 => ∃ a xs k, vs = [.ref a, .int k] ∧ SqT K H1 a xs ∧ -(2 ^ 63) ≤ k ∧ k < 2 ^ 63 ∧ R (Itet K a k) H1
section
variable {X : Cx} {e e2 : Expr} {ta : TA} {p pos tpos : Pos} {elts : List Expr} {kk : Nat}
theorem pi_enumT (hg : Gl X "enumerate") (hm : X.mg "enumerate" = none) (ha : PA X [e] ta) (hs : starEach [e] X.env = [(false, eval e X.env)] := by rfl) :
    PI X (.Tuple elts kk tpos) (.Call (.Name "enumerate" p) [e] [] pos) (iEnumT X.K ta) := by
  refine ⟨fun pins s σ H R I h => ?_⟩
  refine Call_ (ld_blt I hg hm boot_enumerate (PyProof.Rows.callWith_type1 (thn (ha.run pos pins s σ H _ I h) fun us s1 ⟨vs, H1, I1, r1, q1⟩ => ?_) hs rfl))
  obtain ⟨a, xs, ex, hq, q⟩ := q1
  subst ex
  cases r1 with
  | cons r rr =>
    cases rr
    cases r
    obtain ⟨its, rv, p', hz⟩ := I1.tuple hq
    have hti : s1.heap.IsTuple a its.toArray := p'
    refine enum_begins1 (begins_tuple a its.toArray) hti fun h' he hit hsz hk => wpAny_pyIter_enum he ?_
    have I2 : Inv X pins σ H1 { s1 with heap := h' } := I1.kept (t' := s1.toks) hk
    refine ⟨s1.heap.objs.size + 1, [s1.heap.objs.size + 1, s1.heap.objs.size], _, _, H1, rfl, I2, turn_enumT a (s1.heap.objs.size + 1) s1.heap.objs.size 0, ⟨⟨.none, he⟩, ⟨_, hit, rfl, rfl⟩, Nat.succ_ne_self _⟩, fun b hb => ?_, q⟩
    have e' : b = s1.heap.objs.size + 1 ∨ b = s1.heap.objs.size := by simpa using hb
    have hle : s1.heap.objs.size ≤ b := by
      rcases e' with z | z
      · rw [z]; exact Nat.le_add_right _ _
      · rw [z]; exact Nat.le_refl _
    exact I1.fpOk hle (I1.hok.fresh hle)
theorem pi_enumTk (hg : Gl X "enumerate") (hm : X.mg "enumerate" = none) (ha : PA X [e, e2] ta) (hs : starEach [e, e2] X.env = (false, eval e X.env) :: starEach [e2] X.env := by rfl) (hpl : (backTo pos (starEach [e2] X.env)).any (·.1) = false := by rfl) :
    PI X (.Tuple elts kk tpos) (.Call (.Name "enumerate" p) [e, e2] [] pos) (iEnumTk X.K ta) := by
  refine ⟨fun pins s σ H R I h => ?_⟩
  refine Call_ (ld_blt I hg hm boot_enumerate (PyProof.Rows.callWith_type1 (thn (ha.run pos pins s σ H _ I h) fun us s1 ⟨vs, H1, I1, r1, q1⟩ => ?_) hs hpl))
  obtain ⟨a, xs, k, ex, hq, hk0, hk1, q⟩ := q1
  subst ex
  obtain ⟨u1, u2, rfl, r1, r2⟩ := vals2 r1
  cases r1
  obtain ⟨t2, rfl⟩ := r2
  obtain ⟨its, rv, p', hz⟩ := I1.tuple hq
  have hti : s1.heap.IsTuple a its.toArray := p'
  refine enum_begins (begins_tuple a its.toArray) hti hk0 hk1 fun h' he hit hsz hk => wpAny_pyIter_enum he ?_
  have I2 : Inv X pins σ H1 { s1 with heap := h' } := I1.kept (t' := s1.toks) hk
  refine ⟨s1.heap.objs.size + 1, [s1.heap.objs.size + 1, s1.heap.objs.size], _, _, H1, rfl, I2, turn_enumT a (s1.heap.objs.size + 1) s1.heap.objs.size k, ⟨⟨.none, ?_⟩, ⟨_, hit, rfl, rfl⟩, Nat.succ_ne_self _⟩, fun b hb => ?_, q⟩
  · have e0 : k + ((0 : Nat) : Int) = k := by omega
    rw [e0]; exact he
  have e' : b = s1.heap.objs.size + 1 ∨ b = s1.heap.objs.size := by simpa using hb
  have hle : s1.heap.objs.size ≤ b := by
    rcases e' with z | z
    · rw [z]; exact Nat.le_add_right _ _
    · rw [z]; exact Nat.le_refl _
  exact I1.fpOk hle (I1.hok.fresh hle)
end
section
variable {K : PySem.W.Frag} {a : Addr} {xs : List V} {k : Int}
theorem walk_enumT : Walk (Itet K a k) xs.length (fun H => SqT K H a xs) (YPair (fun i => some (.int (k + (i : Nat)))) (fun i => xs[i]?)) := by
  refine ⟨fun i _ hi q => ⟨xs, xs[i], q, by simp [hi]⟩, fun _ q => ⟨xs, q, rfl⟩, fun i H v H' _ q y => ?_⟩
  obtain ⟨T, x, h1, h2, h3, h4⟩ := y
  exact ⟨T, .int (k + (i : Nat)), x, h1, h2, h3, rfl, h4 xs q⟩
variable {σ : L2.St} {H : Hp} {R : It → Hp → Prop} {t : TA}
theorem ri_enumT (q : t σ H fun vs H1 => ∃ a xs, vs = [.ref a] ∧ SqT K H1 a xs ∧ R (Itet K a 0) H1) : iEnumT K t σ H R := q
theorem ri_enumTk (q : t σ H fun vs H1 => ∃ a xs k, vs = [.ref a, .int k] ∧ SqT K H1 a xs ∧ -(2 ^ 63) ≤ k ∧ k < 2 ^ 63 ∧ R (Itet K a k) H1) : iEnumTk K t σ H R := q
end
end XR

/-! sorted of any alike data -/
namespace XR
open PySem PySem.Spec PyProof.Rows L2
open PySem.W (EachIs AllAlike Sortable dataLe)
/-- sorted(xs): the items told by R of the things bs, each read as enc says -/
def rSortedR (K : PySem.W.Frag) : List V → Hp → VK → Prop := fun vs H Q => ∃ (a : Addr) (xs : List V) (β : Type) (bs : List β) (enc : β → PyData) (R : V → β → Prop), vs = [.ref a] ∧ SqL K H a xs ∧ Paired R xs bs ∧ (∀ x b, R x b → Dp K H x (enc b)) ∧
  AllAlike (bs.map enc) ∧ Sortable (bs.map enc) ∧ (∀ b ∈ bs, (enc b).depth ≤ 64) ∧ ∀ ys p, Paired R ys (bs.mergeSort (dataLe false enc)) → H p = none → Q (.ref p) (upd H p (.lst ys))
theorem each_of {α β γ : Type} {R : α → β → Prop} {S : α → γ → Prop} : ∀ {xs : List α} {bs : List β} {us : List γ}, Paired R xs bs → Paired S xs us → EachIs (fun u b => ∃ x, S x u ∧ R x b) us bs
  | [], [], [], .nil, .nil => .nil
  | _ :: _, _ :: _, _ :: _, .cons h t, .cons h2 t2 => .cons ⟨_, h2, h⟩ (each_of t t2)
theorem of_each {α β γ : Type} {R : α → β → Prop} {S : α → γ → Prop} : ∀ {bs : List β} {us : List γ}, EachIs (fun u b => ∃ x, S x u ∧ R x b) us bs → ∃ xs, Paired R xs bs ∧ Paired S xs us
  | _, _, .nil => ⟨[], .nil, .nil⟩
  | _, _, .cons ⟨x, h2, h⟩ t => let ⟨xs, a, b⟩ := of_each t; ⟨x :: xs, .cons h a, .cons h2 b⟩
theorem each_imp {α β : Type} {R S : α → β → Prop} (h : ∀ a b, R a b → S a b) : ∀ {us : List α} {bs : List β}, EachIs R us bs → EachIs S us bs
  | _, _, .nil => .nil
  | _, _, .cons x t => .cons (h _ _ x) (each_imp h t)
theorem cr_sortedR {X : Cx} (hu : X.A.units + 100 < cLine) : CallR X (.builtin "sorted") (rSortedR X.K) := by
  intro pins s σ H vs us Q I r h
  obtain ⟨a, xs, β, bs, enc, R, rfl, hs, pr, hdp, hal, hso, hdep, q⟩ := h
  obtain ⟨its, rv, hl, hz⟩ := I.list hs
  obtain ⟨u, rfl, ru⟩ := vals1 r
  obtain rfl : u = Value.ref a := ru
  have ee := each_of pr rv
  have er : EachIs (fun v b => ∃ as, Reads s.heap v (enc b) as) its bs := each_imp (fun v b ⟨x, rx, hb⟩ => Dp.reads I (enc b) x v (hdp x b hb) rx) ee
  have hlen : bs.length ≤ sizeLine := by rw [← Paired.length pr]; exact hz
  refine PySem.W.sorted_data hl.isList ee er hal hso hlen (fun b hb => by have := hdep b hb; omega) fun out ho eo => ?_
  obtain ⟨ys, p1, p2⟩ := of_each eo
  obtain ⟨c, hc⟩ := sortedAll_at s.heap its out.toArray
  have hn : H (s.heap.objs.size + 1) = none := I.hok.fresh (Nat.le_succ _)
  refine ⟨.ref (s.heap.objs.size + 1), _, I.laid (t' := s.toks) (fun _ _ => sortedAll_old) (Nat.le_succ _) (show ObjOk X.prog X.w _ _ _ (.lst ys) from ⟨?_, out, c, p2, hc⟩), rfl, q ys _ p1 hn⟩
  rw [Paired.length p2, ho]
  exact hlen
end XR

/-! data, slots, states: what a def's slots hold, told as data -/
namespace DA
open PySem PySem.Spec PyProof.Rows L2 XR
def keyD : Key → PyData
  | .inl i => .int i
  | .inr x => .str x
mutual
/-- v is the data d, by what stands in H; an instance is told as a dict: nothing leads to its class, then its attributes -/
inductive Dq (K : PySem.W.Frag) (H : Hp) : V → PyData → Prop
  | non : Dq K H .non .none
  | bl (b : Bool) : Dq K H (.bl b) (.bool b)
  | int (i : Int) : Dq K H (.int i) (.int i)
  | str (x : Str) : Dq K H (.str x) (.str x)
  | lst {a : Addr} {xs : List V} {ds : List PyData} : H a = some (.lst xs) → DqAll K H xs ds → Dq K H (.ref a) (.list ds)
  | tup {a : Addr} {xs : List V} {ds : List PyData} : SqT K H a xs → DqAll K H xs ds → Dq K H (.ref a) (.tuple ds)
  | dic {a : Addr} {ws : List (Key × V)} {kvs : List (PyData × PyData)} : H a = some (.dK ws) → DqKv K H ws kvs → Dq K H (.ref a) (.dict kvs)
  | ins {a C dx : Addr} {fs : List (Str × V)} {kvs : List (PyData × PyData)} : H a = some (.ins C dx fs) → Cls K C → (∀ p ∈ fs, NoAttr K C p.1) → DqFs K H fs kvs → Dq K H (.ref a) (.dict ((.none, .int (C : Nat)) :: kvs))
  | exc {a C dd : Addr} {fs : List (Str × V)} {kvs : List (PyData × PyData)} : ExAt H a C (some dd) → DcAt H dd fs → DqFs K H fs kvs → Dq K H (.ref a) (.dict ((.bool true, .int (C : Nat)) :: kvs))
  | exb {a C : Addr} : ExAt H a C none → Dq K H (.ref a) (.dict [(.bool false, .int (C : Nat))])
  | scr {a : Addr} {xs : List V} {ds : List PyData} : SqL K H a xs → DqAll K H xs ds → Dq K H (.ref a) (.dict [(.none, .list ds)])
inductive DqAll (K : PySem.W.Frag) (H : Hp) : List V → List PyData → Prop
  | nil : DqAll K H [] []
  | cons {v : V} {vs : List V} {d : PyData} {ds : List PyData} : Dq K H v d → DqAll K H vs ds → DqAll K H (v :: vs) (d :: ds)
inductive DqKv (K : PySem.W.Frag) (H : Hp) : List (Key × V) → List (PyData × PyData) → Prop
  | nil : DqKv K H [] []
  | cons {k : Key} {v : V} {vs : List (Key × V)} {d : PyData} {ds : List (PyData × PyData)} : Dq K H v d → DqKv K H vs ds → DqKv K H ((k, v) :: vs) ((keyD k, d) :: ds)
inductive DqFs (K : PySem.W.Frag) (H : Hp) : List (Str × V) → List (PyData × PyData) → Prop
  | nil : DqFs K H [] []
  | cons {k : Str} {v : V} {vs : List (Str × V)} {d : PyData} {ds : List (PyData × PyData)} : Dq K H v d → DqFs K H vs ds → DqFs K H ((k, v) :: vs) ((.str k, d) :: ds)
end
section
variable {K : PySem.W.Frag} {H H' : Hp}
theorem same_sql (s : Same H H') {a : Addr} {xs : List V} (h : SqL K H a xs) : SqL K H' a xs := by
  rcases h with (h | ⟨o, h⟩) | h
  · exact .inl (.inl (s _ _ h))
  · exact .inl (.inr ⟨o, s _ _ h⟩)
  · exact .inr h
theorem same_sqt (s : Same H H') {a : Addr} {xs : List V} (h : SqT K H a xs) : SqT K H' a xs := by
  rcases h with (h | ⟨o, h⟩) | h
  · exact .inl (.inl (s _ _ h))
  · exact .inl (.inr ⟨o, s _ _ h⟩)
  · exact .inr h
mutual
theorem Dq.mono' (s : Same H H') : ∀ {v : V} {d : PyData}, Dq K H v d → Dq K H' v d
  | _, _, .non => .non
  | _, _, .bl b => .bl b
  | _, _, .int i => .int i
  | _, _, .str x => .str x
  | _, _, .lst h t => .lst (s _ _ h) (DqAll.mono' s t)
  | _, _, .tup h t => .tup (same_sqt s h) (DqAll.mono' s t)
  | _, _, .dic h t => .dic (s _ _ h) (DqKv.mono' s t)
  | _, _, .ins h c n t => .ins (s _ _ h) c n (DqFs.mono' s t)
  | _, _, .exc h c t => .exc (h.same s) (c.same s) (DqFs.mono' s t)
  | _, _, .exb h => .exb (h.same s)
  | _, _, .scr h t => .scr (same_sql s h) (DqAll.mono' s t)
theorem DqAll.mono' (s : Same H H') : ∀ {v : List V} {d : List PyData}, DqAll K H v d → DqAll K H' v d
  | _, _, .nil => .nil
  | _, _, .cons h t => .cons (Dq.mono' s h) (DqAll.mono' s t)
theorem DqKv.mono' (s : Same H H') : ∀ {v : List (Key × V)} {d : List (PyData × PyData)}, DqKv K H v d → DqKv K H' v d
  | _, _, .nil => .nil
  | _, _, .cons h t => .cons (Dq.mono' s h) (DqKv.mono' s t)
theorem DqFs.mono' (s : Same H H') : ∀ {v : List (Str × V)} {d : List (PyData × PyData)}, DqFs K H v d → DqFs K H' v d
  | _, _, .nil => .nil
  | _, _, .cons h t => .cons (Dq.mono' s h) (DqFs.mono' s t)
end
theorem Dq.mono (s : Same H H') (d : PyData) (v : V) (h : Dq K H v d) : Dq K H' v d := h.mono' s
theorem DqAll.mono (s : Same H H') (d : List PyData) (v : List V) (h : DqAll K H v d) : DqAll K H' v d := h.mono' s
mutual
/-- neither a dict nor an instance within -/
def plainD : PyData → Bool
  | .list xs => plainAll xs
  | .tuple xs => plainAll xs
  | .dict _ => false
  | _ => true
def plainAll : List PyData → Bool
  | [] => true
  | x :: xs => plainD x && plainAll xs
end
mutual
theorem plain_of : ∀ {d : PyData}, d.canLay0 = true → plainD d = true
  | .none, _ => rfl
  | .bool _, _ => rfl
  | .int _, _ => rfl
  | .str _, _ => rfl
  | .list xs, h => plain_ofs (by simpa [PyData.canLay0] using h)
  | .tuple xs, h => plain_ofs (by simpa [PyData.canLay0] using h)
  | .dict _, h => by simp [PyData.canLay0] at h
theorem plain_ofs : ∀ {d : List PyData}, PyData.canLayAll0 d = true → plainAll d = true
  | [], _ => rfl
  | x :: xs, h => by
    have h' : x.canLay0 = true ∧ PyData.canLayAll0 xs = true := by simpa [PyData.canLayAll0] using h
    show (plainD x && plainAll xs) = true
    rw [plain_of h'.1, plain_ofs h'.2]
    rfl
end
mutual
theorem Dq.dp : ∀ (d : PyData) (v : V), plainD d = true → Dq K H v d → Dp K H v d
  | .none, _, _, h => by cases h; exact .non
  | .bool b, _, _, h => by cases h; exact .bl b
  | .int i, _, _, h => by cases h; exact .int i
  | .str x, _, _, h => by cases h; exact .str x
  | .list ds, _, p, h => by
    cases h with
    | lst hs ha => exact .lst (SqL.of hs) (DqAll.dp ds _ p ha)
  | .tuple ds, _, p, h => by
    cases h with
    | tup hs ha => exact .tup hs (DqAll.dp ds _ p ha)
  | .dict _, _, p, h => by cases p
theorem DqAll.dp : ∀ (ds : List PyData) (vs : List V), plainAll ds = true → DqAll K H vs ds → DpAll K H vs ds
  | [], _, _, h => by cases h; exact .nil
  | d :: ds, _, p, h => by
    have p' : plainD d = true ∧ plainAll ds = true := by simpa [plainAll] using p
    cases h with
    | cons h1 h2 => exact .cons (Dq.dp d _ p'.1 h1) (DqAll.dp ds _ p'.2 h2)
end
theorem DqAll.len : ∀ {vs : List V} {ds : List PyData}, DqAll K H vs ds → vs.length = ds.length
  | _, _, .nil => rfl
  | _, _, .cons _ r => congrArg (· + 1) (DqAll.len r)
theorem DqAll.get : ∀ {vs : List V} {ds : List PyData} {i : Nat} {d : PyData}, DqAll K H vs ds → ds[i]? = some d → ∃ v, vs[i]? = some v ∧ Dq K H v d
  | _, _, _, _, .nil, e => by simp at e
  | _, _, 0, _, .cons r _, e => by simp at e; subst e; exact ⟨_, rfl, r⟩
  | _, _, i + 1, _, .cons _ t, e => by
    obtain ⟨v, h1, h2⟩ := DqAll.get (i := i) t (by simpa using e)
    exact ⟨v, by simpa using h1, h2⟩
theorem DqAll.getV : ∀ {vs : List V} {ds : List PyData} {i : Nat} {v : V}, DqAll K H vs ds → vs[i]? = some v → ∃ d, ds[i]? = some d ∧ Dq K H v d
  | _, _, _, _, .nil, e => by simp at e
  | _, _, 0, _, .cons r _, e => by simp at e; subst e; exact ⟨_, rfl, r⟩
  | _, _, i + 1, _, .cons _ t, e => by
    obtain ⟨v, h1, h2⟩ := DqAll.getV (i := i) t (by simpa using e)
    exact ⟨v, by simpa using h1, h2⟩
theorem DqAll.append : ∀ {vs ws : List V} {ds es : List PyData}, DqAll K H vs ds → DqAll K H ws es → DqAll K H (vs ++ ws) (ds ++ es)
  | _, _, _, _, .nil, s => s
  | _, _, _, _, .cons r t, s => .cons r (DqAll.append t s)
theorem DqAll.take : ∀ {vs : List V} {ds : List PyData} (n : Nat), DqAll K H vs ds → DqAll K H (vs.take n) (ds.take n)
  | _, _, 0, _ => .nil
  | _, _, _ + 1, .nil => .nil
  | _, _, n + 1, .cons r t => .cons r (DqAll.take n t)
theorem DqAll.drop : ∀ {vs : List V} {ds : List PyData} (n : Nat), DqAll K H vs ds → DqAll K H (vs.drop n) (ds.drop n)
  | _, _, 0, r => r
  | _, _, _ + 1, .nil => .nil
  | _, _, n + 1, .cons _ t => DqAll.drop n t
theorem DqAll.set {v : V} {d : PyData} (r : Dq K H v d) : ∀ {vs : List V} {ds : List PyData} (i : Nat), DqAll K H vs ds → DqAll K H (vs.set i v) (ds.set i d)
  | _, _, _, .nil => .nil
  | _, _, 0, .cons _ t => .cons r t
  | _, _, i + 1, .cons q t => .cons q (DqAll.set r i t)
theorem DqAll.eraseIdx : ∀ {vs : List V} {ds : List PyData} (i : Nat), DqAll K H vs ds → DqAll K H (vs.eraseIdx i) (ds.eraseIdx i)
  | _, _, _, .nil => .nil
  | _, _, 0, .cons _ t => t
  | _, _, i + 1, .cons q t => .cons q (DqAll.eraseIdx i t)
theorem DqAll.dropLast : ∀ {vs : List V} {ds : List PyData}, DqAll K H vs ds → DqAll K H vs.dropLast ds.dropLast := fun {vs ds} h => by
  rw [List.dropLast_eq_take, List.dropLast_eq_take, h.len]
  exact h.take _
theorem DqAll.reverse : ∀ {vs : List V} {ds : List PyData}, DqAll K H vs ds → DqAll K H vs.reverse ds.reverse
  | _, _, .nil => .nil
  | _, _, .cons q t => by
    rw [List.reverse_cons, List.reverse_cons]
    exact (DqAll.reverse t).append (.cons q .nil)
end

abbrev Sg := L2.St
/-- a word of a region: data, the region's n-th cell, a tuple of such -/
inductive Wd where
  | d (x : PyData)
  | c (n : Nat)
  | t (ws : List Wd)
/-- a cell of a region: a list, a dict, an instance of the class at C -/
inductive Cel where
  | l (ws : List Wd)
  | k (kvs : List (Key × Wd))
  | i (C : Nat) (fs : List (Str × Wd))
/-- what a slot holds: data that stays; a list or a dict of the def's own; a region of cells, root leading into it. t = 0 where it was made here, else pinned -/
inductive Sl where
  | d (x : PyData)
  | l (t : Nat) (xs : List PyData)
  | k (t : Nat) (kvs : List (Key × PyData))
  | r (t : Nat) (root : Nat) (cs : List Cel)
def Sl.own : Sl → Bool
  | .d _ => false
  | _ => true
/-- how many cells -/
def Sl.size : Sl → Nat
  | .d _ => 0
  | .l _ _ => 1
  | .k _ _ => 1
  | .r _ _ cs => cs.length
abbrev En := List (Option Sl)
/-- where the cells lie: the slot, the cell -/
abbrev Mu := Nat → Nat → Addr
abbrev Pin := Nat → Nat → Option Addr
/-- a is a cell of an own slot -/
def Ow (μ : Mu) (η : En) (a : Addr) : Prop := ∃ (i : Nat) (s : Sl) (n : Nat), η[i]? = some (some s) ∧ n < s.size ∧ μ i n = a
open Classical in
/-- what stays: all but the own cells and those hidden by others -/
noncomputable def vis (So : Addr → Prop) (μ : Mu) (η : En) (H : Hp) : Hp := fun a => if Ow μ η a ∨ So a then none else H a
section
variable {K : PySem.W.Frag} {So So' : Addr → Prop} {μ μ' : Mu} {η η' : En} {H H' : Hp} {a : Addr} {u : HO}
theorem vis_iff : vis So μ η H a = some u ↔ H a = some u ∧ ¬ Ow μ η a ∧ ¬ So a := by
  unfold vis
  split
  · next h => exact ⟨fun z => (by cases z), fun ⟨_, h1, h2⟩ => (h.elim h1 h2).elim⟩
  · next h => exact ⟨fun z => ⟨z, fun o => h (.inl o), fun o => h (.inr o)⟩, fun z => z.1⟩
theorem vis_same (h : ∀ a u, H a = some u → ¬ Ow μ η a → ¬ So a → H' a = some u ∧ ¬ Ow μ' η' a ∧ ¬ So' a) : Same (vis So μ η H) (vis So' μ' η' H') := fun a u e => by
  obtain ⟨h1, h2, h3⟩ := vis_iff.mp e
  exact vis_iff.mpr (h a u h1 h2 h3)
end
/-- the pairs of an own dict -/
def KvR (K : PySem.W.Frag) (H : Hp) (ws : List (Key × V)) (kvs : List (Key × PyData)) : Prop := Paired (fun (p : Key × V) (q : Key × PyData) => p.1 = q.1 ∧ Dq K H p.2 q.2) ws kvs
theorem KvR.mono {K : PySem.W.Frag} {H H' : Hp} (s : Same H H') : ∀ {ws : List (Key × V)} {kvs : List (Key × PyData)}, KvR K H ws kvs → KvR K H' ws kvs
  | _, _, .nil => .nil
  | _, _, .cons ⟨h1, h2⟩ t => .cons ⟨h1, Dq.mono s _ _ h2⟩ (KvR.mono s t)
mutual
/-- v is the word, by what stays in Hv and where the region's cells lie -/
inductive WdR (K : PySem.W.Frag) (Hv : Hp) (m : Nat → Addr) : V → Wd → Prop
  | d {v : V} {x : PyData} : Dq K Hv v x → WdR K Hv m v (.d x)
  | c (n : Nat) : WdR K Hv m (.ref (m n)) (.c n)
  | t {a : Addr} {vs : List V} {ws : List Wd} : SqT K Hv a vs → WdAll K Hv m vs ws → WdR K Hv m (.ref a) (.t ws)
inductive WdAll (K : PySem.W.Frag) (Hv : Hp) (m : Nat → Addr) : List V → List Wd → Prop
  | nil : WdAll K Hv m [] []
  | cons {v : V} {vs : List V} {w : Wd} {ws : List Wd} : WdR K Hv m v w → WdAll K Hv m vs ws → WdAll K Hv m (v :: vs) (w :: ws)
end
section
variable {K : PySem.W.Frag} {Hv Hv' : Hp} {m m' : Nat → Addr}
mutual
def wdLt (N : Nat) : Wd → Bool
  | .d _ => true
  | .c n => decide (n < N)
  | .t ws => wdsLt N ws
def wdsLt (N : Nat) : List Wd → Bool
  | [] => true
  | w :: ws => wdLt N w && wdsLt N ws
end
mutual
theorem WdR.mono (s : Same Hv Hv') {N : Nat} (hm : ∀ n, n < N → m' n = m n) : ∀ (w : Wd) (v : V), wdLt N w = true → WdR K Hv m v w → WdR K Hv' m' v w
  | .d x, v, _, h => by
    cases h with
    | d h => exact .d (h.mono' s)
  | .c n, v, hn, h => by
    cases h
    rw [← hm n (of_decide_eq_true hn)]
    exact .c n
  | .t ws, v, hn, h => by
    cases h with
    | t h1 h2 => exact .t (same_sqt s h1) (WdAll.mono s hm ws _ hn h2)
theorem WdAll.mono (s : Same Hv Hv') {N : Nat} (hm : ∀ n, n < N → m' n = m n) : ∀ (ws : List Wd) (vs : List V), wdsLt N ws = true → WdAll K Hv m vs ws → WdAll K Hv' m' vs ws
  | [], _, _, h => by cases h; exact .nil
  | w :: ws, _, hn, h => by
    have h' := Bool.and_eq_true_iff.mp hn
    cases h with
    | cons h1 h2 => exact .cons (WdR.mono s hm w _ h'.1 h1) (WdAll.mono s hm ws _ h'.2 h2)
end
mutual
theorem WdR.same' (s : Same Hv Hv') : ∀ (w : Wd) (v : V), WdR K Hv m v w → WdR K Hv' m v w
  | .d x, v, h => by
    cases h with
    | d h => exact .d (h.mono' s)
  | .c n, v, h => by
    cases h
    exact .c n
  | .t ws, v, h => by
    cases h with
    | t h1 h2 => exact .t (same_sqt s h1) (WdAll.same' s ws _ h2)
theorem WdAll.same' (s : Same Hv Hv') : ∀ (ws : List Wd) (vs : List V), WdAll K Hv m vs ws → WdAll K Hv' m vs ws
  | [], _, h => by cases h; exact .nil
  | w :: ws, _, h => by
    cases h with
    | cons h1 h2 => exact .cons (WdR.same' s w _ h1) (WdAll.same' s ws _ h2)
end
theorem WdR.same (s : Same Hv Hv') {v : V} {w : Wd} (h : WdR K Hv m v w) : WdR K Hv' m v w := WdR.same' s w v h
theorem WdAll.same (s : Same Hv Hv') {v : List V} {w : List Wd} (h : WdAll K Hv m v w) : WdAll K Hv' m v w := WdAll.same' s w v h
end
/-- pairs with names or keys -/
def WkR {κ : Type} (K : PySem.W.Frag) (Hv : Hp) (m : Nat → Addr) (ws : List (κ × V)) (kvs : List (κ × Wd)) : Prop := Paired (fun (p : κ × V) (q : κ × Wd) => p.1 = q.1 ∧ WdR K Hv m p.2 q.2) ws kvs
theorem WkR.same {κ : Type} {K : PySem.W.Frag} {Hv Hv' : Hp} {m : Nat → Addr} (s : Same Hv Hv') : ∀ {ws : List (κ × V)} {kvs : List (κ × Wd)}, WkR K Hv m ws kvs → WkR K Hv' m ws kvs
  | _, _, .nil => .nil
  | _, _, .cons ⟨h1, h2⟩ t => .cons ⟨h1, h2.same s⟩ (WkR.same s t)
/-- a cell, by the object that it is -/
def CelO (K : PySem.W.Frag) (Hv : Hp) (m : Nat → Addr) (o : HO) : Cel → Prop
  | .l ws => ∃ vs, o = .lst vs ∧ WdAll K Hv m vs ws
  | .k kvs => ∃ ws, o = .dK ws ∧ WkR K Hv m ws kvs
  | .i C fs => ∃ dx gs, o = .ins C dx gs ∧ WkR K Hv m gs fs ∧ Cls K C ∧ (∀ p ∈ gs, NoAttr K C p.1) ∧ gs.length < 1000
theorem CelO.same {K : PySem.W.Frag} {Hv Hv' : Hp} {m : Nat → Addr} {o : HO} (s : Same Hv Hv') {c : Cel} (h : CelO K Hv m o c) : CelO K Hv' m o c := by
  cases c with
  | l ws => obtain ⟨vs, e, h⟩ := h; exact ⟨vs, e, h.same s⟩
  | k ws => obtain ⟨vs, e, h⟩ := h; exact ⟨vs, e, h.same s⟩
  | i C ws => obtain ⟨dx, vs, e, h, r⟩ := h; exact ⟨dx, vs, e, h.same s, r⟩
/-- all words of a cell lead below N -/
def celLt (N : Nat) : Cel → Bool
  | .l ws => wdsLt N ws
  | .k kvs => kvs.all fun p => wdLt N p.2
  | .i _ fs => fs.all fun p => wdLt N p.2
/-- the slot's value v is what s says; Hv: what stays; m: where its cells lie -/
def SlR (K : PySem.W.Frag) (Hv H : Hp) (τ : Pin) (m : Nat → Addr) (v : V) : Sl → Prop
  | .d x => Dq K Hv v x
  | .l t xs => ∃ vs, v = .ref (m 0) ∧ H (m 0) = some (.lst vs) ∧ DqAll K Hv vs xs ∧ (t ≠ 0 → ∀ n a, τ t n = some a → n < 1 ∧ m n = a)
  | .k t kvs => ∃ ws, v = .ref (m 0) ∧ H (m 0) = some (.dK ws) ∧ KvR K Hv ws kvs ∧ (t ≠ 0 → ∀ n a, τ t n = some a → n < 1 ∧ m n = a)
  | .r t root cs => (v = .ref (m root) ∧ root < cs.length) ∧ (∀ (n : Nat) (c : Cel), cs[n]? = some c → celLt cs.length c = true ∧ ∃ o, H (m n) = some o ∧ CelO K Hv m o c) ∧ (t ≠ 0 → ∀ n a, τ t n = some a → n < cs.length ∧ m n = a)
/-- what may be written -/
def mutO : HO → Bool
  | .lst _ => true
  | .dK _ => true
  | .ins _ _ _ => true
  | _ => false
/-- the state: So: cells that others hide; Bs: what stands as it did -/
structure SR (K : PySem.W.Frag) (So : Addr → Prop) (Bs : Hp) (τ : Pin) (μ : Mu) (σ : Sg) (H : Hp) (η : En) : Prop where
  len : η.length = σ.length
  sl : ∀ (i : Nat) (s : Sl), η[i]? = some (some s) → ∃ v, σ[i]? = some (some v) ∧ SlR K (vis So μ η H) H τ (μ i) v s
  inj : ∀ (i j : Nat) (s t : Sl) (n m : Nat), η[i]? = some (some s) → η[j]? = some (some t) → n < s.size → m < t.size → μ i n = μ j m → i = j ∧ n = m
  base : ∀ a u, Bs a = some u → H a = some u ∧ ¬ Ow μ η a
  so : ∀ a, So a → ∃ u, Bs a = some u ∧ mutO u = true
open Classical in
noncomputable def mx (μ : Mu) (η : En) (H : Hp) : Hp := fun a => if Ow μ η a then none else H a
theorem mx_iff {μ : Mu} {η : En} {H : Hp} {a : Addr} {u : HO} : mx μ η H a = some u ↔ H a = some u ∧ ¬ Ow μ η a := by
  unfold mx
  split
  · next h => exact ⟨fun z => (by cases z), fun z => (z.2 h).elim⟩
  · next h => exact ⟨fun z => ⟨z, h⟩, fun z => z.1⟩
section
variable {K : PySem.W.Frag} {So : Addr → Prop} {Bs Bs' : Hp} {τ : Pin} {μ μ2 : Mu} {σ : Sg} {η η2 : En} {H H2 : Hp} {a p : Addr} {u : HO}
theorem SlR.mono {Hv Hv' H H' : Hp} {m : Nat → Addr} {v : V} {s : Sl} (sm : Same Hv Hv') (h : SlR K Hv H τ m v s) (ho : ∀ n u, n < s.size → H (m n) = some u → H' (m n) = some u) : SlR K Hv' H' τ m v s := by
  cases s with
  | d x => exact Dq.mono sm _ _ h
  | l t xs =>
    obtain ⟨vs, e, h1, h2, h3⟩ := h
    exact ⟨vs, e, ho 0 _ Nat.zero_lt_one h1, DqAll.mono sm _ _ h2, h3⟩
  | k t kvs =>
    obtain ⟨ws, e, h1, h2, h3⟩ := h
    exact ⟨ws, e, ho 0 _ Nat.zero_lt_one h1, KvR.mono sm h2, h3⟩
  | r t root cs =>
    obtain ⟨h1, h2, h3⟩ := h
    refine ⟨h1, fun n c e => ?_, h3⟩
    obtain ⟨lt, o, e1, e2⟩ := h2 n c e
    exact ⟨lt, o, ho n o (List.getElem?_eq_some_iff.mp e).1 e1, e2.same sm⟩
/-- an own cell stands, and may be written -/
theorem SlR.cell {Hv : Hp} {m : Nat → Addr} {v : V} {s : Sl} (h : SlR K Hv H τ m v s) {n : Nat} (hn : n < s.size) : ∃ o, H (m n) = some o ∧ mutO o = true := by
  cases s with
  | d x => exact absurd hn (Nat.not_lt_zero _)
  | l t xs =>
    obtain ⟨vs, e, h1, h2, h3⟩ := h
    obtain rfl : n = 0 := by have : n < 1 := hn; omega
    exact ⟨_, h1, rfl⟩
  | k t kvs =>
    obtain ⟨vs, e, h1, h2, h3⟩ := h
    obtain rfl : n = 0 := by have : n < 1 := hn; omega
    exact ⟨_, h1, rfl⟩
  | r t root cs =>
    obtain ⟨h1, h2, h3⟩ := h
    obtain ⟨_, o, e1, e2⟩ := h2 n _ (List.getElem?_eq_getElem hn)
    refine ⟨o, e1, ?_⟩
    revert e2
    generalize cs[n] = c
    intro e2
    cases c with
    | l ws => obtain ⟨vs, rfl, _⟩ := e2; rfl
    | k ws => obtain ⟨vs, rfl, _⟩ := e2; rfl
    | i C ws => obtain ⟨dx, vs, rfl, _⟩ := e2; rfl
theorem SR.ow (r : SR K So Bs τ μ σ H η) (h : Ow μ η a) : ∃ o, H a = some o ∧ mutO o = true := by
  obtain ⟨i, s, n, e, hn, rfl⟩ := h
  obtain ⟨v, ev, hs⟩ := r.sl i s e
  exact hs.cell hn
theorem SR.so_H (r : SR K So Bs τ μ σ H η) (h : So a) : (∃ u, H a = some u) ∧ ¬ Ow μ η a := by
  obtain ⟨u, hu, _⟩ := r.so a h
  obtain ⟨h1, h2⟩ := r.base a u hu
  exact ⟨⟨u, h1⟩, h2⟩
theorem SR.so_M (r : SR K So Bs τ μ σ H η) (h : So a) : ∃ u, H a = some u ∧ mutO u = true := by
  obtain ⟨u, hu, hm⟩ := r.so a h
  exact ⟨u, (r.base a u hu).1, hm⟩
/-- the largest base -/
theorem SR.max (r : SR K So Bs τ μ σ H η) : SR K So (mx μ η H) τ μ σ H η :=
  ⟨r.len, r.sl, r.inj, fun a u h => mx_iff.mp h, fun a h => by
    obtain ⟨u, hu, hm⟩ := r.so_M h
    exact ⟨u, mx_iff.mpr ⟨hu, (r.so_H h).2⟩, hm⟩⟩
/-- back to the base ahead, whatever the slots -/
theorem SR.backS {σ2 : Sg} (r : SR K So Bs τ μ σ H η) (r2 : SR K So (mx μ η H) τ μ2 σ2 H2 η2) : SR K So Bs τ μ2 σ2 H2 η2 :=
  ⟨r2.len, r2.sl, r2.inj, fun a u h => r2.base a u (mx_iff.mpr (r.base a u h)), r.so⟩
theorem SR.back (r : SR K So Bs τ μ σ H η) (r2 : SR K So (mx μ η H) τ μ2 σ H2 η2) : SR K So Bs τ μ2 σ H2 η2 := r.backS r2
theorem SR.grown {σ2 : Sg} (r2 : SR K So (mx μ η H) τ μ2 σ2 H2 η2) : Same (vis So μ η H) (vis So μ2 η2 H2) :=
  vis_same fun a u h1 h2 h3 => ⟨(r2.base a u (mx_iff.mpr ⟨h1, h2⟩)).1, (r2.base a u (mx_iff.mpr ⟨h1, h2⟩)).2, h3⟩
theorem SR.base_mono (r : SR K So Bs τ μ σ H η) (h : ∀ a u, Bs' a = some u → Bs a = some u) (hs : ∀ a, So a → ∃ u, Bs' a = some u ∧ mutO u = true) : SR K So Bs' τ μ σ H η :=
  ⟨r.len, r.sl, r.inj, fun a u e => r.base a u (h a u e), hs⟩
/-- a new thing -/
theorem vis_new (hp : H p = none) : Same (vis So μ η H) (vis So μ η (upd H p u)) :=
  vis_same fun a w h1 h2 h3 => ⟨(upd_ne (ne_of_none h1 hp)).trans h1, h2, h3⟩
theorem SR.new (r : SR K So Bs τ μ σ H η) (hp : H p = none) : SR K So Bs τ μ σ (upd H p u) η := by
  refine ⟨r.len, fun i s e => ?_, r.inj, fun a w h => ?_, r.so⟩
  · obtain ⟨v, ev, hs⟩ := r.sl i s e
    exact ⟨v, ev, hs.mono (vis_new hp) fun n w _ h => (upd_ne (ne_of_none h hp)).trans h⟩
  · obtain ⟨h1, h2⟩ := r.base a w h
    exact ⟨(upd_ne (ne_of_none h1 hp)).trans h1, h2⟩
theorem SR.ow_ne (r : SR K So Bs τ μ σ H η) (hp : H p = none) : ¬ Ow μ η p := fun h => by
  obtain ⟨_, e, _⟩ := r.ow h
  rw [hp] at e
  cases e
theorem SR.so_ne (r : SR K So Bs τ μ σ H η) (hp : H p = none) : ¬ So p := fun h => by
  obtain ⟨⟨u, e⟩, _⟩ := r.so_H h
  rw [hp] at e
  cases e
theorem SR.vis_at (r : SR K So Bs τ μ σ H η) (hp : H p = none) : vis So μ η (upd H p u) p = some u :=
  vis_iff.mpr ⟨upd_same, r.ow_ne hp, r.so_ne hp⟩
/-- hidden more: the cell at p -/
abbrev plus (So : Addr → Prop) (p : Addr) : Addr → Prop := fun a => So a ∨ a = p
theorem SR.hide (r : SR K So Bs τ μ σ H η) (hp : H p = none) (hu : mutO u = true := by rfl) : SR K (plus So p) (upd Bs p u) τ μ σ (upd H p u) η := by
  have hs : Same (vis So μ η H) (vis (plus So p) μ η (upd H p u)) := vis_same fun a w h1 h2 h3 =>
    ⟨(upd_ne (ne_of_none h1 hp)).trans h1, h2, fun z => z.elim h3 fun z => ne_of_none h1 hp z⟩
  refine ⟨r.len, fun i s e => ?_, r.inj, fun a w h => ?_, fun a h => ?_⟩
  · obtain ⟨v, ev, h1⟩ := r.sl i s e
    exact ⟨v, ev, h1.mono hs fun n w _ h => (upd_ne (ne_of_none h hp)).trans h⟩
  · by_cases e : a = p
    · subst e
      rw [upd_same] at h
      cases h
      exact ⟨upd_same, r.ow_ne hp⟩
    · rw [upd_ne e] at h
      obtain ⟨h1, h2⟩ := r.base a w h
      exact ⟨(upd_ne e).trans h1, h2⟩
  · by_cases e : a = p
    · subst e
      exact ⟨u, upd_same, hu⟩
    · rcases h with h | h
      · obtain ⟨w, hw, hm⟩ := r.so a h
        exact ⟨w, (upd_ne e).trans hw, hm⟩
      · exact (e h).elim
theorem vis_plus : Same (vis (plus So p) μ η H) (vis So μ η H) := vis_same fun a w h1 h2 h3 => ⟨h1, h2, fun z => h3 (.inl z)⟩
/-- shown again -/
theorem SR.unhide (r : SR K (plus So p) (upd Bs p u) τ μ σ H η) (hp : Bs p = none) (hs : ∀ a, So a → ∃ u, Bs a = some u ∧ mutO u = true) : SR K So Bs τ μ σ H η :=
  ⟨r.len, fun i s e => by
    obtain ⟨v, ev, h1⟩ := r.sl i s e
    exact ⟨v, ev, h1.mono vis_plus fun _ _ _ h => h⟩, r.inj, fun a w h => r.base a w (by rw [upd_ne (ne_of_none h hp)]; exact h), hs⟩
/-- the hidden cell is written -/
theorem SR.put (r : SR K (plus So p) (upd Bs p u) τ μ σ H η) (hn : ¬ So p) {w : HO} (hw : mutO w = true := by rfl) : SR K (plus So p) (upd Bs p w) τ μ σ (upd H p w) η := by
  have np : ¬ Ow μ η p := (r.base p u upd_same).2
  have hs : Same (vis (plus So p) μ η H) (vis (plus So p) μ η (upd H p w)) := vis_same fun a v h1 h2 h3 =>
    ⟨(upd_ne (fun e => h3 (.inr e))).trans h1, h2, h3⟩
  refine ⟨r.len, fun i s e => ?_, r.inj, fun a v h => ?_, fun a h => ?_⟩
  · obtain ⟨v, ev, h1⟩ := r.sl i s e
    refine ⟨v, ev, h1.mono hs fun n v' hn h => (upd_ne ?_).trans h⟩
    intro e2
    exact np ⟨i, s, n, e, hn, e2⟩
  · by_cases e : a = p
    · subst e
      rw [upd_same] at h
      cases h
      exact ⟨upd_same, np⟩
    · rw [upd_ne e] at h
      obtain ⟨h1, h2⟩ := r.base a v (by rw [upd_ne e]; exact h)
      exact ⟨(upd_ne e).trans h1, h2⟩
  · by_cases e : a = p
    · subst e
      exact ⟨w, upd_same, hw⟩
    · obtain ⟨v, hv, hm⟩ := r.so a h
      rw [upd_ne e] at hv
      exact ⟨v, (upd_ne e).trans hv, hm⟩
end
end DA

/-! slots set -/
namespace DA
open PySem PySem.Spec PyProof.Rows L2
section
variable {K : PySem.W.Frag} {So So' : Addr → Prop} {Bs Bs' : Hp} {τ : Pin} {μ : Mu} {σ : Sg} {η η2 : En} {H H2 : Hp} {a p : Addr} {u : HO} {v : V} {d x : PyData} {n : Nat} {s s' : Sl} {m : Nat → Addr}
theorem set_get {α : Type} {l : List α} {n i : Nat} {x y : α} (h : (l.set n x)[i]? = some y) : (i = n ∧ y = x ∧ n < l.length) ∨ (i ≠ n ∧ l[i]? = some y) := by
  by_cases e : n = i
  · subst e
    by_cases hl : n < l.length
    · rw [List.getElem?_set_self hl] at h
      cases h
      exact .inl ⟨rfl, rfl, hl⟩
    · rw [List.getElem?_eq_none (by rw [List.length_set]; omega)] at h
      cases h
  · rw [List.getElem?_set_ne e] at h
    exact .inr ⟨fun z => e z.symm, h⟩
/-- where the cells of slot n lie now -/
def mset (μ : Mu) (n : Nat) (m : Nat → Addr) : Mu := fun i => if i = n then m else μ i
theorem mset_at : mset μ n m n = m := if_pos rfl
theorem mset_ne {i : Nat} (h : i ≠ n) : mset μ n m i = μ i := if_neg h
/-- a slot is given what has no cells -/
theorem SR.setN {o : Option Sl} (r : SR K So Bs τ μ σ H η) (ho : ∀ s, o = some s → s.size = 0) {w : Option V} (hv : ∀ s, o = some s → ∃ v, w = some v ∧ ∀ Hv, Same (vis So μ η H) Hv → SlR K Hv H τ (μ n) v s) : SR K So Bs τ μ (σ.set n w) H (η.set n o) := by
  have nsz : ∀ {i : Nat} {s : Sl}, (η.set n o)[i]? = some (some s) → (i = n ∧ o = some s) ∨ (i ≠ n ∧ η[i]? = some (some s)) := fun {i s} e => by
    rcases set_get e with ⟨h1, h2, _⟩ | h
    · exact .inl ⟨h1, h2.symm⟩
    · exact .inr h
  have ow : ∀ a, Ow μ (η.set n o) a → Ow μ η a := by
    rintro a ⟨i, s, k, e, hk, ea⟩
    rcases nsz e with ⟨_, e2⟩ | ⟨_, e2⟩
    · rw [ho s e2] at hk
      exact absurd hk (Nat.not_lt_zero _)
    · exact ⟨i, s, k, e2, hk, ea⟩
  have hs : Same (vis So μ η H) (vis So μ (η.set n o) H) := vis_same fun a w h1 h2 h3 => ⟨h1, fun z => h2 (ow a z), h3⟩
  refine ⟨by rw [List.length_set, List.length_set]; exact r.len, fun i s e => ?_, fun i j s t k l h1 h2 h3 h4 h5 => ?_, fun a w h => ?_, r.so⟩
  · rcases set_get e with ⟨rfl, e2, hl⟩ | ⟨ne, e2⟩
    · obtain ⟨v, ev, h1⟩ := hv s e2.symm
      exact ⟨v, by rw [List.getElem?_set_self (by rw [← r.len]; exact hl), ev], h1 _ hs⟩
    · obtain ⟨v', ev, h1⟩ := r.sl i s e2
      exact ⟨v', by rw [List.getElem?_set_ne (fun z => ne z.symm)]; exact ev, h1.mono hs fun _ _ _ h => h⟩
  · rcases nsz h1 with ⟨_, e2⟩ | ⟨_, e1⟩
    · rw [ho s e2] at h3
      exact absurd h3 (Nat.not_lt_zero _)
    rcases nsz h2 with ⟨_, e2⟩ | ⟨_, e2⟩
    · rw [ho t e2] at h4
      exact absurd h4 (Nat.not_lt_zero _)
    exact r.inj i j s t k l e1 e2 h3 h4 h5
  · obtain ⟨h1, h2⟩ := r.base a w h
    exact ⟨h1, fun z => h2 (ow a z)⟩
theorem SR.setD (r : SR K So Bs τ μ σ H η) (hv : Dq K (vis So μ η H) v d) : SR K So Bs τ μ (σ.set n (some v)) H (η.set n (some (.d d))) :=
  r.setN (fun s e => by cases e; rfl) fun s e => by cases e; exact ⟨v, rfl, fun Hv sm => Dq.mono sm _ _ hv⟩
theorem SR.drop (r : SR K So Bs τ μ σ H η) {o : Option V} : SR K So Bs τ μ (σ.set n o) H (η.set n none) :=
  r.setN (fun s e => by cases e) fun s e => by cases e
/-- a slot is given hidden cells, as its own -/
theorem SR.setG (r : SR K So' Bs' τ μ σ H η) (hsub : ∀ a, So a → So' a) (hso' : ∀ a, So' a → So a ∨ ∃ k, k < s.size ∧ m k = a) (hhid : ∀ k, k < s.size → So' (m k)) (hno : ∀ k, k < s.size → ¬ So (m k))
    (hinj : ∀ k l, k < s.size → l < s.size → m k = m l → k = l) (hb : ∀ a u, Bs a = some u → Bs' a = some u) (hbn : ∀ k, k < s.size → Bs (m k) = none) (hso : ∀ a, So a → ∃ u, Bs a = some u ∧ mutO u = true) (hv : SlR K (vis So' μ η H) H τ m v s) :
    SR K So Bs τ (mset μ n m) (σ.set n (some v)) H (η.set n (some s)) := by
  have now : ∀ k, k < s.size → ¬ Ow μ η (m k) := fun k hk z => (r.so_H (hhid k hk)).2 z
  have own' : ∀ {i : Nat} {s' : Sl}, (η.set n (some s))[i]? = some (some s') → (i = n ∧ s' = s) ∨ (i ≠ n ∧ η[i]? = some (some s')) := fun {i s'} e => by
    rcases set_get e with ⟨h1, h2, _⟩ | h
    · cases h2
      exact .inl ⟨h1, rfl⟩
    · exact .inr h
  have ow : ∀ a, Ow (mset μ n m) (η.set n (some s)) a → Ow μ η a ∨ ∃ k, k < s.size ∧ m k = a := by
    rintro a ⟨i, s', k, e, hk, ea⟩
    rcases own' e with ⟨rfl, rfl⟩ | ⟨ne, e2⟩
    · rw [mset_at] at ea
      exact .inr ⟨k, hk, ea⟩
    · rw [mset_ne ne] at ea
      exact .inl ⟨i, s', k, e2, hk, ea⟩
  have hs : Same (vis So' μ η H) (vis So (mset μ n m) (η.set n (some s)) H) := vis_same fun a w h1 h2 h3 =>
    ⟨h1, fun z => (ow a z).elim h2 fun ⟨k, hk, e⟩ => h3 (by rw [← e]; exact hhid k hk), fun z => h3 (hsub a z)⟩
  refine ⟨by rw [List.length_set, List.length_set]; exact r.len, fun i s' e => ?_, fun i j s1 s2 k l h1 h2 h3 h4 h5 => ?_, fun a w h => ?_, hso⟩
  · rcases set_get e with ⟨rfl, e2, hl⟩ | ⟨ne, e2⟩
    · cases e2
      refine ⟨v, List.getElem?_set_self (by rw [← r.len]; exact hl), ?_⟩
      rw [mset_at]
      exact hv.mono hs fun _ _ _ h => h
    · obtain ⟨v', ev, h1⟩ := r.sl i s' e2
      refine ⟨v', by rw [List.getElem?_set_ne (fun z => ne z.symm)]; exact ev, ?_⟩
      rw [mset_ne ne]
      exact h1.mono hs fun _ _ _ h => h
  · rcases own' h1 with ⟨rfl, rfl⟩ | ⟨n1, e1⟩
    · rw [mset_at] at h5
      rcases own' h2 with ⟨rfl, rfl⟩ | ⟨n2, e2⟩
      · rw [mset_at] at h5
        exact ⟨rfl, hinj k l h3 h4 h5⟩
      · rw [mset_ne n2] at h5
        exact (now k h3 ⟨j, s2, l, e2, h4, h5.symm⟩).elim
    · rw [mset_ne n1] at h5
      rcases own' h2 with ⟨rfl, rfl⟩ | ⟨n2, e2⟩
      · rw [mset_at] at h5
        exact (now l h4 ⟨i, s1, k, e1, h3, h5⟩).elim
      · rw [mset_ne n2] at h5
        exact r.inj i j s1 s2 k l e1 e2 h3 h4 h5
  · obtain ⟨h1, h2⟩ := r.base a w (hb a w h)
    refine ⟨h1, fun z => (ow a z).elim h2 fun ⟨k, hk, e⟩ => ?_⟩
    rw [← e, hbn k hk] at h
    cases h
/-- one hidden cell -/
theorem SR.setO (r : SR K (plus So p) (upd Bs p u) τ μ σ H η) (hn : ¬ So p) (hb : Bs p = none) (hso : ∀ a, So a → ∃ u, Bs a = some u ∧ mutO u = true) (h1 : s.size = 1) (hv : SlR K (vis (plus So p) μ η H) H τ (fun _ => p) v s) :
    SR K So Bs τ (mset μ n fun _ => p) (σ.set n (some v)) H (η.set n (some s)) := by
  refine r.setG (fun a z => .inl z) (fun a z => z.elim .inl fun e => .inr ⟨0, by omega, e.symm⟩) (fun k _ => .inr rfl) (fun k _ => hn) (fun k l hk hl _ => by omega) (fun a w h => ?_) (fun k _ => hb) hso hv
  rw [upd_ne (ne_of_none h hb)]
  exact h
/-- an own list that was made here is let go of: data from now on -/
theorem SR.free (r : SR K So Bs τ μ σ H η) {xs : List PyData} (e : η[n]? = some (some (.l 0 xs))) : SR K So Bs τ μ σ H (η.set n (some (.d (.list xs)))) ∧ ∃ a, σ[n]? = some (some (.ref a)) ∧ Dq K (vis So μ (η.set n (some (.d (.list xs)))) H) (.ref a) (.list xs) := by
  obtain ⟨v, ev, vs, rfl, h1, h2, _⟩ := r.sl n _ e
  have hn : n < η.length := (List.getElem?_eq_some_iff.mp e).1
  have ow : ∀ b, Ow μ (η.set n (some (.d (.list xs)))) b → Ow μ η b ∧ b ≠ μ n 0 := by
    rintro b ⟨i, s, k, e1, hk, ea⟩
    rcases set_get e1 with ⟨rfl, e2, _⟩ | ⟨ne, e2⟩
    · cases e2
      exact absurd hk (Nat.not_lt_zero _)
    · refine ⟨⟨i, s, k, e2, hk, ea⟩, fun z => ne ?_⟩
      exact (r.inj i n s _ k 0 e2 e hk Nat.zero_lt_one (ea.trans z)).1
  have oa : Ow μ η (μ n 0) := ⟨n, _, 0, e, Nat.zero_lt_one, rfl⟩
  have na : ¬ So (μ n 0) := fun z => (r.so_H z).2 oa
  have hs : Same (vis So μ η H) (vis So μ (η.set n (some (.d (.list xs)))) H) := vis_same fun a w h1 h2 h3 => ⟨h1, fun z => h2 (ow a z).1, h3⟩
  have hd : Dq K (vis So μ (η.set n (some (.d (.list xs)))) H) (.ref (μ n 0)) (.list xs) := .lst (vis_iff.mpr ⟨h1, fun z => (ow _ z).2 rfl, na⟩) (DqAll.mono hs _ _ h2)
  refine ⟨⟨by rw [List.length_set]; exact r.len, fun i s e1 => ?_, fun i j s t k l g1 g2 g3 g4 g5 => ?_, fun b w h => ?_, r.so⟩, _, ev, hd⟩
  · rcases set_get e1 with ⟨rfl, e2, hl⟩ | ⟨ne, e2⟩
    · cases e2
      exact ⟨_, ev, hd⟩
    · obtain ⟨v', ev', h1⟩ := r.sl i s e2
      exact ⟨v', ev', h1.mono hs fun _ _ _ h => h⟩
  · have go : ∀ {i : Nat} {s : Sl} {k : Nat}, (η.set n (some (.d (.list xs))))[i]? = some (some s) → k < s.size → η[i]? = some (some s) := fun {i s k} e hk => by
      rcases set_get e with ⟨rfl, e2, _⟩ | ⟨ne, e2⟩
      · cases e2
        exact absurd hk (Nat.not_lt_zero _)
      · exact e2
    exact r.inj i j s t k l (go g1 g3) (go g2 g4) g3 g4 g5
  · obtain ⟨h1, h2⟩ := r.base b w h
    exact ⟨h1, fun z => h2 (ow b z).1⟩
/-- an own slot's cells are written, new ones are laid -/
theorem SR.upG (r : SR K So Bs τ μ σ H η) (e : η[n]? = some (some s)) (ev : σ[n]? = some (some v)) (hm : ∀ k, k < s.size → m k = μ n k) (hsz : s.size ≤ s'.size) (hnew : ∀ k, s.size ≤ k → k < s'.size → H (m k) = none)
    (hinj : ∀ k l, s.size ≤ k → k < s'.size → s.size ≤ l → l < s'.size → m k = m l → k = l) (hk : ∀ a u, H a = some u → (∀ k, k < s.size → a ≠ μ n k) → H2 a = some u) (hv : ∀ Hv, Same (vis So μ η H) Hv → SlR K Hv H2 τ m v s') :
    SR K So Bs τ (mset μ n m) σ H2 (η.set n (some s')) ∧ Same (vis So μ η H) (vis So (mset μ n m) (η.set n (some s')) H2) := by
  have hn : n < η.length := (List.getElem?_eq_some_iff.mp e).1
  have own' : ∀ {i : Nat} {t : Sl}, (η.set n (some s'))[i]? = some (some t) → (i = n ∧ t = s') ∨ (i ≠ n ∧ η[i]? = some (some t)) := fun {i t} e => by
    rcases set_get e with ⟨h1, h2, _⟩ | h
    · cases h2
      exact .inl ⟨h1, rfl⟩
    · exact .inr h
  have ow : ∀ b, Ow (mset μ n m) (η.set n (some s')) b → Ow μ η b ∨ H b = none := by
    rintro b ⟨i, t, k, e1, hkt, ea⟩
    rcases own' e1 with ⟨rfl, rfl⟩ | ⟨ne, e2⟩
    · rw [mset_at] at ea
      by_cases hlt : k < s.size
      · rw [hm k hlt] at ea
        exact .inl ⟨i, s, k, e, hlt, ea⟩
      · rw [← ea]
        exact .inr (hnew k (by omega) hkt)
    · rw [mset_ne ne] at ea
      exact .inl ⟨i, t, k, e2, hkt, ea⟩
  have nn : ∀ a, ¬ Ow μ η a → ∀ k, k < s.size → a ≠ μ n k := fun a h k hk z => h ⟨n, s, k, e, hk, z.symm⟩
  have hs : Same (vis So μ η H) (vis So (mset μ n m) (η.set n (some s')) H2) := vis_same fun b w h1 h2 h3 => ⟨hk b w h1 (nn b h2), fun z => (ow b z).elim h2 fun z => (by rw [h1] at z; cases z), h3⟩
  refine ⟨⟨by rw [List.length_set]; exact r.len, fun i t e1 => ?_, fun i j s1 s2 k l g1 g2 g3 g4 g5 => ?_, fun b w h => ?_, r.so⟩, hs⟩
  · rcases set_get e1 with ⟨rfl, e2, hl⟩ | ⟨ne, e2⟩
    · cases e2
      refine ⟨v, ev, ?_⟩
      rw [mset_at]
      exact hv _ hs
    · obtain ⟨v', ev', h1⟩ := r.sl i t e2
      refine ⟨v', ev', ?_⟩
      rw [mset_ne ne]
      refine h1.mono hs fun k w hkk h => hk _ w h fun l hl z => ne ?_
      exact (r.inj i n t s k l e2 e hkk hl z).1
  · have old : ∀ {i : Nat} {t : Sl} {k : Nat}, η[i]? = some (some t) → k < t.size → ∃ o, H (μ i k) = some o := fun {i t k} e hk => by
      obtain ⟨o, h, _⟩ := r.ow ⟨i, t, k, e, hk, rfl⟩
      exact ⟨o, h⟩
    rcases own' g1 with ⟨rfl, rfl⟩ | ⟨n1, e1⟩
    · rw [mset_at] at g5
      rcases own' g2 with ⟨rfl, rfl⟩ | ⟨n2, e2⟩
      · rw [mset_at] at g5
        refine ⟨rfl, ?_⟩
        by_cases h1 : k < s.size
        · by_cases h2 : l < s.size
          · rw [hm k h1, hm l h2] at g5
            exact (r.inj _ _ s s k l e e h1 h2 g5).2
          · obtain ⟨o, ho⟩ := old e h1
            rw [← hm k h1, g5, hnew l (by omega) g4] at ho
            cases ho
        · by_cases h2 : l < s.size
          · obtain ⟨o, ho⟩ := old e h2
            rw [← hm l h2, ← g5, hnew k (by omega) g3] at ho
            cases ho
          · exact hinj k l (by omega) g3 (by omega) g4 g5
      · rw [mset_ne n2] at g5
        by_cases h1 : k < s.size
        · rw [hm k h1] at g5
          exact (n2 (r.inj j i s2 s l k e2 e g4 h1 g5.symm).1).elim
        · obtain ⟨o, ho⟩ := old e2 g4
          rw [← g5, hnew k (by omega) g3] at ho
          cases ho
    · rw [mset_ne n1] at g5
      rcases own' g2 with ⟨rfl, rfl⟩ | ⟨n2, e2⟩
      · rw [mset_at] at g5
        by_cases h2 : l < s.size
        · rw [hm l h2] at g5
          exact (n1 (r.inj i j s1 s k l e1 e g3 h2 g5).1).elim
        · obtain ⟨o, ho⟩ := old e1 g3
          rw [g5, hnew l (by omega) g4] at ho
          cases ho
      · rw [mset_ne n2] at g5
        exact r.inj i j s1 s2 k l e1 e2 g3 g4 g5
  · obtain ⟨h1, h2⟩ := r.base b w h
    exact ⟨hk b w h1 (nn b h2), fun z => (ow b z).elim h2 fun z => by rw [h1] at z; cases z⟩
theorem mset_same : mset μ n (μ n) = μ := by
  funext i
  unfold mset
  split
  · next e => rw [e]
  · rfl
/-- the own cell of a flat slot is written -/
theorem SR.write (r : SR K So Bs τ μ σ H η) (e : η[n]? = some (some s)) (hw : match s, s' with
    | .l t _, .l t' xs' => t' = t ∧ ∃ vs', u = .lst vs' ∧ DqAll K (vis So μ η H) vs' xs'
    | .k t _, .k t' kvs' => t' = t ∧ ∃ ws', u = .dK ws' ∧ KvR K (vis So μ η H) ws' kvs'
    | _, _ => False) : SR K So Bs τ μ σ (upd H (μ n 0) u) (η.set n (some s')) ∧ Same (vis So μ η H) (vis So μ (η.set n (some s')) (upd H (μ n 0) u)) := by
  obtain ⟨v, ev, h0⟩ := r.sl n s e
  have h1 : s.size = 1 ∧ s'.size = 1 := by cases s <;> cases s' <;> first | exact ⟨rfl, rfl⟩ | exact hw.elim
  have := r.upG (m := μ n) (s' := s') (H2 := upd H (μ n 0) u) e ev (fun _ _ => rfl) (by omega) (fun k h2 h3 => by omega) (fun k l h2 h3 h4 h5 _ => by omega) (fun a w h hne => (upd_ne (hne 0 (by omega))).trans h) fun Hv sm => by
    cases s <;> cases s' <;> first | exact hw.elim | skip
    · obtain ⟨rfl, vs', rfl, hd⟩ := hw
      obtain ⟨vs, ea, _, _, ht⟩ := h0
      exact ⟨vs', ea, upd_same, DqAll.mono sm _ _ hd, ht⟩
    · obtain ⟨rfl, vs', rfl, hd⟩ := hw
      obtain ⟨vs, ea, _, _, ht⟩ := h0
      exact ⟨vs', ea, upd_same, hd.mono sm, ht⟩
  rw [mset_same] at this
  exact this
end
end DA

/-! judgements over data -/
namespace DA
open PySem PySem.Spec PyProof.Rows L2
/-- what comes of something: a value and the slots behind it; an exception -/
inductive Rs (α : Type) where
  | no
  | ok (a : α) (η : En)
  | ex (n : Nat) (as : List PyData) (η : En)
def Rs.bind {α β : Type} (r : Rs α) (f : α → En → Rs β) : Rs β := match r with
  | .no => .no
  | .ok a η => f a η
  | .ex n as η => .ex n as η
/-- what is known of an exception of the sort n with the things as: its class, its dict, by what stands -/
structure Exs where
  R : Nat → List PyData → Value → Option Addr → Hp → Prop
  mono : ∀ {n as cls dd H H'}, Same H H' → R n as cls dd H → R n as cls dd H'
instance : CoeFun Exs (fun _ => Nat → List PyData → Value → Option Addr → Hp → Prop) := ⟨Exs.R⟩
section
variable (K : PySem.W.Frag) (So : Addr → Prop) (Bs : Hp) (τ : Pin) (σ : Sg) (EX : Exs) (W : WX)
/-- what is to be shown of an outcome -/
def Post {α : Type} (r : Rs α) (P : α → En → Mu → Hp → Prop) : Prop := match r with
  | .no => False
  | .ok a η => ∀ {μ : Mu} H, SR K So Bs τ μ σ H η → P a η μ H
  | .ex n as η => ∀ {μ : Mu} H cls dd, SR K So Bs τ μ σ H η → EX n as cls dd (vis So μ η H) → W cls dd σ H
end
section
variable {X : Cx} {e : Expr} {es : List Expr} {st : Stmt} {sts : List Stmt} {tg : Expr}
/-- some rule reads it so -/
def We (X : Cx) (e : Expr) (σ : Sg) (H : Hp) (Q : VK) : Prop := ∃ t, PE X e t ∧ t σ H Q
theorem we : PE X e (We X e) := ⟨fun pins s σ H Q I ⟨t, h, q⟩ => h.run pins s σ H Q I q⟩
def Wt (X : Cx) (e : Expr) (σ : Sg) (H : Hp) (Q : Bool → Hp → Prop) : Prop := ∃ t, PT X e t ∧ t σ H Q
theorem wt : PT X e (Wt X e) := ⟨fun pins s σ H Q I ⟨t, h, q⟩ => h.run pins s σ H Q I q⟩
def Ww (X : Cx) (e : Expr) (σ : Sg) (H : Hp) (Q : Bool → Hp → Prop) : Prop := ∃ t, PW X e t ∧ t σ H Q
theorem ww : PW X e (Ww X e) := ⟨fun wh pins s σ H Q I ⟨t, h, q⟩ => h.run wh pins s σ H Q I q⟩
def Wa (X : Cx) (es : List Expr) (σ : Sg) (H : Hp) (Q : List V → Hp → Prop) : Prop := ∃ t, PA X es t ∧ t σ H Q
theorem wa : PA X es (Wa X es) := ⟨fun pos pins s σ H Q I ⟨t, h, q⟩ => h.run pos pins s σ H Q I q⟩
def Ws (X : Cx) (st : Stmt) (D : Ends) (σ : Sg) (H : Hp) : Prop := ∃ t, PS X st t ∧ t D σ H
theorem ws : PS X st (Ws X st) := ⟨fun pins s σ H D I ⟨t, h, q⟩ => h.run pins s σ H D I q⟩
def Wss (X : Cx) (sts : List Stmt) (D : Ends) (σ : Sg) (H : Hp) : Prop := ∃ t, PSs X sts t ∧ t D σ H
theorem wss : PSs X sts (Wss X sts) := ⟨fun pins s σ H D I ⟨t, h, q⟩ => h.run pins s σ H D I q⟩
def Wg (X : Cx) (tg : Expr) (v : V) (σ : Sg) (H : Hp) (Q : Sg → Hp → Prop) : Prop := ∃ t, PG X tg t ∧ t v σ H Q
theorem wg : PG X tg (Wg X tg) := ⟨fun pins s σ H v u Q I r ⟨t, h, q⟩ => h.run pins s σ H v u Q I r q⟩
def Wgs (X : Cx) (tgs : List Expr) (vs : List V) (σ : Sg) (H : Hp) (Q : Sg → Hp → Prop) : Prop := ∃ t, PGs X tgs t ∧ t vs σ H Q
theorem wgs : PGs X es (Wgs X es) := ⟨fun pins s σ H v u Q I r ⟨t, h, q⟩ => h.run pins s σ H v u Q I r q⟩
def Wi (X : Cx) (tg iter : Expr) (σ : Sg) (H : Hp) (R : It → Hp → Prop) : Prop := ∃ t, PI X tg iter t ∧ t σ H R
theorem wi : PI X tg e (Wi X tg e) := ⟨fun pins s σ H Q I ⟨t, h, q⟩ => h.run pins s σ H Q I q⟩
def Wo (X : Cx) (f : Value → Value → Sem Value) : R2 := fun x y H Q => ∃ r, OpR X f r ∧ r x y H Q
theorem wo {f : Value → Value → Sem Value} : OpR X f (Wo X f) := fun pins s σ H x y v u Q I rx ry ⟨_, h, q⟩ => h pins s σ H x y v u Q I rx ry q
def Wu (X : Cx) (f : Value → Sem Value) : V → Hp → VK → Prop := fun x H Q => ∃ r, UnR X f r ∧ r x H Q
theorem wu {f : Value → Sem Value} : UnR X f (Wu X f) := fun pins s σ H x v Q I rx ⟨_, h, q⟩ => h pins s σ H x v Q I rx q
def Wc (X : Cx) (f : Value) : List V → Hp → VK → Prop := fun xs H Q => ∃ r, CallR X f r ∧ r xs H Q
theorem wc {f : Value} : CallR X f (Wc X f) := fun pins s σ H xs us Q I rx ⟨_, h, q⟩ => h pins s σ H xs us Q I rx q
def Wx (X : Cx) : R2 := fun x y H Q => ∃ r, IxR X r ∧ r x y H Q
theorem wx : IxR X (Wx X) := fun va sl pins s σ H x y v u Q I rx ry ⟨_, h, q⟩ hs => h va sl pins s σ H x y v u Q I rx ry q hs
def Wm (X : Cx) (id : String) : V → List V → Hp → VK → Prop := fun x xs H Q => ∃ r, MtR X id r ∧ r x xs H Q
theorem wm {id : String} : MtR X id (Wm X id) := fun pins s σ H x xs v us Q I rx rs ⟨_, h, q⟩ => h pins s σ H x xs v us Q I rx rs q
end

/-- an expression, over data -/
def DE (X : Cx) (EX : Exs) (W : WX) (e : Expr) (g : En → Rs PyData) : Prop := ∀ So Bs τ {μ : Mu} σ H η Q, SR X.K So Bs τ μ σ H η →
  Post X.K So Bs τ σ EX W (g η) (fun d η' μ' H' => ∀ v, Dq X.K (vis So μ' η' H') v d → Q v H') → We X e σ H Q
/-- a test -/
def DT (X : Cx) (EX : Exs) (W : WX) (e : Expr) (g : En → Rs Bool) : Prop := ∀ So Bs τ {μ : Mu} σ H η Q, SR X.K So Bs τ μ σ H η →
  Post X.K So Bs τ σ EX W (g η) (fun b η' μ' H' => Q b H') → Wt X e σ H Q
def DW (X : Cx) (EX : Exs) (W : WX) (e : Expr) (g : En → Rs Bool) : Prop := ∀ So Bs τ {μ : Mu} σ H η Q, SR X.K So Bs τ μ σ H η →
  Post X.K So Bs τ σ EX W (g η) (fun b η' μ' H' => Q b H') → Ww X e σ H Q
/-- things in a row -/
def DL (X : Cx) (EX : Exs) (W : WX) (es : List Expr) (g : En → Rs (List PyData)) : Prop := ∀ So Bs τ {μ : Mu} σ H η Q, SR X.K So Bs τ μ σ H η →
  Post X.K So Bs τ σ EX W (g η) (fun ds η' μ' H' => ∀ vs, DqAll X.K (vis So μ' η' H') vs ds → Q vs H') → Wa X es σ H Q
section
variable {X : Cx} {EX : Exs} {W : WX} {a b c e : Expr} {es : List Expr} {ga gb gc : En → Rs PyData} {gt gu : En → Rs Bool} {gl : En → Rs (List PyData)} {pos : Pos}
variable {So : Addr → Prop} {Bs : Hp} {τ : Pin} {μ : Mu} {σ : Sg} {H : Hp} {η : En}
/-- first this, then what follows -/
theorem DE.seq {β : Type} {f : PyData → En → Rs β} {P : β → En → Mu → Hp → Prop} {Q : VK} (ha : DE X EX W a ga) (sr : SR X.K So Bs τ μ σ H η) (h : Post X.K So Bs τ σ EX W ((ga η).bind f) P)
    (fin : ∀ {μ1 : Mu} x η1 H1 v, SR X.K So Bs τ μ1 σ H1 η1 → Same (vis So μ η H) (vis So μ1 η1 H1) → Dq X.K (vis So μ1 η1 H1) v x → Post X.K So Bs τ σ EX W (f x η1) P → Q v H1) : We X a σ H Q := by
  refine ha So (mx μ η H) τ σ H η Q sr.max ?_
  cases hr : ga η with
  | no => rw [hr] at h; exact h
  | ok x η1 => rw [hr] at h; exact fun H1 sr1 v hv => fin x η1 H1 v (sr.back sr1) sr1.grown hv h
  | ex n as η1 => rw [hr] at h; exact fun H1 cls dd sr1 hx => h H1 cls dd (sr.back sr1) hx
theorem DT.seq {β : Type} {f : Bool → En → Rs β} {P : β → En → Mu → Hp → Prop} {Q : Bool → Hp → Prop} (ha : DT X EX W a gt) (sr : SR X.K So Bs τ μ σ H η) (h : Post X.K So Bs τ σ EX W ((gt η).bind f) P)
    (fin : ∀ {μ1 : Mu} x η1 H1, SR X.K So Bs τ μ1 σ H1 η1 → Same (vis So μ η H) (vis So μ1 η1 H1) → Post X.K So Bs τ σ EX W (f x η1) P → Q x H1) : Wt X a σ H Q := by
  refine ha So (mx μ η H) τ σ H η Q sr.max ?_
  cases hr : gt η with
  | no => rw [hr] at h; exact h
  | ok x η1 => rw [hr] at h; exact fun H1 sr1 => fin x η1 H1 (sr.back sr1) sr1.grown h
  | ex n as η1 => rw [hr] at h; exact fun H1 cls dd sr1 hx => h H1 cls dd (sr.back sr1) hx
theorem DW.seq {β : Type} {f : Bool → En → Rs β} {P : β → En → Mu → Hp → Prop} {Q : Bool → Hp → Prop} (ha : DW X EX W a gt) (sr : SR X.K So Bs τ μ σ H η) (h : Post X.K So Bs τ σ EX W ((gt η).bind f) P)
    (fin : ∀ {μ1 : Mu} x η1 H1, SR X.K So Bs τ μ1 σ H1 η1 → Same (vis So μ η H) (vis So μ1 η1 H1) → Post X.K So Bs τ σ EX W (f x η1) P → Q x H1) : Ww X a σ H Q := by
  refine ha So (mx μ η H) τ σ H η Q sr.max ?_
  cases hr : gt η with
  | no => rw [hr] at h; exact h
  | ok x η1 => rw [hr] at h; exact fun H1 sr1 => fin x η1 H1 (sr.back sr1) sr1.grown h
  | ex n as η1 => rw [hr] at h; exact fun H1 cls dd sr1 hx => h H1 cls dd (sr.back sr1) hx
theorem DL.seq {β : Type} {f : List PyData → En → Rs β} {P : β → En → Mu → Hp → Prop} {Q : List V → Hp → Prop} (ha : DL X EX W es gl) (sr : SR X.K So Bs τ μ σ H η) (h : Post X.K So Bs τ σ EX W ((gl η).bind f) P)
    (fin : ∀ {μ1 : Mu} x η1 H1 v, SR X.K So Bs τ μ1 σ H1 η1 → Same (vis So μ η H) (vis So μ1 η1 H1) → DqAll X.K (vis So μ1 η1 H1) v x → Post X.K So Bs τ σ EX W (f x η1) P → Q v H1) : Wa X es σ H Q := by
  refine ha So (mx μ η H) τ σ H η Q sr.max ?_
  cases hr : gl η with
  | no => rw [hr] at h; exact h
  | ok x η1 => rw [hr] at h; exact fun H1 sr1 v hv => fin x η1 H1 v (sr.back sr1) sr1.grown hv h
  | ex n as η1 => rw [hr] at h; exact fun H1 cls dd sr1 hx => h H1 cls dd (sr.back sr1) hx

/-! ### names, constants -/
def eVar (i : Nat) (η : En) : Rs PyData := match η[i]? with
  | some (some (.d x)) => .ok x η
  | some (some (.l 0 xs)) => .ok (.list xs) (η.set i (some (.d (.list xs))))
  | _ => .no
theorem de_var {i : Nat} {x : Str} {pos : Pos} (h : PE X (.Name x pos) (tVar i)) : DE X EX W (.Name x pos) (eVar i) := by
  intro So Bs τ μ σ H η Q sr h1
  refine ⟨_, h, ?_⟩
  unfold eVar at h1
  split at h1
  · next d e =>
    obtain ⟨v, ev, hv⟩ := sr.sl i _ e
    exact ⟨v, ev, h1 H sr v hv⟩
  · next xs e =>
    obtain ⟨sr2, a, ea, hd⟩ := sr.free e
    exact ⟨_, ea, h1 H sr2 _ hd⟩
  · exact h1.elim
def eC (d : PyData) (η : En) : Rs PyData := .ok d η
theorem de_of {v : V} {d : PyData} (h : PE X e (tC v)) (hd : ∀ K H, Dq K H v d) : DE X EX W e (eC d) := by
  intro So Bs τ μ σ H η Q sr h1
  exact ⟨_, h, h1 H sr v (hd _ _)⟩
theorem de_int {i j pos} : DE X EX W (.Constant (.int i) j pos) (eC (.int i)) := de_of pe_int fun _ _ => .int i
theorem de_bl {b j pos} : DE X EX W (.Constant (.bool b) j pos) (eC (.bool b)) := de_of pe_bl fun _ _ => .bl b
theorem de_non {j pos} : DE X EX W (.Constant .none j pos) (eC .none) := de_of pe_non fun _ _ => .non
theorem de_str {x j pos} : DE X EX W (.Constant (.str x) j pos) (eC (.str x)) := de_of pe_str fun _ _ => .str x
/-- a written thing of the module -/
theorem de_glob {x : Str} {v : V} {u : Value} {d : PyData} {pos : Pos} (hg : Gl X x) (hm : X.mg x = some u) (r : RelV v u) (hd : ∀ H, Dq X.K H v d) (hdb : (x == ("__debug__" : Str)) = false := by decide) : DE X EX W (.Name x pos) (eC d) := by
  intro So Bs τ μ σ H η Q sr h1
  exact ⟨_, pe_glob hg hm r hdb, h1 H sr v (hd _)⟩

/-! ### operations -/
def ofO {α : Type} (o : Option α) (η : En) : Rs α := match o with
  | some z => .ok z η
  | none => .no
def eBin (o : PyData → PyData → Option PyData) (ga gb : En → Rs PyData) (η : En) : Rs PyData := (ga η).bind fun x η1 => (gb η1).bind fun y η2 => ofO (o x y) η2
def eUn (o : PyData → Option PyData) (ga : En → Rs PyData) (η : En) : Rs PyData := (ga η).bind fun x η1 => ofO (o x) η1
def DO (X : Cx) (f : Value → Value → Sem Value) (o : PyData → PyData → Option PyData) : Prop := ∀ So Bs τ {μ : Mu} σ η H vx vy x y z (Q : VK), o x y = some z → SR X.K So Bs τ μ σ H η → Dq X.K (vis So μ η H) vx x → Dq X.K (vis So μ η H) vy y →
  (∀ v H', SR X.K So Bs τ μ σ H' η → Dq X.K (vis So μ η H') v z → Q v H') → Wo X f vx vy H Q
def DU (X : Cx) (f : Value → Sem Value) (o : PyData → Option PyData) : Prop := ∀ So Bs τ {μ : Mu} σ η H vx x z (Q : VK), o x = some z → SR X.K So Bs τ μ σ H η → Dq X.K (vis So μ η H) vx x →
  (∀ v H', SR X.K So Bs τ μ σ H' η → Dq X.K (vis So μ η H') v z → Q v H') → Wu X f vx H Q
def DX (X : Cx) (o : PyData → PyData → Option PyData) : Prop := ∀ So Bs τ {μ : Mu} σ η H vx vy x y z (Q : VK), o x y = some z → SR X.K So Bs τ μ σ H η → Dq X.K (vis So μ η H) vx x → Dq X.K (vis So μ η H) vy y →
  (∀ v H', SR X.K So Bs τ μ σ H' η → Dq X.K (vis So μ η H') v z → Q v H') → Wx X vx vy H Q
def DCl (X : Cx) (f : Value) (o : List PyData → Option PyData) : Prop := ∀ So Bs τ {μ : Mu} σ η H vs ds z (Q : VK), o ds = some z → SR X.K So Bs τ μ σ H η → DqAll X.K (vis So μ η H) vs ds →
  (∀ v H', SR X.K So Bs τ μ σ H' η → Dq X.K (vis So μ η H') v z → Q v H') → Wc X f vs H Q
def DM (X : Cx) (id : String) (o : PyData → List PyData → Option PyData) : Prop := ∀ So Bs τ {μ : Mu} σ η H vx vs x ds z (Q : VK), o x ds = some z → SR X.K So Bs τ μ σ H η → Dq X.K (vis So μ η H) vx x → DqAll X.K (vis So μ η H) vs ds →
  (∀ v H', SR X.K So Bs τ μ σ H' η → Dq X.K (vis So μ η H') v z → Q v H') → Wm X id vx vs H Q
theorem post_ofO {α : Type} {o : Option α} {P : α → En → Mu → Hp → Prop} (h : Post X.K So Bs τ σ EX W (ofO o η) P) : ∃ z, o = some z ∧ ∀ {μ : Mu} H, SR X.K So Bs τ μ σ H η → P z η μ H := by
  cases o with
  | none => exact h.elim
  | some z => exact ⟨z, rfl, h⟩
theorem de_op {op : Operator} {o : PyData → PyData → Option PyData} (ho : DO X (binaryOp op) o) (ha : DE X EX W a ga) (hb : DE X EX W b gb) : DE X EX W (.BinOp a op b pos) (eBin o ga gb) := by
  intro So Bs τ μ σ H η Q sr h
  refine ⟨_, pe_op wo we we, ?_⟩
  refine ha.seq sr h fun x η1 H1 v sr1 s1 hx h1 => hb.seq sr1 h1 fun y η2 H2 u sr2 s2 hy h2 => ?_
  obtain ⟨z, ez, hq⟩ := post_ofO h2
  exact ho So Bs τ σ η2 H2 v u x y z Q ez sr2 (Dq.mono s2 _ _ hx) hy fun v H' s r => hq H' s v r
theorem de_cmp {op : CmpOp} {o : PyData → PyData → Option PyData} (ho : DO X (compareOp op) o) (ha : DE X EX W a ga) (hb : DE X EX W b gb) (hm : behindInMarks op b = false) : DE X EX W (.Compare a [op] [b] pos) (eBin o ga gb) := by
  intro So Bs τ μ σ H η Q sr h
  refine ⟨_, pe_cmpR wo we we hm, ?_⟩
  refine ha.seq sr h fun x η1 H1 v sr1 s1 hx h1 => hb.seq sr1 h1 fun y η2 H2 u sr2 s2 hy h2 => ?_
  obtain ⟨z, ez, hq⟩ := post_ofO h2
  exact ho So Bs τ σ η2 H2 v u x y z Q ez sr2 (Dq.mono s2 _ _ hx) hy fun v H' s r => hq H' s v r
def asB : PyData → Option Bool
  | .bool b => some b
  | _ => none
def tOf (ga : En → Rs PyData) (η : En) : Rs Bool := (ga η).bind fun x η1 => ofO (asB x) η1
theorem dq_bl {K : PySem.W.Frag} {H : Hp} {v : V} {b : Bool} (h : Dq K H v (.bool b)) : v = .bl b := by cases h; rfl
theorem dq_int {K : PySem.W.Frag} {H : Hp} {v : V} {b : Int} (h : Dq K H v (.int b)) : v = .int b := by cases h; rfl
theorem dq_str {K : PySem.W.Frag} {H : Hp} {v : V} {b : Str} (h : Dq K H v (.str b)) : v = .str b := by cases h; rfl
theorem dq_non {K : PySem.W.Frag} {H : Hp} {v : V} (h : Dq K H v .none) : v = .non := by cases h; rfl
theorem dq_lst {K : PySem.W.Frag} {H : Hp} {v : V} {ds : List PyData} (h : Dq K H v (.list ds)) : ∃ a vs, v = .ref a ∧ H a = some (.lst vs) ∧ DqAll K H vs ds := by
  cases h with
  | lst h1 h2 => exact ⟨_, _, rfl, h1, h2⟩
theorem dq_tup {K : PySem.W.Frag} {H : Hp} {v : V} {ds : List PyData} (h : Dq K H v (.tuple ds)) : ∃ a vs, v = .ref a ∧ SqT K H a vs ∧ DqAll K H vs ds := by
  cases h with
  | tup h1 h2 => exact ⟨_, _, rfl, h1, h2⟩
theorem as_bool {x : PyData} {b : Bool} (h : asB x = some b) : x = .bool b := by
  cases x <;> first | (cases h; rfl) | cases h
theorem dt_cmp {op : CmpOp} {o : PyData → PyData → Option PyData} (ho : DO X (compareOp op) o) (ha : DE X EX W a ga) (hb : DE X EX W b gb) (hm : behindInMarks op b = false) : DT X EX W (.Compare a [op] [b] pos) (tOf (eBin o ga gb)) := by
  intro So Bs τ μ σ H η Q sr h
  refine ⟨_, pt_cmpR wo we we hm, ?_⟩
  have h' : Post X.K So Bs τ σ EX W ((ga η).bind fun x η1 => (gb η1).bind fun y η2 => (ofO (o x y) η2).bind fun x η1 => ofO (asB x) η1) (fun b η' μ' H' => Q b H') := by
    unfold tOf eBin at h
    cases hr : ga η with
    | no => rw [hr] at h; exact h
    | ex n as η1 => rw [hr] at h; exact h
    | ok x η1 =>
      rw [hr] at h
      show Post X.K So Bs τ σ EX W ((gb η1).bind _) _
      cases hr2 : gb η1 with
      | no => simp only [Rs.bind, hr2] at h; exact h
      | ex n as η2 => simp only [Rs.bind, hr2] at h; exact h
      | ok y η2 => simp only [Rs.bind, hr2] at h; exact h
  refine ha.seq sr h' fun x η1 H1 v sr1 s1 hx h1 => hb.seq sr1 h1 fun y η2 H2 u sr2 s2 hy h2 => ?_
  cases ez : o x y with
  | none => rw [ez] at h2; exact h2.elim
  | some z =>
    rw [ez] at h2
    obtain ⟨k, ek, hq⟩ := post_ofO h2
    have := as_bool ek
    subst this
    exact ho So Bs τ σ η2 H2 v u x y _ _ ez sr2 (Dq.mono s2 _ _ hx) hy fun v H' s r => ⟨k, dq_bl r, hq H' s⟩
theorem dt_val (ha : DE X EX W a ga) (he : ∀ whole, isTrue a X.env whole = (do let v ← whole; standAt a.pos; holding [v] (truthy v)) := by intro _; rfl) : DT X EX W a (tOf ga) := by
  intro So Bs τ μ σ H η Q sr h
  refine ⟨_, pt_val we he, ?_⟩
  refine ha.seq sr h fun x η1 H1 v sr1 s1 hx h1 => ?_
  obtain ⟨k, ek, hq⟩ := post_ofO h1
  have := as_bool ek
  subst this
  exact ⟨k, dq_bl hx, hq H1 sr1⟩
/-- what is true as Python holds it -/
def truD : PyData → Option Bool
  | .none => some false
  | .int i => some (i != 0)
  | .bool b => some b
  | .str z => if z.length ≤ sizeLine then some (z.length != 0) else none
  | .list xs => some (!xs.isEmpty)
  | .tuple xs => some (!xs.isEmpty)
  | .dict _ => none
def tTru (ga : En → Rs PyData) (η : En) : Rs Bool := (ga η).bind fun x η1 => ofO (truD x) η1
theorem dt_not (ha : DT X EX W a gt) : DT X EX W (.UnaryOp .Not a pos) (fun η => (gt η).bind fun b η1 => .ok (!b) η1) := by
  intro So Bs τ μ σ H η Q sr h
  refine ⟨_, pt_not wt, ?_⟩
  exact ha.seq sr h fun x η1 H1 sr1 s1 h1 => h1 H1 sr1
def tAndO (gt gu : En → Rs Bool) (η : En) : Rs Bool := (gt η).bind fun b η1 => if b = true then gu η1 else .ok false η1
def tOrO (gt gu : En → Rs Bool) (η : En) : Rs Bool := (gt η).bind fun b η1 => if b = true then .ok true η1 else gu η1
theorem DW.pt (h : DW X EX W a gt) : DT X EX W a gt := by
  intro So Bs τ μ σ H η Q sr hp
  exact ⟨_, PW.pt ww, h So Bs τ σ H η Q sr hp⟩
theorem dw_and1 (ha : DT X EX W a gt) : DW X EX W (.BoolOp .And [a] pos) gt := by
  intro So Bs τ μ σ H η Q sr h
  exact ⟨_, pw_and1 wt, ha So Bs τ σ H η Q sr h⟩
theorem dw_or1 (ha : DT X EX W a gt) : DW X EX W (.BoolOp .Or [a] pos) gt := by
  intro So Bs τ μ σ H η Q sr h
  exact ⟨_, pw_or1 wt, ha So Bs τ σ H η Q sr h⟩
theorem dw_and {rest : List Expr} (ha : DT X EX W a gt) (hb : DW X EX W (.BoolOp .And (b :: rest) pos) gu) : DW X EX W (.BoolOp .And (a :: b :: rest) pos) (tAndO gt gu) := by
  intro So Bs τ μ σ H η Q sr h
  refine ⟨_, pw_and wt ww, ?_⟩
  refine ha.seq sr h fun x η1 H1 sr1 s1 h1 => ?_
  cases x with
  | true => exact iteT (hb So Bs τ σ H1 η1 Q sr1 h1)
  | false => exact iteF (h1 H1 sr1)
theorem dw_or {rest : List Expr} (ha : DT X EX W a gt) (hb : DW X EX W (.BoolOp .Or (b :: rest) pos) gu) : DW X EX W (.BoolOp .Or (a :: b :: rest) pos) (tOrO gt gu) := by
  intro So Bs τ μ σ H η Q sr h
  refine ⟨_, pw_or wt ww, ?_⟩
  refine ha.seq sr h fun x η1 H1 sr1 s1 h1 => ?_
  cases x with
  | true => exact iteT (h1 H1 sr1)
  | false => exact iteF (hb So Bs τ σ H1 η1 Q sr1 h1)
/-- and, or of truths, as values -/
def eAnd (ga gb : En → Rs PyData) (η : En) : Rs PyData := (ga η).bind fun x η1 => match x with
  | .bool true => gb η1
  | .bool false => .ok (.bool false) η1
  | _ => .no
def eOr (ga gb : En → Rs PyData) (η : En) : Rs PyData := (ga η).bind fun x η1 => match x with
  | .bool true => .ok (.bool true) η1
  | .bool false => gb η1
  | _ => .no
theorem de_one {op} (h : DE X EX W a ga) : DE X EX W (.BoolOp op [a] pos) ga := by
  intro So Bs τ μ σ H η Q sr hp
  exact ⟨_, pe_one we, h So Bs τ σ H η Q sr hp⟩
theorem de_and {rest : List Expr} (ha : DE X EX W a ga) (hb : DE X EX W (.BoolOp .And (b :: rest) pos) gb) : DE X EX W (.BoolOp .And (a :: b :: rest) pos) (eAnd ga gb) := by
  intro So Bs τ μ σ H η Q sr h
  refine ⟨_, pe_and we we, ?_⟩
  refine ha.seq sr h fun x η1 H1 v sr1 s1 hx h1 => ?_
  split at h1
  · exact ⟨true, dq_bl hx, iteT (hb So Bs τ σ H1 η1 Q sr1 h1)⟩
  · exact ⟨false, dq_bl hx, iteF (h1 H1 sr1 _ (.bl _))⟩
  · exact h1.elim
theorem de_or {rest : List Expr} (ha : DE X EX W a ga) (hb : DE X EX W (.BoolOp .Or (b :: rest) pos) gb) : DE X EX W (.BoolOp .Or (a :: b :: rest) pos) (eOr ga gb) := by
  intro So Bs τ μ σ H η Q sr h
  refine ⟨_, pe_or we we, ?_⟩
  refine ha.seq sr h fun x η1 H1 v sr1 s1 hx h1 => ?_
  split at h1
  · exact ⟨true, dq_bl hx, iteT (h1 H1 sr1 _ (.bl _))⟩
  · exact ⟨false, dq_bl hx, iteF (hb So Bs τ σ H1 η1 Q sr1 h1)⟩
  · exact h1.elim
def eNot (ga : En → Rs PyData) (η : En) : Rs PyData := (ga η).bind fun x η1 => match x with
  | .bool b => .ok (.bool (!b)) η1
  | _ => .no
theorem de_not (ha : DE X EX W a ga) : DE X EX W (.UnaryOp .Not a pos) (eNot ga) := by
  intro So Bs τ μ σ H η Q sr h
  refine ⟨_, pe_not we, ?_⟩
  refine ha.seq sr h fun x η1 H1 v sr1 s1 hx h1 => ?_
  split at h1
  · next b => exact ⟨b, dq_bl hx, h1 H1 sr1 _ (.bl _)⟩
  · exact h1.elim
def eIf (gt : En → Rs Bool) (ga gb : En → Rs PyData) (η : En) : Rs PyData := (gt η).bind fun b η1 => if b = true then ga η1 else gb η1
theorem de_if (hc : DT X EX W c gt) (ha : DE X EX W a ga) (hb : DE X EX W b gb) : DE X EX W (.IfExp c a b pos) (eIf gt ga gb) := by
  intro So Bs τ μ σ H η Q sr h
  refine ⟨_, pe_ifExp wt we we, ?_⟩
  refine hc.seq sr h fun x η1 H1 sr1 s1 h1 => ?_
  cases x with
  | true => exact iteT (ha So Bs τ σ H1 η1 Q sr1 h1)
  | false => exact iteF (hb So Bs τ σ H1 η1 Q sr1 h1)
theorem de_un {op : UnaryOp} {o : PyData → Option PyData} (ho : DU X (unaryOp op) o) (ha : DE X EX W a ga) : DE X EX W (.UnaryOp op a pos) (eUn o ga) := by
  intro So Bs τ μ σ H η Q sr h
  refine ⟨_, pe_un wu we, ?_⟩
  refine ha.seq sr h fun x η1 H1 v sr1 s1 hx h1 => ?_
  obtain ⟨z, ez, hq⟩ := post_ofO h1
  exact ho So Bs τ σ η1 H1 v x z Q ez sr1 hx fun v H' s r => hq H' s v r
/-- a < b < c -/
def eChain (o o' : PyData → PyData → Option PyData) (ga gb gc : En → Rs PyData) (η : En) : Rs PyData := (ga η).bind fun x η1 => (gb η1).bind fun y η2 => match o x y with
  | some (.bool true) => (gc η2).bind fun z η3 => ofO (o' y z) η3
  | some (.bool false) => .ok (.bool false) η2
  | _ => .no
theorem de_ix {o : PyData → PyData → Option PyData} (ho : DX X o) (ha : DE X EX W a ga) (hb : DE X EX W b gb) (hs : PlainIx b) : DE X EX W (.Subscript a b pos) (eBin o ga gb) := by
  intro So Bs τ μ σ H η Q sr h
  refine ⟨_, pe_ix wx we we hs, ?_⟩
  refine ha.seq sr h fun x η1 H1 v sr1 s1 hx h1 => hb.seq sr1 h1 fun y η2 H2 u sr2 s2 hy h2 => ?_
  obtain ⟨z, ez, hq⟩ := post_ofO h2
  exact ho So Bs τ σ η2 H2 v u x y z Q ez sr2 (Dq.mono s2 _ _ hx) hy fun v H' s r => hq H' s v r
/-! ### rows of things, displays -/
def lNil (η : En) : Rs (List PyData) := .ok [] η
def lCons (ga : En → Rs PyData) (gl : En → Rs (List PyData)) (η : En) : Rs (List PyData) := (ga η).bind fun x η1 => (gl η1).bind fun xs η2 => .ok (x :: xs) η2
def lStar (ga : En → Rs PyData) (gl : En → Rs (List PyData)) (η : En) : Rs (List PyData) := (ga η).bind fun x η1 => match x with
  | .tuple xs => (gl η1).bind fun ys η2 => .ok (xs ++ ys) η2
  | _ => .no
theorem dl_nil : DL X EX W [] lNil := by
  intro So Bs τ μ σ H η Q sr h
  exact ⟨_, pa_nil, h H sr [] .nil⟩
theorem dl_cons (ha : DE X EX W e ga) (hl : DL X EX W es gl) (hs : starEach (e :: es) X.env = (false, eval e X.env) :: starEach es X.env := by rfl) : DL X EX W (e :: es) (lCons ga gl) := by
  intro So Bs τ μ σ H η Q sr h
  refine ⟨_, pa_cons we wa hs, ?_⟩
  refine ha.seq sr h fun x η1 H1 v sr1 s1 hx h1 => hl.seq sr1 h1 fun y η2 H2 u sr2 s2 hy h2 => ?_
  exact h2 H2 sr2 _ (.cons (Dq.mono s2 _ _ hx) hy)
theorem same_vis {So : Addr → Prop} {μ : Mu} {η : En} {H : Hp} : Same (vis So μ η H) H := fun a u h => (vis_iff.mp h).1
theorem de_tup {x1} (hl : DL X EX W es gl) : DE X EX W (.Tuple es x1 pos) (fun η => (gl η).bind fun ds η1 => if ds.length ≤ sizeLine then .ok (.tuple ds) η1 else .no) := by
  intro So Bs τ μ σ H η Q sr h
  refine ⟨_, pe_tup wa, ?_⟩
  refine hl.seq sr h fun ds η1 H1 vs sr1 s1 hx h1 => ?_
  split at h1
  · next hz =>
    refine ⟨by rw [hx.len]; exact hz, fun p hp => ?_⟩
    exact h1 _ (sr1.new hp) _ (.tup (SqT.of (sr1.vis_at hp)) (DqAll.mono (vis_new hp) _ _ hx))
  · exact h1.elim
/-- a call of a built-in -/
theorem de_callB {x : Str} {p : Pos} {f : Value} {o : List PyData → Option PyData} (ho : DCl X f o) (hr : ∀ {t : TA}, PA X es t → PE X (.Call (.Name x p) es [] pos) (tCB (Wc X f) t)) (hl : DL X EX W es gl) : DE X EX W (.Call (.Name x p) es [] pos) (fun η => (gl η).bind fun ds η1 => ofO (o ds) η1) := by
  intro So Bs τ μ σ H η Q sr h
  refine ⟨_, hr wa, ?_⟩
  refine hl.seq sr h fun ds η1 H1 vs sr1 s1 hx h1 => ?_
  obtain ⟨z, ez, hq⟩ := post_ofO h1
  exact ho So Bs τ σ η1 H1 vs ds z Q ez sr1 hx fun v H' s r => hq H' s v r
end
end DA

/-! statements over data -/
namespace DA
open PySem PySem.Spec PyProof.Rows L2
section
variable {K : PySem.W.Frag} {So : Addr → Prop} {Bs Bs' : Hp} {τ : Pin} {μ : Mu} {σ σ2 : Sg} {η η2 : En} {H H2 : Hp} {a p : Addr} {u : HO} {v : V} {d x : PyData} {n : Nat}
/-- only the slots that are told matter -/
theorem SR.agree (r : SR K So Bs τ μ σ H η) (hl : σ2.length = σ.length) (h : ∀ (i : Nat) (s : Sl), η[i]? = some (some s) → σ2[i]? = σ[i]?) : SR K So Bs τ μ σ2 H η :=
  ⟨by rw [hl]; exact r.len, fun i s e => by
    obtain ⟨v, ev, h1⟩ := r.sl i s e
    exact ⟨v, by rw [h i s e]; exact ev, h1⟩, r.inj, r.base, r.so⟩
/-- a slot is told no more, whatever it holds -/
theorem SR.forget (r : SR K So Bs τ μ σ H η) (n : Nat) : SR K So Bs τ μ σ H (η.set n none) := by
  refine (r.drop (n := n) (o := (σ[n]?).getD none)).agree (by rw [List.length_set]) fun i s e => ?_
  by_cases z : n = i
  · subst z
    rcases set_get e with ⟨_, y, _⟩ | ⟨y, _⟩
    · cases y
    · exact (y rfl).elim
  · rw [List.getElem?_set_ne z]
def wipeE (η : En) : List Nat → En
  | [] => η
  | v :: vs => (wipeE η vs).set v none
theorem SR.forgets (r : SR K So Bs τ μ σ H η) : ∀ vs : List Nat, SR K So Bs τ μ σ H (wipeE η vs)
  | [] => r
  | v :: vs => (r.forgets vs).forget v
theorem wipeE_get : ∀ {vs : List Nat} {i : Nat} {s : Sl}, (wipeE η vs)[i]? = some (some s) → i ∉ vs ∧ η[i]? = some (some s)
  | [], _, _, h => ⟨by simp, h⟩
  | v :: vs, i, s, h => by
    rcases set_get h with ⟨_, y, _⟩ | ⟨y, h2⟩
    · cases y
    · obtain ⟨h3, h4⟩ := wipeE_get h2
      exact ⟨by simp only [List.mem_cons, not_or]; exact ⟨y, h3⟩, h4⟩
theorem forget_same : ∀ vs : List Nat, Same (vis So μ η H) (vis So μ (wipeE η vs) H) := fun vs =>
  vis_same fun a w h1 h2 h3 => ⟨h1, fun ⟨i, s, k, e, hk, ea⟩ => h2 ⟨i, s, k, (wipeE_get e).2, hk, ea⟩, h3⟩
theorem wipe_get : ∀ {vs : List Nat} {i : Nat}, i ∉ vs → (wipe σ vs)[i]? = σ[i]?
  | [], _, _ => rfl
  | v :: vs, i, h => by
    simp only [List.mem_cons, not_or] at h
    show ((wipe σ vs).set v none)[i]? = _
    rw [List.getElem?_set_ne fun z => h.1 z.symm]
    exact wipe_get h.2
/-- into a block -/
theorem SR.wipe (r : SR K So Bs τ μ σ H η) (vs : List Nat) : SR K So Bs τ μ (wipe σ vs) H (wipeE η vs) :=
  (r.forgets vs).agree (wipe_length σ vs) fun i s e => wipe_get (wipeE_get e).1
/-- out of it -/
theorem SR.unwipe (r : SR K So Bs τ μ σ2 H η) {vs : List Nat} (hl : σ2.length = σ.length) (h : ∀ i, i ∉ vs → σ2[i]? = σ[i]?) : SR K So Bs τ μ σ H (wipeE η vs) :=
  (r.forgets vs).agree hl.symm fun i s e => (h i (wipeE_get e).1).symm
theorem wipe_eq {vs : List Nat} (hl : σ2.length = σ.length) (h : ∀ i, i ∉ vs → σ2[i]? = σ[i]?) : wipe σ2 vs = wipe σ vs := by
  apply List.ext_getElem?
  intro i
  by_cases hi : i ∈ vs
  · have key : ∀ (τ : Sg) (vs : List Nat), i ∈ vs → (wipe τ vs)[i]? = if i < τ.length then some none else none := fun τ vs => by
      induction vs with
      | nil => intro z; cases z
      | cons v vs ih =>
        intro z
        show ((wipe τ vs).set v none)[i]? = _
        by_cases e : v = i
        · subst e
          by_cases hv : v < τ.length
          · rw [List.getElem?_set_self (by rw [wipe_length]; exact hv), if_pos hv]
          · rw [List.getElem?_eq_none (by rw [List.length_set, wipe_length]; omega), if_neg hv]
        · rw [List.getElem?_set_ne e]
          rcases List.mem_cons.mp z with z | z
          · exact (e z.symm).elim
          · exact ih z
    rw [key _ _ hi, key _ _ hi, hl]
  · rw [wipe_get hi, wipe_get hi, h i hi]
end
/-- a target, the slots that it may set -/
def DG (X : Cx) (tg : Expr) (ts : List Nat) (g : PyData → En → Option En) : Prop := ∀ So Bs τ {μ : Mu} σ H η v d η' (Q : Sg → Hp → Prop), g d η = some η' → SR X.K So Bs τ μ σ H η → Dq X.K (vis So μ η H) v d →
  (∀ σ', SR X.K So Bs τ μ σ' H η' → Same (vis So μ η H) (vis So μ η' H) → σ'.length = σ.length → (∀ i, i ∉ ts → σ'[i]? = σ[i]?) → Q σ' H) → Wg X tg v σ H Q
def DGs (X : Cx) (tgs : List Expr) (ts : List Nat) (g : List PyData → En → Option En) : Prop := ∀ So Bs τ {μ : Mu} σ H η vs ds η' (Q : Sg → Hp → Prop), g ds η = some η' → SR X.K So Bs τ μ σ H η → DqAll X.K (vis So μ η H) vs ds →
  (∀ σ', SR X.K So Bs τ μ σ' H η' → Same (vis So μ η H) (vis So μ η' H) → σ'.length = σ.length → (∀ i, i ∉ ts → σ'[i]? = σ[i]?) → Q σ' H) → Wgs X tgs vs σ H Q
def gNm (i : Nat) (d : PyData) (η : En) : Option En := some (η.set i (some (.d d)))
def gNl (ds : List PyData) (η : En) : Option En := match ds with
  | [] => some η
  | _ => none
def gCn (g : PyData → En → Option En) (gs : List PyData → En → Option En) (ds : List PyData) (η : En) : Option En := match ds with
  | [] => none
  | d :: ds => (g d η).bind fun η1 => gs ds η1
def gTp (n : Nat) (gs : List PyData → En → Option En) (d : PyData) (η : En) : Option En := match d with
  | .tuple ds => if ds.length = n then gs ds η else none
  | .list ds => if ds.length = n then gs ds η else none
  | _ => none
section
variable {X : Cx} {tg : Expr} {tgs : List Expr} {ts us : List Nat} {g : PyData → En → Option En} {gs : List PyData → En → Option En}
theorem same_setD {So : Addr → Prop} {μ : Mu} {η : En} {H : Hp} {n : Nat} {d : PyData} : Same (vis So μ η H) (vis So μ (η.set n (some (.d d))) H) :=
  vis_same fun a w h1 h2 h3 => ⟨h1, fun ⟨i, s, k, e, hk, ea⟩ => h2 (by
    rcases set_get e with ⟨rfl, e2, _⟩ | ⟨ne, e2⟩
    · cases e2
      exact absurd hk (Nat.not_lt_zero _)
    · exact ⟨i, s, k, e2, hk, ea⟩), h3⟩
theorem dg_name {i : Nat} {x : Str} {pos : Pos} (h : PG X (.Name x pos) (gName i)) : DG X (.Name x pos) [i] (gNm i) := by
  intro So Bs τ μ σ H η v d η' Q hg sr hv q
  cases hg
  refine ⟨_, h, ?_⟩
  show Q (σ.set i (some v)) H
  exact q _ (sr.setD hv) same_setD (by rw [List.length_set]) fun j hj => List.getElem?_set_ne fun z => hj (by simp [z])
theorem dg_nil : DGs X [] [] gNl := by
  intro So Bs τ μ σ H η vs ds η' Q hg sr hv q
  cases hv with
  | nil =>
    cases hg
    exact ⟨_, pgs_nil, rfl, q σ sr (fun _ _ h => h) rfl fun _ _ => rfl⟩
  | cons _ _ => cases hg
theorem dg_cons (h1 : DG X tg ts g) (h2 : DGs X tgs us gs) (hs : (assignEach (tg :: tgs) X.env).map (·.2) = assign tg X.env :: (assignEach tgs X.env).map (·.2) := by rfl) : DGs X (tg :: tgs) (ts ++ us) (gCn g gs) := by
  intro So Bs τ μ σ H η vs ds η' Q hg sr hv q
  refine ⟨_, pgs_cons wg wgs hs, ?_⟩
  cases hv with
  | nil => cases hg
  | cons hv hvs =>
    rename_i v vs d ds
    obtain ⟨η1, e1, e2⟩ : ∃ η1, g d η = some η1 ∧ gs ds η1 = some η' := by
      have : (g d η).bind (fun η1 => gs ds η1) = some η' := hg
      cases hh : g d η with
      | none => rw [hh] at this; cases this
      | some z => rw [hh] at this; exact ⟨z, rfl, this⟩
    refine ⟨v, vs, rfl, h1 So Bs τ σ H η v d η1 _ e1 sr hv fun σ1 sr1 s1 l1 k1 => ?_⟩
    refine h2 So Bs τ σ1 H η1 vs ds η' _ e2 sr1 (DqAll.mono s1 _ _ hvs) fun σ2 sr2 s2 l2 k2 => ?_
    refine q σ2 sr2 (s1.trans s2) (l2.trans l1) fun i hi => ?_
    simp only [List.mem_append, not_or] at hi
    exact (k2 i hi.2).trans (k1 i hi.1)
theorem dg_tup {k n : Nat} {pos : Pos} (hc : X.calm = true) (h : DGs X tgs ts gs) (hn : (assignEach tgs X.env).length = n := by rfl) (hst : (assignEach tgs X.env).findIdx? (·.1) = none := by rfl) : DG X (.Tuple tgs k pos) ts (gTp n gs) := by
  intro So Bs τ μ σ H η v d η' Q hg sr hv q
  unfold gTp at hg
  split at hg
  · next ds =>
    split at hg
    · next hl =>
      obtain ⟨a, vs, rfl, h1, h2⟩ := dq_tup hv
      refine ⟨_, pg_tup hc wgs hn hst, a, vs, rfl, same_sqt same_vis h1, by rw [h2.len]; exact hl, ?_⟩
      exact h So Bs τ σ H η vs ds η' Q hg sr h2 q
    · cases hg
  · next ds =>
    split at hg
    · next hl =>
      obtain ⟨a, vs, rfl, h1, h2⟩ := dq_lst hv
      refine ⟨_, pg_unl hc wgs hn hst, a, vs, rfl, SqL.of (same_vis _ _ h1), by rw [h2.len]; exact hl, ?_⟩
      exact h So Bs τ σ H η vs ds η' Q hg sr h2 q
    · cases hg
  · cases hg
end

/-- what is walked: the things ds, while Hv stands -/
structure Wk (K : PySem.W.Frag) (Hv : Hp) (J : It) (ds : List PyData) : Prop where
  ex : ∃ (G : Hp → Prop) (Y : Nat → Hp → V → Hp → Prop), Walk J ds.length G Y ∧ (∀ H2, Same Hv H2 → G H2) ∧ ∀ i H2 x H3, Same Hv H2 → Y i H2 x H3 → i < ds.length → ∃ d, ds[i]? = some d ∧
    ((H3 = H2 ∧ Dq K Hv x d) ∨ ∃ T ws es, x = .ref T ∧ H2 T = none ∧ H3 = upd H2 T (.tup ws) ∧ DqAll K Hv ws es ∧ d = .tuple es)
def DI (X : Cx) (EX : Exs) (W : WX) (tg iter : Expr) (g : En → Rs (List PyData)) : Prop := ∀ So Bs τ {μ : Mu} σ H η R, SR X.K So Bs τ μ σ H η →
  Post X.K So Bs τ σ EX W (g η) (fun ds η' μ' H' => ∀ J, Wk X.K (vis So μ' η' H') J ds → R J H') → Wi X tg iter σ H R
/-- what a statement leads to -/
inductive Ot where
  | no
  | nx (η : En)
  | rt (d : PyData) (η : En)
  | bk (η : En)
  | ct (η : En)
  | ex (n : Nat) (as : List PyData) (η : En)
section
variable (K : PySem.W.Frag) (So : Addr → Prop) (Bs : Hp) (τ : Pin) (EX : Exs) (W : WX)
def PostS (r : Ot) (D : Ends) : Prop := match r with
  | .no => False
  | .nx η => ∀ {μ : Mu} σ H, SR K So Bs τ μ σ H η → D.nx σ H
  | .rt d η => ∀ {μ : Mu} σ H v, SR K So Bs τ μ σ H η → Dq K (vis So μ η H) v d → D.rt v H
  | .bk η => ∀ {μ : Mu} σ H, SR K So Bs τ μ σ H η → D.bk σ H
  | .ct η => ∀ {μ : Mu} σ H, SR K So Bs τ μ σ H η → D.ct σ H
  | .ex n as η => ∀ {μ : Mu} σ H cls dd, SR K So Bs τ μ σ H η → EX n as cls dd (vis So μ η H) → W cls dd σ H
end
def DS (X : Cx) (EX : Exs) (W : WX) (st : Stmt) (g : En → Ot) : Prop := ∀ So Bs τ {μ : Mu} σ H η D, SR X.K So Bs τ μ σ H η → PostS X.K So Bs τ EX W (g η) D → Ws X st D σ H
def DSs (X : Cx) (EX : Exs) (W : WX) (sts : List Stmt) (g : En → Ot) : Prop := ∀ So Bs τ {μ : Mu} σ H η D, SR X.K So Bs τ μ σ H η → PostS X.K So Bs τ EX W (g η) D → Wss X sts D σ H
def Ot.seq (r : Ot) (g : En → Ot) : Ot := match r with
  | .nx η => g η
  | r => r
def oSeq (g1 g2 : En → Ot) (η : En) : Ot := (g1 η).seq g2
def oNx (η : En) : Ot := .nx η
/-- an outcome of an expression, then a statement's -/
def Rs.st {α : Type} (r : Rs α) (f : α → En → Ot) : Ot := match r with
  | .no => .no
  | .ok a η => f a η
  | .ex n as η => .ex n as η
section
variable {X : Cx} {EX : Exs} {W : WX} {a b c e : Expr} {es : List Expr} {ga gb gc : En → Rs PyData} {gt gu : En → Rs Bool} {gl : En → Rs (List PyData)} {g1 g2 : En → Ot} {pos : Pos} {st : Stmt} {sts : List Stmt}
variable {So : Addr → Prop} {Bs : Hp} {τ : Pin} {μ : Mu} {σ : Sg} {H : Hp} {η : En} {D : Ends}
theorem DE.stq {f : PyData → En → Ot} {Q : VK} (ha : DE X EX W a ga) (sr : SR X.K So Bs τ μ σ H η) (h : PostS X.K So Bs τ EX W ((ga η).st f) D)
    (fin : ∀ {μ1 : Mu} x η1 H1 v, SR X.K So Bs τ μ1 σ H1 η1 → Same (vis So μ η H) (vis So μ1 η1 H1) → Dq X.K (vis So μ1 η1 H1) v x → PostS X.K So Bs τ EX W (f x η1) D → Q v H1) : We X a σ H Q := by
  refine ha So (mx μ η H) τ σ H η Q sr.max ?_
  cases hr : ga η with
  | no => rw [hr] at h; exact h
  | ok x η1 => rw [hr] at h; exact fun H1 sr1 v hv => fin x η1 H1 v (sr.back sr1) sr1.grown hv h
  | ex n as η1 => rw [hr] at h; exact fun H1 cls dd sr1 hx => h σ H1 cls dd (sr.back sr1) hx
theorem DT.stq {f : Bool → En → Ot} {Q : Bool → Hp → Prop} (ha : DT X EX W a gt) (sr : SR X.K So Bs τ μ σ H η) (h : PostS X.K So Bs τ EX W ((gt η).st f) D)
    (fin : ∀ {μ1 : Mu} x η1 H1, SR X.K So Bs τ μ1 σ H1 η1 → Same (vis So μ η H) (vis So μ1 η1 H1) → PostS X.K So Bs τ EX W (f x η1) D → Q x H1) : Wt X a σ H Q := by
  refine ha So (mx μ η H) τ σ H η Q sr.max ?_
  cases hr : gt η with
  | no => rw [hr] at h; exact h
  | ok x η1 => rw [hr] at h; exact fun H1 sr1 => fin x η1 H1 (sr.back sr1) sr1.grown h
  | ex n as η1 => rw [hr] at h; exact fun H1 cls dd sr1 hx => h σ H1 cls dd (sr.back sr1) hx
theorem dss_nil : DSs X EX W [] oNx := by
  intro So Bs τ μ σ H η D sr h
  exact ⟨_, pss_nil, h σ H sr⟩
theorem dss_cons (h1 : DS X EX W st g1) (h2 : DSs X EX W sts g2) : DSs X EX W (st :: sts) (oSeq g1 g2) := by
  intro So Bs τ μ σ H η D sr h
  refine ⟨_, pss_cons ws wss, ?_⟩
  refine h1 So Bs τ σ H η _ sr ?_
  unfold oSeq at h
  cases hr : g1 η with
  | nx η1 => rw [hr] at h; exact fun σ1 H1 sr1 => h2 So Bs τ σ1 H1 η1 D sr1 h
  | no => rw [hr] at h; exact h
  | rt d η1 => rw [hr] at h; exact h
  | bk η1 => rw [hr] at h; exact h
  | ct η1 => rw [hr] at h; exact h
  | ex n as η1 => rw [hr] at h; exact h
theorem dss_one (h1 : DS X EX W st g1) : DSs X EX W [st] g1 := by
  intro So Bs τ μ σ H η D sr h
  exact ⟨_, pss_one ws, h1 So Bs τ σ H η D sr h⟩
def oSet (i : Nat) (ga : En → Rs PyData) (η : En) : Ot := (ga η).st fun d η1 => .nx (η1.set i (some (.d d)))
theorem ds_set {i : Nat} {x : Str} {pos' : Pos} (ha : DE X EX W e ga) (h : ∀ {te : TE}, PE X e te → PS X (.Assign [.Name x pos'] e pos) (tAsg te (gName i))) : DS X EX W (.Assign [.Name x pos'] e pos) (oSet i ga) := by
  intro So Bs τ μ σ H η D sr hp
  refine ⟨_, h we, ?_⟩
  exact ha.stq sr hp fun d η1 H1 v sr1 s1 hv h1 => h1 _ _ (sr1.setD hv)
def oAsg (g : PyData → En → Option En) (ga : En → Rs PyData) (η : En) : Ot := (ga η).st fun d η1 => match g d η1 with
  | some η2 => .nx η2
  | none => .no
theorem ds_asg {tg : Expr} {ts : List Nat} {g : PyData → En → Option En} (ha : DE X EX W e ga) (hg : DG X tg ts g) (h : ∀ {te : TE} {g : TG}, PE X e te → PG X tg g → PS X (.Assign [tg] e pos) (tAsg te g)) : DS X EX W (.Assign [tg] e pos) (oAsg g ga) := by
  intro So Bs τ μ σ H η D sr hp
  refine ⟨_, h we wg, ?_⟩
  refine ha.stq sr hp fun d η1 H1 v sr1 s1 hv h1 => ?_
  split at h1
  · next η2 e2 => exact hg So Bs τ σ H1 η1 v d η2 _ e2 sr1 hv fun σ' sr' _ _ _ => h1 σ' H1 sr'
  · exact h1.elim
def oDrop (ga : En → Rs PyData) (η : En) : Ot := (ga η).st fun _ η1 => .nx η1
theorem ds_expr (ha : DE X EX W e ga) (hs : swapsWith e none pos.line X.env = pure false := by rfl) : DS X EX W (.Expr e pos) (oDrop ga) := by
  intro So Bs τ μ σ H η D sr hp
  refine ⟨_, ps_expr we hs, ?_⟩
  exact ha.stq sr hp fun d η1 H1 v sr1 s1 hv h1 => h1 _ _ sr1
def oRet (ga : En → Rs PyData) (η : En) : Ot := (ga η).st fun d η1 => .rt d η1
theorem ds_ret (ha : DE X EX W e ga) : DS X EX W (.Return (some e) pos) (oRet ga) := by
  intro So Bs τ μ σ H η D sr hp
  refine ⟨_, ps_ret we, ?_⟩
  exact ha.stq sr hp fun d η1 H1 v sr1 s1 hv h1 => h1 _ _ _ sr1 hv
def oRetN (η : En) : Ot := .rt .none η
theorem ds_retN : DS X EX W (.Return none pos) oRetN := by
  intro So Bs τ μ σ H η D sr hp
  exact ⟨_, ps_retN, hp _ _ _ sr .non⟩
def oIf (gt : En → Rs Bool) (g1 g2 : En → Ot) (η : En) : Ot := (gt η).st fun b η1 => if b = true then g1 η1 else g2 η1
theorem ds_if {s1 s2 : List Stmt} (hc : DT X EX W c gt) (ha : DSs X EX W s1 g1) (hb : DSs X EX W s2 g2) : DS X EX W (.If c s1 s2 pos) (oIf gt g1 g2) := by
  intro So Bs τ μ σ H η D sr hp
  refine ⟨_, ps_if wt wss wss, ?_⟩
  refine hc.stq sr hp fun b η1 H1 sr1 _ h1 => ?_
  cases b with
  | true => exact iteT (ha So Bs τ σ H1 η1 D sr1 h1)
  | false => exact iteF (hb So Bs τ σ H1 η1 D sr1 h1)
theorem ds_pass : DS X EX W (.Pass pos) oNx := by
  intro So Bs τ μ σ H η D sr hp
  exact ⟨_, ps_pass, hp _ _ sr⟩
def oBk (η : En) : Ot := .bk η
def oCt (η : En) : Ot := .ct η
theorem ds_break : DS X EX W (.Break pos) oBk := by
  intro So Bs τ μ σ H η D sr hp
  exact ⟨_, ps_break, hp _ _ sr⟩
theorem ds_continue : DS X EX W (.Continue pos) oCt := by
  intro So Bs τ μ σ H η D sr hp
  exact ⟨_, ps_continue, hp _ _ sr⟩
/-! ### loops -/
def forO (g : PyData → En → Option En) (body : En → Ot) : List PyData → En → Ot
  | [], η => .nx η
  | x :: xs, η => match g x η with
    | none => .no
    | some η1 => match body η1 with
      | .nx η2 => forO g body xs η2
      | .ct η2 => forO g body xs η2
      | .bk η2 => .nx η2
      | .rt d η2 => .rt d η2
      | .ex n as η2 => .ex n as η2
      | .no => .no
def oFor (gi : En → Rs (List PyData)) (g : PyData → En → Option En) (body : En → Ot) (η : En) : Ot := (gi η).st fun ds η1 => forO g body ds η1
theorem PostS.ups {r : Ot} {σ0 : Sg} {η0 : En} {H0 : Hp} (sr0 : SR X.K So Bs τ μ0 σ0 H0 η0) (h : PostS X.K So Bs τ EX W r D) : PostS X.K So (mx μ0 η0 H0) τ EX W r D := by
  cases r with
  | no => exact h
  | nx η => exact fun σ H sr => h σ H (sr0.backS sr)
  | rt d η => exact fun σ H v sr hv => h σ H v (sr0.backS sr) hv
  | bk η => exact fun σ H sr => h σ H (sr0.backS sr)
  | ct η => exact fun σ H sr => h σ H (sr0.backS sr)
  | ex n as η => exact fun σ H cls dd sr hx => h σ H cls dd (sr0.backS sr) hx
theorem ds_for {tg iter : Expr} {body : List Stmt} {gi : En → Rs (List PyData)} {ts : List Nat} {g : PyData → En → Option En} {gb : En → Ot} (hp : PassesOwn (model X.prog X.w) X.A X.env X.xe) (hc : X.calm = true) (hi : DI X EX W tg iter gi) (hg : DG X tg ts g) (hb : DSs X EX W body gb)
    (hs : ∀ x, foldedSetIterable iter X.env x = pure x := by intro _; rfl) : DS X EX W (.For tg iter body [] pos) (oFor gi g gb) := by
  intro So Bs τ μ σ H η D sr hpost
  refine ⟨_, ps_for hp hc wi wg wss hs, ?_⟩
  refine hi So (mx μ η H) τ σ H η _ sr.max ?_
  unfold oFor at hpost
  cases hr : gi η with
  | no => rw [hr] at hpost; exact hpost
  | ex n as η1 => rw [hr] at hpost; exact fun H1 cls dd sr1 hx => hpost σ H1 cls dd (sr.back sr1) hx
  | ok ds η1 =>
    rw [hr] at hpost
    replace hpost : PostS X.K So Bs τ EX W (forO g gb ds η1) D := hpost
    intro μ1 H1 sr1' J hwk
    obtain ⟨G, Y, w, hG, hY⟩ := hwk
    have sr1 := sr.back sr1'
    refine for_it w (fun i σ2 H2 => ∃ (μ2 : Mu) (η2 : En), SR X.K So (mx μ1 η1 H1) τ μ2 σ2 H2 η2 ∧ PostS X.K So (mx μ1 η1 H1) τ EX W (forO g gb (ds.drop i) η2) D) ⟨_, η1, sr1.max, hpost.ups sr1⟩ ?_ ?_ ?_
    · rintro i σ2 H2 hi ⟨μ2, η2, sr2, _⟩
      exact hG H2 ((SR.grown sr2).trans same_vis)
    · rintro i x σ2 H2 H3 hi ⟨μ2, η2, sr2, q2⟩ y
      have gr := SR.grown sr2
      obtain ⟨d, hd, hy⟩ := hY i H2 x H3 (gr.trans same_vis) y hi
      have hdrop : ds.drop i = d :: ds.drop (i + 1) := by
        rw [List.drop_eq_getElem_cons hi]
        have := List.getElem?_eq_some_iff.mp hd
        rw [this.2]
      rw [hdrop] at q2
      obtain ⟨sr3, hx⟩ : SR X.K So (mx μ1 η1 H1) τ μ2 σ2 H3 η2 ∧ Dq X.K (vis So μ2 η2 H3) x d := by
        rcases hy with ⟨rfl, hx⟩ | ⟨T, wss, es, rfl, hT, rfl, hx, rfl⟩
        · exact ⟨sr2, Dq.mono gr _ _ hx⟩
        · exact ⟨sr2.new hT, .tup (SqT.of (sr2.vis_at hT)) (DqAll.mono (gr.trans (vis_new hT)) _ _ hx)⟩
      unfold forO at q2
      split at q2
      · exact q2.elim
      · next η3 e3 =>
        refine hg So _ τ σ2 H3 η2 x d η3 _ e3 sr3 hx fun σ4 sr4 _ _ _ => ?_
        refine hb So _ τ σ4 H3 η3 _ sr4 ?_
        cases hr : gb η3 with
        | no => rw [hr] at q2; exact q2
        | nx η5 => rw [hr] at q2; exact fun σ5 H5 sr5 => ⟨_, η5, sr5, q2⟩
        | ct η5 => rw [hr] at q2; exact fun σ5 H5 sr5 => ⟨_, η5, sr5, q2⟩
        | bk η5 => rw [hr] at q2; exact q2
        | rt d5 η5 => rw [hr] at q2; exact q2
        | ex n as η5 => rw [hr] at q2; exact q2
    · rintro σ2 H2 ⟨μ2, η2, sr2, q2⟩
      rw [List.drop_length] at q2
      exact q2 σ2 H2 sr2
def whileO (gt : En → Rs Bool) (body : En → Ot) : Nat → En → Ot
  | 0, _ => .no
  | n + 1, η => match gt η with
    | .no => .no
    | .ex m as η1 => .ex m as η1
    | .ok false η1 => .nx η1
    | .ok true η1 => match body η1 with
      | .nx η2 => whileO gt body n η2
      | .ct η2 => whileO gt body n η2
      | .bk η2 => .nx η2
      | .rt d η2 => .rt d η2
      | .ex m as η2 => .ex m as η2
      | .no => .no
theorem ds_while {body : List Stmt} {gb : En → Ot} (N : Nat) (hp : PassesOwn (model X.prog X.w) X.A X.env X.xe) (hc : DT X EX W c gt) (hb : DSs X EX W body gb) : DS X EX W (.While c body [] pos) (whileO gt gb N) := by
  intro So Bs τ μ σ H η D sr hpost
  refine ⟨_, ps_while hp wt wss, ?_⟩
  refine ⟨fun m σ2 H2 => ∃ (μ2 : Mu) (η2 : En), SR X.K So Bs τ μ2 σ2 H2 η2 ∧ PostS X.K So Bs τ EX W (whileO gt gb m η2) D, ⟨N, _, η, sr, hpost⟩, ?_⟩
  rintro m σ2 H2 ⟨μ2, η2, sr2, q2⟩
  cases m with
  | zero => exact q2.elim
  | succ m =>
    unfold whileO at q2
    refine hc So Bs τ σ2 H2 η2 _ sr2 ?_
    cases hr : gt η2 with
    | no => rw [hr] at q2; exact q2
    | ex n as η3 => rw [hr] at q2; exact fun H3 cls dd sr3 hx => q2 σ2 H3 cls dd sr3 hx
    | ok b η3 =>
      rw [hr] at q2
      cases b with
      | false => exact fun H3 sr3 => iteF (q2 σ2 H3 sr3)
      | true =>
        refine fun H3 sr3 => iteT ⟨fun σ' H' => ∃ (μ' : Mu) (η' : En), SR X.K So Bs τ μ' σ' H' η' ∧ PostS X.K So Bs τ EX W (whileO gt gb m η') D, fun σ' H' z => ⟨m, Nat.lt_succ_self m, z⟩, ?_⟩
        refine hb So Bs τ σ2 H3 η3 _ sr3 ?_
        cases hr2 : gb η3 with
        | no => simp only [hr2] at q2; exact q2
        | nx η5 => simp only [hr2] at q2; exact fun σ5 H5 sr5 => ⟨_, η5, sr5, q2⟩
        | ct η5 => simp only [hr2] at q2; exact fun σ5 H5 sr5 => ⟨_, η5, sr5, q2⟩
        | bk η5 => simp only [hr2] at q2; exact q2
        | rt d5 η5 => simp only [hr2] at q2; exact q2
        | ex n as η5 => simp only [hr2] at q2; exact q2
end
end DA

/-! new lists: displays, comprehensions -/
namespace DA
open PySem PySem.Spec PyProof.Rows L2
section
variable (K : PySem.W.Frag) (So : Addr → Prop) (Bs : Hp) (τ : Pin) (σ : Sg) (EX : Exs) (W : WX)
/-- an outcome that is a new list, still hidden -/
def PostN (r : Rs (List PyData)) (Q : V → Hp → Prop) : Prop := match r with
  | .no => False
  | .ok ds η => ∀ {μ : Mu} p vs H, SR K (plus So p) (upd Bs p (.lst vs)) τ μ σ H η → ¬ So p → Bs p = none → DqAll K (vis (plus So p) μ η H) vs ds → Q (.ref p) H
  | .ex n as η => ∀ {μ : Mu} H cls dd, SR K So Bs τ μ σ H η → EX n as cls dd (vis So μ η H) → W cls dd σ H
end
def DN (X : Cx) (EX : Exs) (W : WX) (e : Expr) (g : En → Rs (List PyData)) : Prop := ∀ So Bs τ {μ : Mu} σ H η Q, SR X.K So Bs τ μ σ H η → PostN X.K So Bs τ σ EX W (g η) Q → We X e σ H Q
section
variable {X : Cx} {EX : Exs} {W : WX} {a b c e : Expr} {es : List Expr} {ga gb gc : En → Rs PyData} {gt gu : En → Rs Bool} {gl gn : En → Rs (List PyData)} {pos : Pos}
variable {So : Addr → Prop} {Bs : Hp} {τ : Pin} {μ : Mu} {σ : Sg} {H : Hp} {η : En} {D : Ends}
theorem hidden_cell {K : PySem.W.Frag} {p : Addr} {vs : List V} (sr : SR K (plus So p) (upd Bs p (.lst vs)) τ μ σ H η) : H p = some (.lst vs) ∧ ¬ Ow μ η p := sr.base p _ upd_same
/-- as data -/
def eNew (gn : En → Rs (List PyData)) (η : En) : Rs PyData := (gn η).bind fun ds η1 => .ok (.list ds) η1
theorem de_new (h : DN X EX W e gn) : DE X EX W e (eNew gn) := by
  intro So Bs τ μ σ H η Q sr hp
  unfold eNew at hp
  refine h So Bs τ σ H η Q sr ?_
  cases hr : gn η with
  | no => rw [hr] at hp; exact hp
  | ex n as η1 => rw [hr] at hp; exact hp
  | ok ds η1 =>
    rw [hr] at hp
    intro μ1 p vs H1 sr1 hn hb hd
    obtain ⟨h1, h2⟩ := hidden_cell sr1
    refine hp H1 (sr1.unhide hb sr.so) _ (.lst (vis_iff.mpr ⟨h1, h2, hn⟩) (DqAll.mono vis_plus _ _ hd))
theorem SR.fresh {K : PySem.W.Frag} {p : Addr} (sr : SR K So Bs τ μ σ H η) (hp : H p = none) : Bs p = none := by
  cases e : Bs p with
  | none => rfl
  | some u => rw [(sr.base p u e).1] at hp; cases hp
/-- a new list of the slots' own -/
def oNew (i : Nat) (gn : En → Rs (List PyData)) (η : En) : Ot := (gn η).st fun ds η1 => .nx (η1.set i (some (.l 0 ds)))
theorem ds_new {i : Nat} {x : Str} {pos' : Pos} (ha : DN X EX W e gn) (h : ∀ {te : TE}, PE X e te → PS X (.Assign [.Name x pos'] e pos) (tAsg te (gName i))) : DS X EX W (.Assign [.Name x pos'] e pos) (oNew i gn) := by
  intro So Bs τ μ σ H η D sr hp
  refine ⟨_, h we, ?_⟩
  refine ha So Bs τ σ H η _ sr ?_
  unfold oNew at hp
  cases hr : gn η with
  | no => rw [hr] at hp; exact hp
  | ex n as η1 => rw [hr] at hp; exact fun H1 cls dd sr1 hx => hp σ H1 cls dd sr1 hx
  | ok ds η1 =>
    rw [hr] at hp
    intro μ1 p vs H1 sr1 hn hb hd
    obtain ⟨h1, h2⟩ := hidden_cell sr1
    exact hp _ H1 (sr1.setO (s := .l 0 ds) hn hb sr.so rfl ⟨vs, rfl, h1, hd, fun z => (z rfl).elim⟩)
def nLst (gl : En → Rs (List PyData)) (η : En) : Rs (List PyData) := (gl η).bind fun ds η1 => if ds.length ≤ sizeLine then .ok ds η1 else .no
theorem dn_lst (hl : DL X EX W es gl) : DN X EX W (.List es pos) (nLst gl) := by
  intro So Bs τ μ σ H η Q sr h
  unfold nLst at h
  refine ⟨_, pe_lst wa, ?_⟩
  refine hl So (mx μ η H) τ σ H η _ sr.max ?_
  cases hr : gl η with
  | no => rw [hr] at h; exact h
  | ex n as η1 => rw [hr] at h; exact fun H1 cls dd sr1 hx => h H1 cls dd (sr.back sr1) hx
  | ok ds η1 =>
    rw [hr] at h
    intro μ1 H1 sr1' vs hv
    have sr1 := sr.back sr1'
    have h2 : PostN X.K So Bs τ σ EX W (if ds.length ≤ sizeLine then Rs.ok ds η1 else Rs.no) Q := h
    split at h2
    · next hz =>
      refine ⟨by rw [hv.len]; exact hz, fun p hp => ?_⟩
      refine h2 p vs _ (sr1.hide hp) (sr1.so_ne hp) (sr1.fresh hp) (DqAll.mono ?_ _ _ hv)
      exact vis_same fun b w k1 k2 k3 => ⟨(upd_ne (ne_of_none k1 hp)).trans k1, k2, fun z => z.elim k3 (ne_of_none k1 hp)⟩
    · exact h2.elim
/-! ### comprehensions -/
/-- no exception leaves -/
abbrev W0 : WX := fun _ _ _ _ => False
def Rs.nox {α : Type} : Rs α → Rs α
  | .ex _ _ _ => .no
  | r => r
def lcO (vs : List Nat) (g : PyData → En → Option En) (gt : En → Rs Bool) (ge : En → Rs PyData) : List PyData → List PyData → En → Rs (List PyData)
  | [], acc, η => .ok acc η
  | x :: xs, acc, η => match g x (wipeE η vs) with
    | none => .no
    | some η1 => match gt η1 with
      | .ok true η2 => match ge η2 with
        | .ok y η3 => if acc.length < sizeLine then lcO vs g gt ge xs (acc ++ [y]) (wipeE η3 vs) else .no
        | _ => .no
      | .ok false η2 => lcO vs g gt ge xs acc (wipeE η2 vs)
      | _ => .no
def eLc (vs : List Nat) (gi : En → Rs (List PyData)) (g : PyData → En → Option En) (gt : En → Rs Bool) (ge : En → Rs PyData) (η : En) : Rs (List PyData) := (gi η).bind fun ds η1 => lcO vs g gt ge ds [] η1
def gYes (η : En) : Rs Bool := .ok true η
/-- the block's contexts -/
abbrev Blk (X : Cx) (scope : Scope) (P : Cx → Prop) : Prop := ∀ (s : Shared) (H : Hp) (C : Addr) (cl : List (Str × Addr)) (fp : List Addr), P (X.blk s H scope (compEnvC scope cl C X.env) fp)
/-- the tests of a block -/
def DTs (X : Cx) (EX : Exs) (ifs : List Expr) (g : En → Rs Bool) : Prop := ∀ So Bs τ {μ : Mu} σ H η Q, SR X.K So Bs τ μ σ H η → Post X.K So Bs τ σ EX W0 (g η) (fun b η' μ' H' => Q b H') → ∃ t, PTs X ifs t ∧ t σ H Q
def Wts (X : Cx) (ifs : List Expr) (σ : Sg) (H : Hp) (Q : Bool → Hp → Prop) : Prop := ∃ t, PTs X ifs t ∧ t σ H Q
theorem wts {ifs : List Expr} : PTs X ifs (Wts X ifs) := ⟨fun pins s σ H Q I ⟨t, h, q⟩ => h.run pins s σ H Q I q⟩
theorem dts_nil : DTs X EX [] gYes := by
  intro So Bs τ μ σ H η Q sr h
  exact ⟨_, pts_nil, h H sr⟩
theorem dts_one (hc : DT X EX W0 c gt) : DTs X EX [c] gt := by
  intro So Bs τ μ σ H η Q sr h
  exact ⟨_, pts_one wt, hc So Bs τ σ H η Q sr h⟩
def blkE (X : Cx) (scope : Scope) (e : Expr) : TE := fun σ H Q => Blk X scope fun X' => We X' e σ H Q
def blkT (X : Cx) (scope : Scope) (ifs : List Expr) : TT := fun σ H Q => Blk X scope fun X' => Wts X' ifs σ H Q
def blkG (X : Cx) (scope : Scope) (tg : Expr) : TG := fun v σ H Q => Blk X scope fun X' => Wg X' tg v σ H Q
/-- the reading of a comprehension, out of its parts over data -/
theorem lc_ok {tg iter : Expr} {ifs : List Expr} {scope : Scope} {vs : List Nat} {ts : List Nat} {gi : En → Rs (List PyData)} {g : PyData → En → Option En} {Q : VK} (hi : DI X EX W tg iter gi) (hts : ∀ i ∈ ts, i ∈ vs)
    (hg : Blk X scope fun X' => DG X' tg ts g) (ht : Blk X scope fun X' => DTs X' EX ifs gt) (he : Blk X scope fun X' => DE X' EX W0 e ga) (sr : SR X.K So Bs τ μ σ H η) (hpost : PostN X.K So Bs τ σ EX W (eLc vs gi g gt ga η) Q) :
    tLc (Wi X tg iter) (blkG X scope tg) (blkT X scope ifs) (blkE X scope e) vs σ H Q := by
  refine hi So (mx μ η H) τ σ H η _ sr.max ?_
  unfold eLc at hpost
  cases hr : gi η with
  | no => rw [hr] at hpost; exact hpost
  | ex n as η1 => rw [hr] at hpost; exact fun H1 cls dd sr1 hx => hpost H1 cls dd (sr.back sr1) hx
  | ok ds η1 =>
    rw [hr] at hpost
    replace hpost : PostN X.K So Bs τ σ EX W (lcO vs g gt ga ds [] η1) Q := hpost
    intro μ1 H1 sr1' J hwk D hD
    obtain ⟨G, Y, w, hG, hY⟩ := hwk
    have sr1 := sr.back sr1'
    have hso : ¬ So D := sr1.so_ne hD
    have hbs : mx μ1 η1 H1 D = none := by
      cases q : mx μ1 η1 H1 D with
      | none => rfl
      | some u => rw [(mx_iff.mp q).1] at hD; cases hD
    refine lc_it w (fun i H2 => ∃ (μ2 : Mu) (η2 : En) (acc : List PyData) (as : List V), SR X.K (plus So D) (upd (mx μ1 η1 H1) D (.lst as)) τ μ2 σ H2 η2 ∧ DqAll X.K (vis (plus So D) μ2 η2 H2) as acc ∧ PostN X.K So Bs τ σ EX W (lcO vs g gt ga (ds.drop i) acc η2) Q) ?_ ?_ ?_ ?_
    · exact ⟨μ1, η1, [], [], sr1.max.hide hD, .nil, hpost⟩
    · rintro i H2 hi ⟨μ2, η2, acc, as, sr2, _⟩
      refine hG H2 fun b u hb => ?_
      obtain ⟨k1, k2, k3⟩ := vis_iff.mp hb
      exact (sr2.base b u (by rw [upd_ne (ne_of_none k1 hD)]; exact mx_iff.mpr ⟨k1, k2⟩)).1
    · rintro i x H2 H3 hi ⟨μ2, η2, acc, as, sr2, has, q2⟩ y
      have gr : Same (vis So μ1 η1 H1) (vis (plus So D) μ2 η2 H2) := fun b u hb => by
        obtain ⟨k1, k2, k3⟩ := vis_iff.mp hb
        obtain ⟨k4, k5⟩ := sr2.base b u (by rw [upd_ne (ne_of_none k1 hD)]; exact mx_iff.mpr ⟨k1, k2⟩)
        exact vis_iff.mpr ⟨k4, k5, fun z => z.elim k3 (ne_of_none k1 hD)⟩
      obtain ⟨d, hd, hy⟩ := hY i H2 x H3 (gr.trans same_vis) y hi
      have hdrop : ds.drop i = d :: ds.drop (i + 1) := by
        rw [List.drop_eq_getElem_cons hi]
        have := List.getElem?_eq_some_iff.mp hd
        rw [this.2]
      rw [hdrop] at q2
      obtain ⟨sr3, hx, has3⟩ : SR X.K (plus So D) (upd (mx μ1 η1 H1) D (.lst as)) τ μ2 σ H3 η2 ∧ Dq X.K (vis (plus So D) μ2 η2 H3) x d ∧ DqAll X.K (vis (plus So D) μ2 η2 H3) as acc := by
        rcases hy with ⟨rfl, hx⟩ | ⟨T, wss, es, rfl, hT, rfl, hx, rfl⟩
        · exact ⟨sr2, Dq.mono gr _ _ hx, has⟩
        · exact ⟨sr2.new hT, .tup (SqT.of (sr2.vis_at hT)) (DqAll.mono (gr.trans (vis_new hT)) _ _ hx), DqAll.mono (vis_new hT) _ _ has⟩
      have sr4 := sr3.wipe vs
      have sm4 : Same (vis (plus So D) μ2 η2 H3) (vis (plus So D) μ2 (wipeE η2 vs) H3) := forget_same vs
      unfold lcO at q2
      split at q2
      · exact q2.elim
      · next η5 e5 =>
        intro s0 H0 C cl fp
        refine hg s0 H0 C cl fp _ _ τ _ H3 _ x d η5 _ e5 sr4 (Dq.mono sm4 _ _ hx) fun σ5 sr5 s5 l5 k5 => ?_
        have l5' : σ5.length = σ.length := l5.trans (wipe_length σ vs)
        have k5' : ∀ j, j ∉ vs → σ5[j]? = σ[j]? := fun j hj => (k5 j fun z => hj (hts j z)).trans (wipe_get hj)
        refine ⟨wipe_eq l5' k5', fun s0 H0 C cl fp => ?_⟩
        have has5 := DqAll.mono (sm4.trans s5) _ _ has3
        refine ht s0 H0 C cl fp _ (mx μ2 η5 H3) τ σ5 H3 η5 _ sr5.max ?_
        cases hr6 : gt η5 with
        | no => rw [hr6] at q2; exact q2
        | ex n as η6 => rw [hr6] at q2; exact q2.elim
        | ok b η6 =>
          rw [hr6] at q2
          intro μ6 H6 sr6'
          have sr6 := sr5.back sr6'
          have has6 := DqAll.mono (SR.grown sr6') _ _ has5
          cases b with
          | false =>
            refine iteF ⟨μ6, wipeE η6 vs, acc, as, sr6.unwipe l5' k5', DqAll.mono (forget_same vs) _ _ has6, q2⟩
          | true =>
            simp only at q2
            refine iteT fun s0 H0 C cl fp => ?_
            refine he s0 H0 C cl fp _ (mx μ6 η6 H6) τ σ5 H6 η6 _ sr6.max ?_
            cases hr7 : ga η6 with
            | no => rw [hr7] at q2; exact q2
            | ex n as η7 => rw [hr7] at q2; exact q2.elim
            | ok yv η7 =>
              rw [hr7] at q2
              simp only at q2
              split at q2
              · next hz =>
                intro μ7 H7 sr7' v7 hv7
                have sr7 := sr6.back sr7'
                have has7 := DqAll.mono (SR.grown sr7') _ _ has6
                refine ⟨as, (sr7.base D _ upd_same).1, by rw [has7.len]; exact hz, μ7, wipeE η7 vs, acc ++ [yv], as ++ [v7], (sr7.unwipe l5' k5').put hso, ?_, q2⟩
                have hs : Same (vis (plus So D) μ7 η7 H7) (vis (plus So D) μ7 (wipeE η7 vs) (upd H7 D (.lst (as ++ [v7])))) := (forget_same vs).trans (vis_same fun b u k1 k2 k3 => ⟨(upd_ne fun z => k3 (.inr z)).trans k1, k2, k3⟩)
                exact (DqAll.mono hs _ _ has7).append (.cons (Dq.mono hs _ _ hv7) .nil)
              · exact q2.elim
    · rintro H2 ⟨μ2, η2, acc, as, sr2, has, q2⟩
      rw [List.drop_length] at q2
      refine q2 D as H2 ?_ hso (sr1.fresh hD) has
      refine sr2.base_mono (fun b u hb => ?_) fun b hb => ?_
      · by_cases e : b = D
        · subst e
          rw [upd_same] at hb ⊢
          exact hb
        · rw [upd_ne e] at hb ⊢
          exact mx_iff.mpr (sr1.base b u hb)
      · by_cases e : b = D
        · exact ⟨_, by rw [e]; exact upd_same, rfl⟩
        · rcases hb with hb | hb
          · obtain ⟨u, hu, hm⟩ := sr.so b hb
            exact ⟨u, (upd_ne e).trans hu, hm⟩
          · exact (e hb).elim
theorem blkE_pe {scope : Scope} : Blk X scope fun X' => PE X' e (blkE X scope e) := fun s0 H0 C cl fp => ⟨fun pins s σ H Q I h => we.run pins s σ H Q I (h s0 H0 C cl fp)⟩
theorem blkT_pe {scope : Scope} {ifs : List Expr} : Blk X scope fun X' => PTs X' ifs (blkT X scope ifs) := fun s0 H0 C cl fp => ⟨fun pins s σ H Q I h => wts.run pins s σ H Q I (h s0 H0 C cl fp)⟩
theorem blkG_pe {scope : Scope} {tg : Expr} : Blk X scope fun X' => PG X' tg (blkG X scope tg) := fun s0 H0 C cl fp => ⟨fun pins s σ H v u Q I r h => wg.run pins s σ H v u Q I r (h s0 H0 C cl fp)⟩
/-- [elt for target in iter if ..] -/
theorem dn_lc {tg iter : Expr} {ifs : List Expr} {scope : Scope} {own : List (Str × Nat)} {ts : List Nat} {gi : En → Rs (List PyData)} {g : PyData → En → Option En} (hc : X.calm = true) (hN : X.N.Nodup) (hi : DI X EX W tg iter gi) (ok : BlkOk X.N X.env.scope scope own) (hts : ∀ i ∈ ts, i ∈ own.map (·.2))
    (hg : Blk X scope fun X' => DG X' tg ts g) (ht : Blk X scope fun X' => DTs X' EX ifs gt) (he : Blk X scope fun X' => DE X' EX W0 e ga) (hs : ∀ x, foldedSetIterable iter X.env x = pure x := by intro _; rfl) :
    DN X EX W (.ListComp e [⟨tg, iter, ifs, 0⟩] scope pos) (eLc (own.map (·.2)) gi g gt ga) := by
  intro So Bs τ μ σ H η Q sr h
  exact ⟨_, pe_lc hc hN wi ok blkG_pe blkT_pe blkE_pe hs, lc_ok hi hts hg ht he sr h⟩
/-- name = [..], as data or as the slot's own -/
theorem ds_setLc {i : Nat} {y : Str} {py spos : Pos} {tg iter : Expr} {ifs : List Expr} {scope : Scope} {own : List (Str × Nat)} {ts : List Nat} {gi : En → Rs (List PyData)} {g : PyData → En → Option En} (hc : X.calm = true) (hN : X.N.Nodup) (hy : X.N[i]? = some y) (hyl : X.env.scope.names.lookup y = some .local)
    (hsw : swapsWith (.ListComp e [⟨tg, iter, ifs, 0⟩] scope pos) (some (.Name y py)) spos.line X.env = pure true) (hi : DI X EX W tg iter gi) (ok : BlkOk X.N X.env.scope scope own) (hts : ∀ i ∈ ts, i ∈ own.map (·.2))
    (hg : Blk X scope fun X' => DG X' tg ts g) (ht : Blk X scope fun X' => DTs X' EX ifs gt) (he : Blk X scope fun X' => DE X' EX W0 e ga) (hs : ∀ x, foldedSetIterable iter X.env x = pure x := by intro _; rfl) :
    DS X EX W (.Assign [.Name y py] (.ListComp e [⟨tg, iter, ifs, 0⟩] scope pos) spos) (oSet i (eNew (eLc (own.map (·.2)) gi g gt ga))) := by
  intro So Bs τ μ σ H η D sr hp
  refine ⟨_, L2.ps_setLc hc hN hy hyl hsw wi ok blkG_pe blkT_pe blkE_pe hs, ?_⟩
  refine lc_ok (W := W) hi hts hg ht he sr ?_
  unfold oSet eNew at hp
  cases hr : eLc (own.map (·.2)) gi g gt ga η with
  | no => rw [hr] at hp; exact hp
  | ex n as η1 => rw [hr] at hp; exact fun H1 cls dd sr1 hx => hp σ H1 cls dd sr1 hx
  | ok ds η1 =>
    rw [hr] at hp
    intro μ1 p vs H1 sr1 hn hb hd
    obtain ⟨h1, h2⟩ := hidden_cell sr1
    exact hp _ H1 ((sr1.unhide hb sr.so).setD (.lst (vis_iff.mpr ⟨h1, h2, hn⟩) (DqAll.mono vis_plus _ _ hd)))
theorem ds_setLcN {i : Nat} {y : Str} {py spos : Pos} {tg iter : Expr} {ifs : List Expr} {scope : Scope} {own : List (Str × Nat)} {ts : List Nat} {gi : En → Rs (List PyData)} {g : PyData → En → Option En} (hc : X.calm = true) (hN : X.N.Nodup) (hy : X.N[i]? = some y) (hyl : X.env.scope.names.lookup y = some .local)
    (hsw : swapsWith (.ListComp e [⟨tg, iter, ifs, 0⟩] scope pos) (some (.Name y py)) spos.line X.env = pure true) (hi : DI X EX W tg iter gi) (ok : BlkOk X.N X.env.scope scope own) (hts : ∀ i ∈ ts, i ∈ own.map (·.2))
    (hg : Blk X scope fun X' => DG X' tg ts g) (ht : Blk X scope fun X' => DTs X' EX ifs gt) (he : Blk X scope fun X' => DE X' EX W0 e ga) (hs : ∀ x, foldedSetIterable iter X.env x = pure x := by intro _; rfl) :
    DS X EX W (.Assign [.Name y py] (.ListComp e [⟨tg, iter, ifs, 0⟩] scope pos) spos) (oNew i (eLc (own.map (·.2)) gi g gt ga)) := by
  intro So Bs τ μ σ H η D sr hp
  refine ⟨_, L2.ps_setLc hc hN hy hyl hsw wi ok blkG_pe blkT_pe blkE_pe hs, ?_⟩
  refine lc_ok (W := W) hi hts hg ht he sr ?_
  unfold oNew at hp
  cases hr : eLc (own.map (·.2)) gi g gt ga η with
  | no => rw [hr] at hp; exact hp
  | ex n as η1 => rw [hr] at hp; exact fun H1 cls dd sr1 hx => hp σ H1 cls dd sr1 hx
  | ok ds η1 =>
    rw [hr] at hp
    intro μ1 p vs H1 sr1 hn hb hd
    obtain ⟨h1, h2⟩ := hidden_cell sr1
    exact hp _ H1 (sr1.setO (s := .l 0 ds) hn hb sr.so rfl ⟨vs, rfl, h1, hd, fun z => (z rfl).elim⟩)
end
end DA

/-! defs, over data -/
namespace DA
open PySem PySem.Spec PyProof.Rows L2
/-- the pin of an own slot -/
def Sl.tag : Sl → Nat
  | .d _ => 0
  | .l t _ => t
  | .k t _ => t
  | .r t _ _ => t
def Sl.retag (t : Nat) : Sl → Sl
  | .d x => .d x
  | .l _ xs => .l t xs
  | .k _ kvs => .k t kvs
  | .r _ n cs => .r t n cs
def Sl.root : Sl → Nat
  | .r _ n _ => n
  | _ => 0
def Sl.kind : Sl → Nat
  | .d _ => 0
  | .l _ _ => 1
  | .k _ _ => 2
  | .r _ _ _ => 3
/-- s may stand where a stood: the same thing, grown -/
def fits (s a : Sl) : Bool := s.kind == a.kind && s.root == a.root && decide (a.size ≤ s.size)
theorem fits_iff {s a : Sl} (h : fits s a = true) : s.kind = a.kind ∧ s.root = a.root ∧ a.size ≤ s.size := by
  simpa [fits, and_assoc] using h
/-- the j-th argument's slot behind a call: data are forgotten, own ones are told anew; none where they can't be -/
def exitAt (j : Nat) (a : Sl) (e : Option Sl) : Option (Option Sl) :=
  if a.own = true then match e with
    | some s => if fits s a = true ∧ s.tag = j + 1 then some (some s) else none
    | none => none
  else some none
def exits : Nat → List Sl → En → Option En
  | _, [], _ => some []
  | j, a :: as, η => match exitAt j a ((η.headD none)), exits (j + 1) as η.tail with
    | some e, some es => some (e :: es)
    | _, _ => none
/-- a def out of its body: N slots -/
def fnOf (N : Nat) (body : En → Ot) (as : List Sl) : Rs PyData := match body (as.map some ++ List.replicate (N - as.length) none) with
  | .rt d η => match exits 0 as η with
    | some es => .ok d es
    | none => .no
  | .nx η => match exits 0 as η with
    | some es => .ok .none es
    | none => .no
  | .ex n xs η => match exits 0 as η with
    | some es => .ex n xs es
    | none => .no
  | _ => .no
/-- pinned arguments -/
def Pinned (τ : Pin) (as : List Sl) : Prop := ∀ (j : Nat) (s : Sl), as[j]? = some s → s.own = true → s.tag = j + 1 ∧ ∀ n, n < s.size → ∃ a, τ (j + 1) n = some a
/-- the promise of a def over data -/
def spG (K : PySem.W.Frag) (EX : Exs) (n : Nat) (G : List Sl → Rs PyData) : Sp := fun vs H Q E => ∃ So Bs τ μ as, vs.length = n ∧ as.length = n ∧ SR K So Bs τ μ (vs.map some) H (as.map some) ∧ Pinned τ as ∧
  match G as with
  | .no => False
  | .ok d es => ∀ {μ : Mu} v H', SR K So Bs τ μ (vs.map some) H' es → Dq K (vis So μ es H') v d → Q v H'
  | .ex m xs es => ∀ {μ : Mu} H' cls dd, SR K So Bs τ μ (vs.map some) H' es → EX m xs cls dd (vis So μ es H') → E cls dd H'
theorem exits_len : ∀ {j : Nat} {as : List Sl} {η es : En}, exits j as η = some es → es.length = as.length
  | _, [], _, es, h => by cases h; rfl
  | j, a :: as, η, es, h => by
    unfold exits at h
    split at h
    · next e es' h1 h2 =>
      cases h
      rw [List.length_cons, List.length_cons, exits_len h2]
    · cases h
theorem exits_get : ∀ {j : Nat} {as : List Sl} {η es : En}, exits j as η = some es → ∀ (i : Nat) (a : Sl), as[i]? = some a → exitAt (j + i) a ((η[i]?).getD none) = es[i]?
  | _, [], _, es, h, i, a, e => by cases e
  | j, a :: as, η, es, h, i, b, e => by
    unfold exits at h
    split at h
    · next e1 es' h1 h2 =>
      cases h
      cases i with
      | zero =>
        cases e
        rw [Nat.add_zero]
        have : (η[0]?).getD none = η.headD none := by cases η <;> rfl
        rw [this]
        exact h1
      | succ i =>
        have := exits_get h2 i b (by simpa using e)
        rw [show j + (i + 1) = j + 1 + i by omega]
        have e2 : η[i + 1]? = η.tail[i]? := by cases η <;> rfl
        rw [e2, this]
        rfl
    · cases h
theorem exitAt_some {j : Nat} {a s : Sl} {e : Option Sl} (h : exitAt j a e = some (some s)) : e = some s ∧ a.own = true ∧ fits s a = true ∧ s.tag = j + 1 := by
  unfold exitAt at h
  split at h
  · next ho =>
    split at h
    · next s' =>
      split at h
      · next hk => cases h; exact ⟨rfl, ho, hk.1, hk.2⟩
      · cases h
    · cases h
  · cases h
theorem own_kind {s a : Sl} (h : s.kind = a.kind) : s.own = a.own := by cases s <;> cases a <;> first | rfl | cases h
theorem SlR.ref {K : PySem.W.Frag} {Hv H : Hp} {τ : Pin} {m : Nat → Addr} {v : V} {s : Sl} (h : SlR K Hv H τ m v s) (o : s.own = true) : v = .ref (m s.root) ∧ s.root < s.size ∧ (s.tag ≠ 0 → ∀ n a, τ s.tag n = some a → n < s.size ∧ m n = a) := by
  cases s with
  | d x => cases o
  | l t xs => obtain ⟨vs, e, _, _, h3⟩ := h; exact ⟨e, Nat.zero_lt_one, h3⟩
  | k t kvs => obtain ⟨vs, e, _, _, h3⟩ := h; exact ⟨e, Nat.zero_lt_one, h3⟩
  | r t n cs => exact ⟨h.1.1, h.1.2, h.2.2⟩
theorem SlR.revalue {K : PySem.W.Frag} {Hv H : Hp} {τ τ' : Pin} {m : Nat → Addr} {v : V} {s : Sl} {t : Nat} (h : SlR K Hv H τ m v s) (ht : s.own = true → t ≠ 0 → ∀ n a, τ' t n = some a → n < s.size ∧ m n = a) : SlR K Hv H τ' m v (s.retag t) := by
  cases s with
  | d x => exact h
  | l t' xs => obtain ⟨vs, e, h1, h2, _⟩ := h; exact ⟨vs, e, h1, h2, ht rfl⟩
  | k t' kvs => obtain ⟨vs, e, h1, h2, _⟩ := h; exact ⟨vs, e, h1, h2, ht rfl⟩
  | r t' n cs => exact ⟨h.1, h.2.1, ht rfl⟩
section
variable {K : PySem.W.Frag} {So : Addr → Prop} {Bs Bs' : Hp} {τ : Pin} {μ μ0 : Mu} {σ : Sg} {η η2 : En} {H H2 : Hp} {a p : Addr} {u : HO} {v : V} {d x : PyData} {n : Nat}
/-- what an exit tells: each own argument's cells -/
theorem exit_sr {vs : List V} {as : List Sl} {es : En} (hl : vs.length = as.length) (sr0 : SR K So Bs' τ μ0 (vs.map some) H (as.map some)) (ht : Pinned τ as) (sr : SR K So Bs τ μ σ H2 η2) (he : exits 0 as η2 = some es) :
    SR K So Bs τ μ (vs.map some) H2 es ∧ Same (vis So μ η2 H2) (vis So μ es H2) := by
  have el := exits_len he
  have key : ∀ (i : Nat) (s : Sl), es[i]? = some (some s) → s.own = true ∧ η2[i]? = some (some s) ∧ vs[i]? = some (.ref (μ i s.root)) := fun i s e => by
    have hi : i < as.length := by rw [← el]; exact (List.getElem?_eq_some_iff.mp e).1
    have ea : as[i]? = some as[i] := List.getElem?_eq_getElem hi
    have g := exits_get he i _ ea
    rw [Nat.zero_add, e] at g
    obtain ⟨g1, g2, g3, g4⟩ := exitAt_some g
    obtain ⟨k1, k2, k3⟩ := fits_iff g3
    have so : s.own = true := by rw [own_kind k1]; exact g2
    have e2 : η2[i]? = some (some s) := by
      cases q : η2[i]? with
      | none => rw [q] at g1; cases g1
      | some z => rw [q] at g1; rw [show z = some s from g1]
    obtain ⟨v1, ev1, h1⟩ := sr0.sl i as[i] (by rw [List.getElem?_map, ea]; rfl)
    obtain ⟨v2, ev2, h2⟩ := sr.sl i s e2
    obtain ⟨t1, t2⟩ := ht i _ ea g2
    obtain ⟨r1, r2, r3⟩ := h1.ref g2
    obtain ⟨r4, r5, r6⟩ := h2.ref so
    obtain ⟨a, hb⟩ := t2 _ r2
    have q1 := (r3 (by rw [t1]; omega) _ a (by rw [t1]; exact hb)).2
    have q2 := (r6 (by rw [g4]; omega) _ a (by rw [g4]; exact hb)).2
    refine ⟨so, e2, ?_⟩
    rw [List.getElem?_map] at ev1
    cases q : vs[i]? with
    | none => rw [q] at ev1; cases ev1
    | some z =>
      rw [q] at ev1
      cases ev1
      rw [r1, q1, k2, q2]
  have ow : ∀ b, Ow μ es b → Ow μ η2 b := by
    rintro b ⟨i, s, k, e, hk, eb⟩
    exact ⟨i, s, k, (key i s e).2.1, hk, eb⟩
  have hs : Same (vis So μ η2 H2) (vis So μ es H2) := vis_same fun b w h1 h2 h3 => ⟨h1, fun z => h2 (ow b z), h3⟩
  refine ⟨⟨by rw [el, List.length_map, hl], fun i s e => ?_, fun i j s t k l g1 g2 g3 g4 g5 => ?_, fun b w hb => ?_, sr.so⟩, hs⟩
  · obtain ⟨so, e2, eb⟩ := key i s e
    obtain ⟨v2, ev2, h2⟩ := sr.sl i s e2
    refine ⟨.ref (μ i s.root), by rw [List.getElem?_map, eb]; rfl, ?_⟩
    rw [← (h2.ref so).1]
    exact h2.mono hs fun _ _ _ h => h
  · exact sr.inj i j s t k l (key i s g1).2.1 (key j t g2).2.1 g3 g4 g5
  · obtain ⟨h1, h2⟩ := sr.base b w hb
    exact ⟨h1, fun z => h2 (ow b z)⟩
/-- at the entry -/
theorem entry_sr {vs : List V} {as : List Sl} {N : List Str} (hn : vs.length ≤ N.length) (hl : vs.length = as.length) (sr : SR K So Bs τ μ (vs.map some) H (as.map some)) : SR K So Bs τ μ (start N vs) H (as.map some ++ List.replicate (N.length - as.length) none) := by
  have get : ∀ (i : Nat) (s : Sl), (as.map some ++ List.replicate (N.length - as.length) none)[i]? = some (some s) → i < vs.length ∧ (as.map some)[i]? = some (some s) := fun i s e => by
    by_cases hi : i < (as.map some).length
    · rw [List.getElem?_append_left hi] at e
      exact ⟨by rw [hl]; simpa using hi, e⟩
    · rw [List.getElem?_append_right (by omega)] at e
      rw [List.getElem?_replicate] at e
      split at e <;> cases e
  have sg : ∀ (i : Nat), i < vs.length → (start N vs)[i]? = (vs.map some)[i]? := fun i hi => by
    unfold L2.start
    rw [List.getElem?_append_left (by simpa using hi)]
  have ow : ∀ b, Ow μ (as.map some ++ List.replicate (N.length - as.length) none) b → Ow μ (as.map some) b := by
    rintro b ⟨i, s, k, e, hk, eb⟩
    exact ⟨i, s, k, (get i s e).2, hk, eb⟩
  have hs : Same (vis So μ (as.map some) H) (vis So μ (as.map some ++ List.replicate (N.length - as.length) none) H) := vis_same fun b w h1 h2 h3 => ⟨h1, fun z => h2 (ow b z), h3⟩
  refine ⟨by unfold L2.start; simp [hl], fun i s e => ?_, fun i j s t k l g1 g2 g3 g4 g5 => ?_, fun b w hb => ?_, sr.so⟩
  · obtain ⟨hi, e2⟩ := get i s e
    obtain ⟨v, ev, h1⟩ := sr.sl i s e2
    exact ⟨v, by rw [sg i hi]; exact ev, h1.mono hs fun _ _ _ h => h⟩
  · exact sr.inj i j s t k l (get i s g1).2 (get j t g2).2 g3 g4 g5
  · obtain ⟨h1, h2⟩ := sr.base b w hb
    exact ⟨h1, fun z => h2 (ow b z)⟩
end
section
variable {P : Program} {w : World} {K : PySem.W.Frag} {mg : Str → Option Value} {base : Heap} {EX : Exs}
/-- THE RULE for a def over data -/
theorem fn_data {x qual : Str} {st : Stmt} {f : Addr} {fd : FuncData} {N ps : List Str} {k : Nat} {body : En → Ot} (F : Fun K x qual st f fd) (S : FnScope N ps (defScope st)) (hn : ps.length ≤ N.length)
    (hb : ∀ (cdv : Value) (A : Around) (outer : List Env) (s : Shared) (H : Hp) (E : XK), Room k (A.deeper (envOfC qual (defScope st) s.heap.objs.size f cdv)) →
      DSs (cxOf (L2.CX P w) P w K mg base N qual (defScope st) f cdv A outer s H E) EX (fun cls d _ H' => E cls d H') (defBody st) body) :
    FnOk P w K mg base (L2.CX P w) (k + 1) f fd ps (spG K EX ps.length (fnOf N.length body)) := by
  refine F.okX S (fun vs H Q E h => ?_) (fun cdv A outer s H vs Q E hr h => ?_)
  · obtain ⟨_, _, _, _, _, h, _⟩ := h
    exact h
  · obtain ⟨So, Bs, τ, μ, as, hvl, hal, sr, ht, hG⟩ := h
    have hl : vs.length = as.length := by rw [hvl, hal]
    refine hb cdv A outer s H E hr So Bs τ (start N vs) H _ _ (entry_sr (N := N) (by omega) hl sr) ?_
    unfold fnOf at hG
    cases hr : body (as.map some ++ List.replicate (N.length - as.length) none) with
    | no => rw [hr] at hG; exact hG
    | bk η => rw [hr] at hG; exact hG.elim
    | ct η => rw [hr] at hG; exact hG.elim
    | nx η =>
      rw [hr] at hG
      intro μ2 σ2 H2 sr2
      cases he : exits 0 as η with
      | none => simp only [he] at hG
      | some es =>
        simp only [he] at hG
        exact hG _ H2 (exit_sr hl sr ht sr2 he).1 .non
    | rt d η =>
      rw [hr] at hG
      intro μ2 σ2 H2 v sr2 hv
      cases he : exits 0 as η with
      | none => simp only [he] at hG
      | some es =>
        simp only [he] at hG
        obtain ⟨h1, h2⟩ := exit_sr hl sr ht sr2 he
        exact hG _ H2 h1 (Dq.mono h2 _ _ hv)
    | ex n xs η =>
      rw [hr] at hG
      intro μ2 σ2 H2 cls dd sr2 hx
      cases he : exits 0 as η with
      | none => simp only [he] at hG
      | some es =>
        simp only [he] at hG
        exact hG H2 cls dd (exit_sr hl sr ht sr2 he).1 (EX.mono (exit_sr hl sr ht sr2 he).2 hx)
theorem fn_data' {x qual : Str} {st : Stmt} {f : Addr} {fd : FuncData} {N ps : List Str} {k n m : Nat} {body : En → Ot} (F : Fun K x qual st f fd) (S : FnScope N ps (defScope st)) (hp : ps.length = n) (hm : N.length = m) (hn : n ≤ m)
    (hb : ∀ (cdv : Value) (A : Around) (outer : List Env) (s : Shared) (H : Hp) (E : XK), Room k (A.deeper (envOfC qual (defScope st) s.heap.objs.size f cdv)) →
      DSs (cxOf (L2.CX P w) P w K mg base N qual (defScope st) f cdv A outer s H E) EX (fun cls d _ H' => E cls d H') (defBody st) body) :
    FnOk P w K mg base (L2.CX P w) (k + 1) f fd ps (spG K EX n (fnOf m body)) := by
  subst hp hm
  exact fn_data F S hn hb
end
end DA

/-! calls of defs over data -/
namespace DA
open PySem PySem.Spec PyProof.Rows L2
/-- an argument: data, or an own slot -/
inductive Ag where
  | d (x : PyData)
  | o (i : Nat)
def AgR (K : PySem.W.Frag) (Hv : Hp) (σ : Sg) (v : V) : Ag → Prop
  | .d x => Dq K Hv v x
  | .o i => σ[i]? = some (some v)
def DAs (X : Cx) (EX : Exs) (W : WX) (es : List Expr) (g : En → Rs (List Ag)) : Prop := ∀ So Bs τ {μ : Mu} σ H η Q, SR X.K So Bs τ μ σ H η →
  Post X.K So Bs τ σ EX W (g η) (fun ags η' μ' H' => ∀ vs, Paired (AgR X.K (vis So μ' η' H') σ) vs ags → Q vs H') → Wa X es σ H Q
def mkArgs : Nat → List Ag → En → Option (List Sl)
  | _, [], _ => some []
  | j, .d x :: r, η => (mkArgs (j + 1) r η).map (Sl.d x :: ·)
  | j, .o i :: r, η => match η[i]? with
    | some (some s) => if s.own = true then (mkArgs (j + 1) r η).map (s.retag (j + 1) :: ·) else none
    | _ => none
def putB : Nat → List Ag → En → En → Option En
  | _, [], [], η => some η
  | j, .d _ :: r, none :: es, η => putB (j + 1) r es η
  | j, .o i :: r, some s' :: es, η => match η[i]? with
    | some (some s) => if s.own = true ∧ fits s' s = true ∧ s'.tag = j + 1 then putB (j + 1) r es (η.set i (some (s'.retag s.tag))) else none
    | _ => none
  | _, _, _, _ => none
def apart : List Ag → Bool
  | [] => true
  | .d _ :: r => apart r
  | .o i :: r => (r.all fun b => match b with
    | .o j => decide (j ≠ i)
    | _ => true) && apart r
def callO (n : Nat) (G : List Sl → Rs PyData) (ags : List Ag) (η : En) : Rs PyData :=
  if apart ags = true ∧ ags.length = n then match mkArgs 0 ags η with
    | none => .no
    | some as => match G as with
      | .no => .no
      | .ok d es => match putB 0 ags es η with
        | some η2 => .ok d η2
        | none => .no
      | .ex n xs es => match putB 0 ags es η with
        | some η2 => .ex n xs η2
        | none => .no
  else .no
def eCall (n : Nat) (G : List Sl → Rs PyData) (ga : En → Rs (List Ag)) (η : En) : Rs PyData := (ga η).bind fun ags η1 => callO n G ags η1
theorem apart_at : ∀ {ags : List Ag} {i j1 j2 : Nat}, apart ags = true → ags[j1]? = some (.o i) → ags[j2]? = some (.o i) → j1 = j2
  | [], _, _, _, _, h, _ => by cases h
  | a :: r, i, j1, j2, h, h1, h2 => by
    have hr : apart r = true ∧ ∀ i, a = .o i → Ag.o i ∉ r := by
      cases a with
      | d x => exact ⟨h, fun _ z => by cases z⟩
      | o k =>
        unfold apart at h
        rw [Bool.and_eq_true, List.all_eq_true] at h
        refine ⟨h.2, fun i z hm => ?_⟩
        cases z
        have := h.1 _ hm
        simp at this
    cases j1 with
    | zero =>
      cases j2 with
      | zero => rfl
      | succ j2 => exact (hr.2 i (by simpa using h1) (List.mem_of_getElem? (by simpa using h2))).elim
    | succ j1 =>
      cases j2 with
      | zero => exact (hr.2 i (by simpa using h2) (List.mem_of_getElem? (by simpa using h1))).elim
      | succ j2 => exact congrArg (· + 1) (apart_at hr.1 (by simpa using h1) (by simpa using h2))
theorem mk_get : ∀ {j0 : Nat} {ags : List Ag} {η : En} {as : List Sl}, mkArgs j0 ags η = some as → as.length = ags.length ∧ ∀ (j : Nat), (∀ (x : PyData), ags[j]? = some (.d x) → as[j]? = some (.d x)) ∧
    ∀ (i : Nat), ags[j]? = some (.o i) → ∃ (s : Sl), η[i]? = some (some s) ∧ s.own = true ∧ as[j]? = some (s.retag (j0 + j + 1))
  | _, [], _, as, h => by
    cases h
    exact ⟨rfl, fun j => ⟨fun x z => (by cases z), fun i z => (by cases z)⟩⟩
  | j0, .d y :: r, η, as, h => by
    unfold mkArgs at h
    cases q : mkArgs (j0 + 1) r η with
    | none => rw [q] at h; cases h
    | some as' =>
      rw [q] at h
      cases h
      obtain ⟨h1, h2⟩ := mk_get q
      refine ⟨by rw [List.length_cons, List.length_cons, h1], fun j => ?_⟩
      cases j with
      | zero => exact ⟨fun x z => by cases z; rfl, fun i z => by cases z⟩
      | succ j =>
        refine ⟨fun x z => by simpa using (h2 j).1 x (by simpa using z), fun i z => ?_⟩
        obtain ⟨s, e1, e2, e3⟩ := (h2 j).2 i (by simpa using z)
        exact ⟨s, e1, e2, by rw [show j0 + (j + 1) + 1 = j0 + 1 + j + 1 by omega]; simpa using e3⟩
  | j0, .o k :: r, η, as, h => by
    unfold mkArgs at h
    split at h
    · next s es =>
      split at h
      · next ho =>
        cases q : mkArgs (j0 + 1) r η with
        | none => rw [q] at h; cases h
        | some as' =>
          rw [q] at h
          cases h
          obtain ⟨h1, h2⟩ := mk_get q
          refine ⟨by rw [List.length_cons, List.length_cons, h1], fun j => ?_⟩
          cases j with
          | zero => exact ⟨fun x z => (by cases z), fun i z => by cases z; exact ⟨s, es, ho, rfl⟩⟩
          | succ j =>
            refine ⟨fun x z => by simpa using (h2 j).1 x (by simpa using z), fun i z => ?_⟩
            obtain ⟨s, e1, e2, e3⟩ := (h2 j).2 i (by simpa using z)
            exact ⟨s, e1, e2, by rw [show j0 + (j + 1) + 1 = j0 + 1 + j + 1 by omega]; simpa using e3⟩
      · cases h
    · cases h
/-- what putB lays -/
theorem put_get : ∀ {j0 : Nat} {ags : List Ag} {es η η2 : En}, putB j0 ags es η = some η2 → apart ags = true → es.length = ags.length ∧ η2.length = η.length ∧
    (∀ (j : Nat) (x : PyData), ags[j]? = some (.d x) → es[j]? = some none) ∧
    (∀ (j i : Nat), ags[j]? = some (.o i) → ∃ (s s' : Sl), η[i]? = some (some s) ∧ s.own = true ∧ fits s' s = true ∧ es[j]? = some (some s') ∧ η2[i]? = some (some (s'.retag s.tag)) ∧ s'.tag = j0 + j + 1) ∧
    ∀ (i : Nat), (∀ (j : Nat), ags[j]? ≠ some (.o i)) → η2[i]? = η[i]?
  | _, [], [], η, η2, h, _ => by
    cases h
    exact ⟨rfl, rfl, fun j x z => (by cases z), fun j i z => (by cases z), fun _ _ => rfl⟩
  | j0, .d y :: r, none :: es, η, η2, h, ha => by
    obtain ⟨h1, h2, h3, h4, h5⟩ := put_get (j0 := j0 + 1) (ags := r) (by simpa [putB] using h) ha
    refine ⟨by rw [List.length_cons, List.length_cons, h1], h2, fun j x z => ?_, fun j i z => ?_, fun i z => h5 i fun j w => z (j + 1) (by simpa using w)⟩
    · cases j with
      | zero => rfl
      | succ j => simpa using h3 j x (by simpa using z)
    · cases j with
      | zero => cases z
      | succ j =>
        obtain ⟨s, s', e1, e2, e3, e4, e5, e6⟩ := h4 j i (by simpa using z)
        exact ⟨s, s', e1, e2, e3, by simpa using e4, e5, by omega⟩
  | j0, .o k :: r, some s1' :: es, η, η2, h, ha => by
    unfold putB at h
    split at h
    · next s1 es1 =>
      split at h
      · next hk =>
        have hap : apart r = true ∧ Ag.o k ∉ r := by
          unfold apart at ha
          rw [Bool.and_eq_true, List.all_eq_true] at ha
          exact ⟨ha.2, fun hm => by have := ha.1 _ hm; simp at this⟩
        have hkl : k < η.length := (List.getElem?_eq_some_iff.mp es1).1
        obtain ⟨h1, h2, h3, h4, h5⟩ := put_get h hap.1
        refine ⟨by rw [List.length_cons, List.length_cons, h1], by rw [h2, List.length_set], fun j x z => ?_, fun j i z => ?_, fun i z => ?_⟩
        · cases j with
          | zero => cases z
          | succ j => simpa using h3 j x (by simpa using z)
        · cases j with
          | zero =>
            cases z
            refine ⟨s1, s1', es1, hk.1, hk.2.1, rfl, ?_, hk.2.2⟩
            rw [h5 k fun j w => hap.2 (List.mem_of_getElem? w)]
            exact List.getElem?_set_self hkl
          | succ j =>
            have z' : r[j]? = some (.o i) := by simpa using z
            obtain ⟨s, s', e1, e2, e3, e4, e5, e6⟩ := h4 j i z'
            have ne : i ≠ k := fun w => hap.2 (by rw [← w]; exact List.mem_of_getElem? z')
            exact ⟨s, s', by rw [List.getElem?_set_ne fun w => ne w.symm] at e1; exact e1, e2, e3, by simpa using e4, e5, by omega⟩
        · rw [h5 i fun j w => z (j + 1) (by simpa using w)]
          exact List.getElem?_set_ne fun w => z 0 (by rw [w]; rfl)
      · cases h
    · cases h
  | _, [], none :: es, η, η2, h, _ => by simp [putB] at h
  | _, [], some _ :: es, η, η2, h, _ => by simp [putB] at h
  | _, .d y :: r, [], η, η2, h, _ => by simp [putB] at h
  | _, .d y :: r, some _ :: es, η, η2, h, _ => by simp [putB] at h
  | _, .o k :: r, [], η, η2, h, _ => by simp [putB] at h
  | _, .o k :: r, none :: es, η, η2, h, _ => by simp [putB] at h
section
variable {K : PySem.W.Frag} {So : Addr → Prop} {Bs Bs' : Hp} {τ : Pin} {μ : Mu} {σ : Sg} {η η2 : En} {H H2 : Hp} {a p : Addr} {u : HO} {v : V} {d x : PyData} {n : Nat}
theorem retag_own {s : Sl} {t : Nat} : (s.retag t).own = s.own := by cases s <;> rfl
theorem retag_tag {s : Sl} {t : Nat} (h : s.own = true) : (s.retag t).tag = t := by cases s <;> first | rfl | cases h
/-- a passed cell -/
def Pa (ags : List Ag) (μ : Mu) (η : En) (a : Addr) : Prop := ∃ (j i n : Nat) (s : Sl), ags[j]? = some (.o i) ∧ η[i]? = some (some s) ∧ n < s.size ∧ μ i n = a
def So2 (So : Addr → Prop) (ags : List Ag) (μ : Mu) (η : En) (a : Addr) : Prop := (So a ∨ Ow μ η a) ∧ ¬ Pa ags μ η a
open Classical in
noncomputable def Bs2 (ags : List Ag) (μ : Mu) (η : En) (H : Hp) : Hp := fun a => if Pa ags μ η a then none else H a
theorem bs2_iff {ags : List Ag} : Bs2 ags μ η H a = some u ↔ H a = some u ∧ ¬ Pa ags μ η a := by
  unfold Bs2
  split
  · next h => exact ⟨fun z => (by cases z), fun z => (z.2 h).elim⟩
  · next h => exact ⟨fun z => ⟨z, h⟩, fun z => z.1⟩
/-- the pins of a call, where its arguments' cells lie -/
def tau2 (ags : List Ag) (μ : Mu) (η : En) : Pin := fun t n => match ags[t - 1]? with
  | some (.o i) => match η[i]? with
    | some (some s) => if n < s.size then some (μ i n) else none
    | _ => none
  | _ => none
def mu2 (ags : List Ag) (μ : Mu) : Mu := fun j => match ags[j]? with
  | some (.o i) => μ i
  | _ => fun _ => 0
open Classical in
/-- behind the call: the passed slots' cells as the callee left them -/
noncomputable def mu3 (ags : List Ag) (μ μe : Mu) : Mu := fun i => if h : ∃ j : Nat, ags[j]? = some (.o i) then μe h.choose else μ i
theorem mu3_o {ags : List Ag} {μe : Mu} {i j : Nat} (ha : apart ags = true) (h : ags[j]? = some (.o i)) : mu3 ags μ μe i = μe j := by
  have hx : ∃ j : Nat, ags[j]? = some (.o i) := ⟨j, h⟩
  unfold mu3
  rw [dif_pos hx, apart_at ha hx.choose_spec h]
theorem mu3_n {ags : List Ag} {μe : Mu} {i : Nat} (h : ∀ j : Nat, ags[j]? ≠ some (.o i)) : mu3 ags μ μe i = μ i := by
  unfold mu3
  rw [dif_neg fun ⟨j, hj⟩ => h j hj]
theorem mu2_o {ags : List Ag} {i j : Nat} (h : ags[j]? = some (.o i)) : mu2 ags μ j = μ i := by
  unfold mu2
  rw [h]
theorem pair_get {α β : Type} {F : α → β → Prop} : ∀ {l : List α} {m : List β}, Paired F l m → ∀ (j : Nat) (b : β), m[j]? = some b → ∃ a, l[j]? = some a ∧ F a b
  | _, _, .nil, _, _, h => by cases h
  | _, _, .cons r t, 0, b, h => by cases h; exact ⟨_, rfl, r⟩
  | _, _, .cons r t, j + 1, b, h => by
    obtain ⟨a, e, f⟩ := pair_get t j b (by simpa using h)
    exact ⟨a, by simpa using e, f⟩
theorem pa_ow {ags : List Ag} (h : Pa ags μ η a) : Ow μ η a := by
  obtain ⟨j, i, n, s, e1, e2, e3, e4⟩ := h
  exact ⟨i, s, n, e2, e3, e4⟩
theorem retag_size {s : Sl} {t : Nat} : (s.retag t).size = s.size := by cases s <;> rfl
theorem call_in (sr : SR K So Bs τ μ σ H η) {ags : List Ag} {vs : List V} {as : List Sl} (hp : Paired (AgR K (vis So μ η H) σ) vs ags) (ha : apart ags = true) (hm : mkArgs 0 ags η = some as) :
    SR K (So2 So ags μ η) (Bs2 ags μ η H) (tau2 ags μ η) (mu2 ags μ) (vs.map some) H (as.map some) ∧ Pinned (tau2 ags μ η) as ∧ as.length = ags.length := by
  obtain ⟨hl, hget⟩ := mk_get hm
  have lv : vs.length = ags.length := Paired.length hp
  have key : ∀ (j : Nat) (s : Sl), as[j]? = some s → (∃ x, s = .d x ∧ ags[j]? = some (.d x)) ∨ ∃ (i : Nat) (s0 : Sl), ags[j]? = some (.o i) ∧ η[i]? = some (some s0) ∧ s0.own = true ∧ s = s0.retag (j + 1) := fun j s e => by
    have hj : j < ags.length := by rw [← hl]; exact (List.getElem?_eq_some_iff.mp e).1
    have ea : ags[j]? = some ags[j] := List.getElem?_eq_getElem hj
    revert ea
    generalize ags[j] = ag
    intro ea
    cases ag with
    | d x =>
      have := (hget j).1 x ea
      rw [e] at this
      cases this
      exact .inl ⟨x, rfl, ea⟩
    | o i =>
      obtain ⟨s0, e1, e2, e3⟩ := (hget j).2 i ea
      rw [e, Nat.zero_add] at e3
      cases e3
      exact .inr ⟨i, s0, ea, e1, e2, rfl⟩
  have mapg : ∀ {j : Nat} {s : Sl}, (as.map some)[j]? = some (some s) → as[j]? = some s := fun {j s} e => by
    rw [List.getElem?_map] at e
    cases q : as[j]? with
    | none => rw [q] at e; cases e
    | some z => rw [q] at e; cases e; rfl
  have pin : ∀ {j i n : Nat} {s0 : Sl}, ags[j]? = some (.o i) → η[i]? = some (some s0) → tau2 ags μ η (j + 1) n = if n < s0.size then some (μ i n) else none := fun {j i n s0} h1 h2 => by
    unfold tau2
    simp only [Nat.add_sub_cancel, h1, h2]
  have ow : ∀ b, Ow (mu2 ags μ) (as.map some) b → Pa ags μ η b := by
    rintro b ⟨j, s, n, e, hn, eb⟩
    rcases key j s (mapg e) with ⟨x, rfl, _⟩ | ⟨i, s0, h1, h2, h3, rfl⟩
    · exact absurd hn (Nat.not_lt_zero _)
    · rw [retag_size] at hn
      rw [mu2_o h1] at eb
      exact ⟨j, i, n, s0, h1, h2, hn, eb⟩
  have hs : Same (vis So μ η H) (vis (So2 So ags μ η) (mu2 ags μ) (as.map some) H) := vis_same fun b w h1 h2 h3 =>
    ⟨h1, fun z => h2 (pa_ow (ow b z)), fun z => z.1.elim h3 h2⟩
  refine ⟨⟨by rw [List.length_map, List.length_map, hl, lv], fun j s e => ?_, fun j1 j2 s t k l g1 g2 g3 g4 g5 => ?_, fun b w hb => ?_, fun b hb => ?_⟩, fun j s e o => ?_, hl⟩
  · rcases key j s (mapg e) with ⟨x, rfl, h1⟩ | ⟨i, s0, h1, h2, h3, rfl⟩
    · obtain ⟨v, ev, hv⟩ := pair_get hp j _ h1
      exact ⟨v, by rw [List.getElem?_map, ev]; rfl, Dq.mono hs _ _ hv⟩
    · obtain ⟨v, ev, hv⟩ := pair_get hp j _ h1
      obtain ⟨v', ev', h0⟩ := sr.sl i s0 h2
      rw [show σ[i]? = some (some v) from hv] at ev'
      cases ev'
      refine ⟨v, by rw [List.getElem?_map, ev]; rfl, ?_⟩
      rw [mu2_o h1]
      refine (h0.mono hs fun _ _ _ h => h).revalue fun _ _ n a hn => ?_
      rw [pin h1 h2] at hn
      split at hn
      · next hlt => cases hn; exact ⟨hlt, rfl⟩
      · cases hn
  · rcases key j1 s (mapg g1) with ⟨x, rfl, _⟩ | ⟨i1, s1, a1, a2, a3, rfl⟩
    · exact absurd g3 (Nat.not_lt_zero _)
    rcases key j2 t (mapg g2) with ⟨x, rfl, _⟩ | ⟨i2, s2, b1, b2, b3, rfl⟩
    · exact absurd g4 (Nat.not_lt_zero _)
    rw [mu2_o a1, mu2_o b1] at g5
    rw [retag_size] at g3 g4
    obtain ⟨rfl, e⟩ := sr.inj i1 i2 s1 s2 k l a2 b2 g3 g4 g5
    exact ⟨apart_at ha a1 b1, e⟩
  · obtain ⟨h1, h2⟩ := bs2_iff.mp hb
    exact ⟨h1, fun z => h2 (ow b z)⟩
  · have : ∃ u, H b = some u ∧ mutO u = true := by
      rcases hb.1 with z | z
      · exact sr.so_M z
      · exact sr.ow z
    obtain ⟨u, hu, hm⟩ := this
    exact ⟨u, bs2_iff.mpr ⟨hu, hb.2⟩, hm⟩
  · rcases key j s e with ⟨x, rfl, _⟩ | ⟨i, s0, h1, h2, h3, rfl⟩
    · cases o
    · refine ⟨retag_tag h3, fun n hn => ?_⟩
      rw [retag_size] at hn
      exact ⟨μ i n, by rw [pin h1 h2, if_pos hn]⟩
theorem retag_root {s : Sl} {t : Nat} : (s.retag t).root = s.root := by cases s <;> rfl
theorem call_out (sr : SR K So Bs τ μ σ H η) {ags : List Ag} {vs : List V} {es : En} {μe : Mu} (hp : Paired (AgR K (vis So μ η H) σ) vs ags) (ha : apart ags = true)
    (r : SR K (So2 So ags μ η) (Bs2 ags μ η H) (tau2 ags μ η) μe (vs.map some) H2 es) (hb : putB 0 ags es η = some η2) (hpin : ∀ (j i : Nat) (s s' : Sl) (n : Nat), ags[j]? = some (.o i) → η[i]? = some (some s) → es[j]? = some (some s') → n < s.size → μe j n = μ i n) :
    SR K So Bs τ (mu3 ags μ μe) σ H2 η2 ∧ Same (vis (So2 So ags μ η) μe es H2) (vis So (mu3 ags μ μe) η2 H2) := by
  obtain ⟨el, e2l, pd, po, pn⟩ := put_get hb ha
  have mapv : ∀ {j : Nat} {v : V}, (vs.map some)[j]? = some (some v) → vs[j]? = some v := fun {j v} e => by
    rw [List.getElem?_map] at e
    cases q : vs[j]? with
    | none => rw [q] at e; cases e
    | some z => rw [q] at e; cases e; rfl
  have back : ∀ (i : Nat) (s2 : Sl), η2[i]? = some (some s2) → (∃ (j : Nat) (s s' : Sl), ags[j]? = some (.o i) ∧ η[i]? = some (some s) ∧ s.own = true ∧ fits s' s = true ∧ es[j]? = some (some s') ∧ s2 = s'.retag s.tag) ∨ ((∀ (j : Nat), ags[j]? ≠ some (.o i)) ∧ η[i]? = some (some s2)) := fun i s2 e => by
    by_cases hx : ∃ (j : Nat), ags[j]? = some (.o i)
    · obtain ⟨j, hj⟩ := hx
      obtain ⟨s, s', e1, e2, e3, e4, e5, _⟩ := po j i hj
      rw [e] at e5
      cases e5
      exact .inl ⟨j, s, s', hj, e1, e2, e3, e4, rfl⟩
    · have hx' : ∀ (j : Nat), ags[j]? ≠ some (.o i) := fun j z => hx ⟨j, z⟩
      exact .inr ⟨hx', by rw [← pn i hx']; exact e⟩
  -- a cell of the state behind: the callee's, or an old one that was not passed
  have ow : ∀ b, Ow (mu3 ags μ μe) η2 b → Ow μe es b ∨ (Ow μ η b ∧ ¬ Pa ags μ η b) := by
    rintro b ⟨i, s2, n, e, hn, eb⟩
    rcases back i s2 e with ⟨j, s, s', h1, h2, h3, h4, h5, rfl⟩ | ⟨h1, h2⟩
    · rw [mu3_o ha h1] at eb
      rw [retag_size] at hn
      exact .inl ⟨j, s', n, h5, hn, eb⟩
    · rw [mu3_n h1] at eb
      refine .inr ⟨⟨i, s2, n, h2, hn, eb⟩, ?_⟩
      rintro ⟨j, i', n', s', k1, k2, k3, k4⟩
      obtain ⟨rfl, _⟩ := sr.inj i i' s2 s' n n' h2 k2 hn k3 (eb.trans k4.symm)
      exact h1 j k1
  have pao : ∀ b, Pa ags μ η b → Ow μe es b := by
    rintro b ⟨j, i, n, s, h1, h2, h3, h4⟩
    obtain ⟨s1, s', e1, e2, e3, e4, e5, _⟩ := po j i h1
    rw [h2] at e1
    cases e1
    exact ⟨j, s', n, e4, Nat.lt_of_lt_of_le h3 (fits_iff e3).2.2, (hpin j i s s' n h1 h2 e4 h3).trans h4⟩
  have owr : ∀ b, Ow μ η b → Ow μe es b ∨ So2 So ags μ η b := fun b z => by
    by_cases hp : Pa ags μ η b
    · exact .inl (pao b hp)
    · exact .inr ⟨.inr z, hp⟩
  have hs : Same (vis (So2 So ags μ η) μe es H2) (vis So (mu3 ags μ μe) η2 H2) := vis_same fun b w h1 h2 h3 => by
    have np : ¬ Pa ags μ η b := fun z => h2 (pao b z)
    exact ⟨h1, fun z => (ow b z).elim h2 fun z => h3 ⟨.inr z.1, np⟩, fun z => h3 ⟨.inl z, np⟩⟩
  have old : ∀ b w, H b = some w → ¬ Pa ags μ η b → H2 b = some w ∧ ¬ Ow μe es b := fun b w h1 h2 => r.base b w (bs2_iff.mpr ⟨h1, h2⟩)
  have h01 : Same (vis So μ η H) (vis So (mu3 ags μ μe) η2 H2) := vis_same fun b w h1 h2 h3 => by
    obtain ⟨k1, k2⟩ := old b w h1 fun z => h2 (pa_ow z)
    exact ⟨k1, fun z => (ow b z).elim k2 fun z => h2 z.1, h3⟩
  refine ⟨⟨by rw [e2l]; exact sr.len, fun i s2 e => ?_, fun i1 i2 s t k l g1 g2 g3 g4 g5 => ?_, fun b w hbb => ?_, sr.so⟩, hs⟩
  · rcases back i s2 e with ⟨j, s, s', h1, h2, h3, h4, h5, rfl⟩ | ⟨h1, h2⟩
    · obtain ⟨v, ev, h0⟩ := sr.sl i s h2
      obtain ⟨v1, ev1, hv1⟩ := pair_get hp j _ h1
      rw [show σ[i]? = some (some v1) from hv1] at ev
      cases ev
      obtain ⟨v2, ev2, k2⟩ := r.sl j s' h5
      rw [mapv ev2] at ev1
      cases ev1
      refine ⟨v, hv1, ?_⟩
      rw [mu3_o ha h1]
      refine (k2.mono hs fun _ _ _ h => h).revalue fun _ z n a hn => ?_
      obtain ⟨_, q2, q3⟩ := h0.ref h3
      obtain ⟨q4, q5⟩ := q3 z n a hn
      exact ⟨Nat.lt_of_lt_of_le q4 (fits_iff h4).2.2, (hpin j i s s' n h1 h2 h5 q4).trans q5⟩
    · obtain ⟨v, ev, h0⟩ := sr.sl i s2 h2
      refine ⟨v, ev, ?_⟩
      rw [mu3_n h1]
      refine h0.mono h01 fun n w hn hw => ?_
      refine (old _ w hw ?_).1
      rintro ⟨j, i', n', s', k1, k2, k3, k4⟩
      obtain ⟨rfl, _⟩ := sr.inj i i' s2 s' n n' h2 k2 hn k3 k4.symm
      exact h1 j k1
  · have cls : ∀ {i : Nat} {s : Sl} {k : Nat}, η2[i]? = some (some s) → k < s.size → (∃ (j : Nat) (s' : Sl), ags[j]? = some (.o i) ∧ es[j]? = some (some s') ∧ k < s'.size ∧ mu3 ags μ μe i k = μe j k) ∨ ((∀ (j : Nat), ags[j]? ≠ some (.o i)) ∧ η[i]? = some (some s) ∧ mu3 ags μ μe i k = μ i k ∧ ¬ Pa ags μ η (μ i k)) := fun {i s k} e hk => by
      rcases back i s e with ⟨j, s1, s', h1, h2, h3, h4, h5, rfl⟩ | ⟨h1, h2⟩
      · rw [retag_size] at hk
        exact .inl ⟨j, s', h1, h5, hk, by rw [mu3_o ha h1]⟩
      · refine .inr ⟨h1, h2, by rw [mu3_n h1], ?_⟩
        rintro ⟨j, i', n', s', k1, k2, k3, k4⟩
        obtain ⟨rfl, _⟩ := sr.inj i i' s s' k n' h2 k2 hk k3 k4.symm
        exact h1 j k1
    have stands : ∀ {i : Nat} {s : Sl} {k : Nat}, η[i]? = some (some s) → k < s.size → ∃ o, H (μ i k) = some o := fun {i s k} e hk => by
      obtain ⟨o, h, _⟩ := sr.ow ⟨i, s, k, e, hk, rfl⟩
      exact ⟨o, h⟩
    rcases cls g1 g3 with ⟨j1, s1, a1, a2, a3, a4⟩ | ⟨a1, a2, a3, a4⟩
    · rcases cls g2 g4 with ⟨j2, s2, b1, b2, b3, b4⟩ | ⟨b1, b2, b3, b4⟩
      · rw [a4, b4] at g5
        obtain ⟨rfl, e⟩ := r.inj j1 j2 s1 s2 k l a2 b2 a3 b3 g5
        rw [a1] at b1
        cases b1
        exact ⟨rfl, e⟩
      · rw [a4, b3] at g5
        obtain ⟨o, ho⟩ := stands b2 g4
        exact ((old _ o ho b4).2 ⟨j1, s1, k, a2, a3, g5⟩).elim
    · rcases cls g2 g4 with ⟨j2, s2, b1, b2, b3, b4⟩ | ⟨b1, b2, b3, b4⟩
      · rw [a3, b4] at g5
        obtain ⟨o, ho⟩ := stands a2 g3
        exact ((old _ o ho a4).2 ⟨j2, s2, l, b2, b3, g5.symm⟩).elim
      · rw [a3, b3] at g5
        exact sr.inj i1 i2 s t k l a2 b2 g3 g4 g5
  · obtain ⟨h1, h2⟩ := sr.base b w hbb
    obtain ⟨k1, k2⟩ := old b w h1 fun z => h2 (pa_ow z)
    exact ⟨k1, fun z => (ow b z).elim k2 fun z => h2 z.1⟩
end
section
variable {X : Cx} {EX : Exs} {W : WX} {e : Expr} {es : List Expr} {ga : En → Rs PyData} {gs : En → Rs (List Ag)} {pos : Pos}
variable {So : Addr → Prop} {Bs : Hp} {τ : Pin} {μ : Mu} {σ : Sg} {H : Hp} {η : En}
def aNil (η : En) : Rs (List Ag) := .ok [] η
def aCons (ga : En → Rs PyData) (gs : En → Rs (List Ag)) (η : En) : Rs (List Ag) := (ga η).bind fun x η1 => (gs η1).bind fun ags η2 => .ok (.d x :: ags) η2
def aOwn (i : Nat) (gs : En → Rs (List Ag)) (η : En) : Rs (List Ag) := match η[i]? with
  | some (some s) => if s.own = true then (gs η).bind fun ags η2 => .ok (.o i :: ags) η2 else .no
  | _ => .no
theorem AgR.mono {K : PySem.W.Frag} {Hv Hv' : Hp} (s : Same Hv Hv') {v : V} {a : Ag} (h : AgR K Hv σ v a) : AgR K Hv' σ v a := by
  cases a with
  | d x => exact Dq.mono s _ _ h
  | o i => exact h
theorem DAs.seq {β : Type} {f : List Ag → En → Rs β} {P : β → En → Mu → Hp → Prop} {Q : List V → Hp → Prop} (ha : DAs X EX W es gs) (sr : SR X.K So Bs τ μ σ H η) (h : Post X.K So Bs τ σ EX W ((gs η).bind f) P)
    (fin : ∀ {μ1 : Mu} x η1 H1 v, SR X.K So Bs τ μ1 σ H1 η1 → Same (vis So μ η H) (vis So μ1 η1 H1) → Paired (AgR X.K (vis So μ1 η1 H1) σ) v x → Post X.K So Bs τ σ EX W (f x η1) P → Q v H1) : Wa X es σ H Q := by
  refine ha So (mx μ η H) τ σ H η Q sr.max ?_
  cases hr : gs η with
  | no => rw [hr] at h; exact h
  | ok x η1 => rw [hr] at h; exact fun H1 sr1 v hv => fin x η1 H1 v (sr.back sr1) sr1.grown hv h
  | ex n as η1 => rw [hr] at h; exact fun H1 cls dd sr1 hx => h H1 cls dd (sr.back sr1) hx
theorem das_nil : DAs X EX W [] aNil := by
  intro So Bs τ μ σ H η Q sr h
  exact ⟨_, pa_nil, h H sr [] .nil⟩
theorem das_cons (ha : DE X EX W e ga) (hl : DAs X EX W es gs) (hs : starEach (e :: es) X.env = (false, eval e X.env) :: starEach es X.env := by rfl) : DAs X EX W (e :: es) (aCons ga gs) := by
  intro So Bs τ μ σ H η Q sr h
  refine ⟨_, pa_cons we wa hs, ?_⟩
  refine ha.seq sr h fun x η1 H1 v sr1 s1 hx h1 => hl.seq sr1 h1 fun y η2 H2 u sr2 s2 hy h2 => ?_
  exact h2 H2 sr2 _ (.cons (Dq.mono s2 _ _ hx) hy)
theorem das_own {i : Nat} {x : Str} {p : Pos} (h : PE X (.Name x p) (tVar i)) (hl : DAs X EX W es gs) (hs : starEach (.Name x p :: es) X.env = (false, eval (.Name x p) X.env) :: starEach es X.env := by rfl) : DAs X EX W (.Name x p :: es) (aOwn i gs) := by
  intro So Bs τ μ σ H η Q sr hp
  refine ⟨_, pa_cons h wa hs, ?_⟩
  unfold aOwn at hp
  split at hp
  · next s e =>
    split at hp
    · obtain ⟨v, ev, _⟩ := sr.sl i s e
      refine ⟨v, ev, ?_⟩
      refine hl.seq sr hp fun y η2 H2 u sr2 s2 hy h2 => ?_
      exact h2 H2 sr2 _ (.cons ev hy)
    · exact hp.elim
  · exact hp.elim
/-- a def of the text, with its promise over data -/
structure Df (P : Program) (w : World) (K : PySem.W.Frag) (mg : Str → Option Value) (base : Heap) (EX : Exs) (k : Nat) (x : Str) (n : Nat) (G : List Sl → Rs PyData) : Prop where
  ex : ∃ (f : Addr) (fd : FuncData) (ps : List Str), mg x = some (.ref f) ∧ PySem.W.keepIn K (.ref f) = true ∧ Binds K fd ps [] ∧ ps.length = n ∧ FnOk P w K mg base (L2.CX P w) k f fd ps (spG K EX n G)
/-- what a call wishes, out of its outcome -/
theorem call_sp {n : Nat} {G : List Sl → Rs PyData} {ags : List Ag} {vs : List V} {η1 : En} {H1 : Hp} {μ1 : Mu} {Q : VK} (sr1 : SR X.K So Bs τ μ1 σ H1 η1) (hv : Paired (AgR X.K (vis So μ1 η1 H1) σ) vs ags)
    (h1 : Post X.K So Bs τ σ EX W (callO n G ags η1) (fun d η' μ' H' => ∀ v, Dq X.K (vis So μ' η' H') v d → Q v H')) : spG X.K EX n G vs H1 Q (fun cls d H' => W cls d σ H') := by
  unfold callO at h1
  split at h1
  · next hap0 =>
    obtain ⟨hap, hn⟩ := hap0
    split at h1
    · exact h1.elim
    · next as hm2 =>
      obtain ⟨r, ht, hal⟩ := call_in sr1 hv hap hm2
      have lv : vs.length = n := (Paired.length hv).trans hn
      have pin : ∀ {es2 η2 : En} {μe : Mu} {H2 : Hp}, putB 0 ags es2 η1 = some η2 → SR X.K (So2 So ags μ1 η1) (Bs2 ags μ1 η1 H1) (tau2 ags μ1 η1) μe (vs.map some) H2 es2 → ∀ (j i : Nat) (s s' : Sl) (n : Nat), ags[j]? = some (.o i) → η1[i]? = some (some s) → es2[j]? = some (some s') → n < s.size → μe j n = μ1 i n := fun {es2 η2 μe H2} hb r2 j i s s' n h1 h2 h3 h4 => by
        obtain ⟨_, _, _, po, _⟩ := put_get hb hap
        obtain ⟨s1, s1', e1, e2, e3, e4, _, e6⟩ := po j i h1
        rw [h2] at e1
        cases e1
        rw [h3] at e4
        cases e4
        obtain ⟨v, _, hs⟩ := r2.sl j s' h3
        refine (((hs.ref (by rw [own_kind (fits_iff e3).1]; exact e2)).2.2 (by omega)) n _ ?_).2
        rw [e6]
        unfold tau2
        simp only [Nat.zero_add, Nat.add_sub_cancel, h1, h2, if_pos h4]
      refine ⟨_, _, _, _, as, lv, by rw [hal]; exact hn, r, ht, ?_⟩
      cases hG : G as with
      | no => rw [hG] at h1; exact h1
      | ok d es2 =>
        rw [hG] at h1
        intro μe v H2 r2 hd
        simp only at h1
        split at h1
        · next η2 hb2 =>
          obtain ⟨k1, k2⟩ := call_out sr1 hv hap r2 hb2 (pin hb2 r2)
          exact h1 H2 k1 v (Dq.mono k2 _ _ hd)
        · exact h1.elim
      | ex m xs es2 =>
        rw [hG] at h1
        intro μe H2 cls dd r2 hx
        simp only at h1
        split at h1
        · next η2 hb2 => exact h1 H2 cls dd (call_out sr1 hv hap r2 hb2 (pin hb2 r2)).1 (EX.mono (call_out sr1 hv hap r2 hb2 (pin hb2 r2)).2 hx)
        · exact h1.elim
  · exact h1.elim
/-- f(e, ..) -/
theorem de_call {k n : Nat} {x : Str} {p : Pos} {G : List Sl → Rs PyData} (F : Df X.prog X.w X.K X.mg X.base EX k x n G) (hr : Room k X.A) (hg : Gl X x) (tk : Takes X W) (ha : DAs X EX W (e :: es) gs) (hdb : (x == ("__debug__" : Str)) = false := by decide) (he : starEach (e :: es) X.env = (false, eval e X.env) :: starEach es X.env := by rfl) (hpl : (backTo pos (starEach es X.env)).any (·.1) = false := by rfl) :
    DE X EX W (.Call (.Name x p) (e :: es) [] pos) (eCall n G gs) := by
  intro So Bs τ μ σ H η Q sr h
  obtain ⟨f, fd, ps, hm, hk, hb, hpn, hF⟩ := F.ex
  refine ⟨_, pe_callS hF hr hg hm hk hb (fun σ => passAt tk σ) wa hdb he hpl, ?_⟩
  refine ha.seq sr h fun {μ1} ags η1 H1 vs sr1 s1 hv h1 => ?_
  exact call_sp sr1 hv h1
end
end DA

/-! min of a list of any alike data -/
namespace XR
open PySem PySem.Spec PyProof.Rows L2
/-- min(xs), xs a list of things told by R of the bs, each read as enc says: the first of the least -/
def rMinR (K : PySem.W.Frag) : List V → Hp → VK → Prop := fun vs H Q => ∃ (a : Addr) (xs : List V) (β : Type) (b0 : β) (bs : List β) (enc : β → PyData) (R : V → β → Prop), vs = [.ref a] ∧ SqL K H a xs ∧ Paired R xs (b0 :: bs) ∧ (∀ x b, R x b → Dp K H x (enc b)) ∧
  PySem.W.AlikeAll ((b0 :: bs).map enc) ∧ PyData.depthAll ((b0 :: bs).map enc) ≤ 64 ∧ ∀ x b, R x b → b ∈ b0 :: bs → enc b = PySem.W.minD (enc b0) (bs.map enc) → Q x H
theorem paired_data {K : PySem.W.Frag} {H : Hp} {β : Type} {R : V → β → Prop} {enc : β → PyData} (hd : ∀ x b, R x b → Dp K H x (enc b)) : ∀ {xs : List V} {bs : List β}, Paired R xs bs → DpAll K H xs (bs.map enc)
  | [], [], .nil => .nil
  | _ :: _, _ :: _, .cons h t => .cons (hd _ _ h) (paired_data hd t)
theorem paired_nth {α β : Type} {R : α → β → Prop} : ∀ {xs : List α} {ys : List β} {i : Nat} {x : α}, Paired R xs ys → xs[i]? = some x → ∃ y, ys[i]? = some y ∧ R x y
  | _ :: _, _ :: _, 0, _, .cons h _, e => ⟨_, rfl, by cases e; exact h⟩
  | _ :: _, _ :: _, i + 1, _, .cons _ r, e => paired_nth (i := i) r e
theorem paired_mth {α β : Type} {R : α → β → Prop} {xs : List α} {ys : List β} (p : Paired R xs ys) : ∀ {i : Nat} {y : β}, ys[i]? = some y → ∃ x, xs[i]? = some x ∧ R x y := by
  induction p with
  | nil => intro i y e; cases i <;> cases e
  | cons h t ih =>
    intro i y e
    cases i with
    | zero => cases e; exact ⟨_, rfl, h⟩
    | succ i => exact ih (i := i) e
theorem cr_minR {X : Cx} (hc : X.calm = true) (hu : X.A.units + 100 < cLine) : CallR X (.builtin "min") (rMinR X.K) := by
  intro pins s σ H vs us Q I r h
  obtain ⟨a, xs, β, b0, bs, enc, R, rfl, hs, pr, hd, hal, hdep, q⟩ := h
  obtain ⟨its, rv, hl, hz⟩ := I.list hs
  rw [Vals.ref1 r]
  obtain ⟨as, hr⟩ := Dp.readsAll I _ _ _ (paired_data hd pr) rv
  refine PySem.W.min_list_data (I.ok.hd hc) hl.isList (by simpa using hr) hal (by show X.A.units + 1 + PyData.depthAll ((b0 :: bs).map enc) < cLine; omega) fun i v h' tk cs hv rd keep => ?_
  have hv' : its[i]? = some v := by simpa using hv
  obtain ⟨x, hx, rx⟩ := paired_mth rv hv'
  obtain ⟨b, hb, rb⟩ := paired_nth pr hx
  obtain ⟨ds, r1⟩ := Dp.reads I (enc b) x v (hd _ _ rb) rx
  have e1 : enc b = PySem.W.minD (enc b0) (bs.map enc) := (PySem.Reads.unique (Reads.keeps keep r1) _ _ rd).1
  exact ⟨x, H, I.kept keep, rx, q x b rb (List.mem_of_getElem? hb) e1⟩
end XR

/-! min of a tuple of whole numbers -/
namespace XR
open PySem PySem.Spec PyProof.Rows L2
def rMinT (K : PySem.W.Frag) : List V → Hp → VK → Prop := fun vs H Q => ∃ (a : Addr) (n : Int) (ns : List Int), vs = [.ref a] ∧ SqT K H a ((n :: ns).map V.int) ∧ Q (.int (ns.foldl min n)) H
theorem ints_dp {K : PySem.W.Frag} {H : Hp} : ∀ ns : List Int, DpAll K H (ns.map V.int) (ns.map PyData.int)
  | [] => .nil
  | _ :: r => .cons (.int _) (ints_dp r)
theorem ints_alike (ns : List Int) : PySem.W.AlikeAll (ns.map PyData.int) := by
  refine ⟨fun x hx y hy => ?_, fun x hx => ?_⟩
  · obtain ⟨i, _, rfl⟩ := List.mem_map.mp hx
    obtain ⟨j, _, rfl⟩ := List.mem_map.mp hy
    rfl
  · obtain ⟨i, _, rfl⟩ := List.mem_map.mp hx
    exact nofun
theorem ints_depth : ∀ ns : List Int, PyData.depthAll (ns.map PyData.int) = 0
  | [] => rfl
  | _ :: r => by
    show max 0 (PyData.depthAll _) = 0
    rw [ints_depth r]
    rfl
theorem cr_minT {X : Cx} (hc : X.calm = true) (hu : X.A.units + 100 < cLine) : CallR X (.builtin "min") (rMinT X.K) := by
  intro pins s σ H vs us Q I r h
  obtain ⟨a, n, ns, rfl, hs, q⟩ := h
  obtain ⟨its, rv, hl, hz⟩ := I.tuple hs
  rw [Vals.ref1 r]
  obtain ⟨as, hr⟩ := Dp.readsAll I _ _ _ (ints_dp (n :: ns)) rv
  refine PySem.W.min_tuple_data (I.ok.hd hc) hl (by simpa using hr) (ints_alike (n :: ns)) (by have := ints_depth (n :: ns); rw [List.map_cons] at this; rw [this]; omega) fun i v h' tk cs hv rd keep => ?_
  have hv' : its[i]? = some v := by simpa using hv
  obtain ⟨x, hx, rx⟩ := paired_mth rv hv'
  rw [List.getElem?_map] at hx
  cases hj : (n :: ns)[i]? with
  | none => rw [hj] at hx; cases hx
  | some j =>
    rw [hj] at hx
    cases hx
    obtain ⟨t, rfl⟩ := rx
    obtain ⟨ds, r1⟩ := Dp.reads I (.int j) (.int j) (.int j t) (.int j) ⟨t, rfl⟩
    have e1 : PyData.int j = PySem.W.minD (.int n) (ns.map .int) := (PySem.Reads.unique (Reads.keeps keep r1) _ _ rd).1
    rw [PySem.W.minD_ints] at e1
    cases e1
    exact ⟨.int _, H, I.kept keep, ⟨t, rfl⟩, q⟩
end XR

/-! operations over data -/
namespace DA
open PySem PySem.Spec PyProof.Rows L2
section
variable {X : Cx} {EX : Exs} {W : WX}
variable {So : Addr → Prop} {Bs : Hp} {τ : Pin} {μ : Mu} {σ : Sg} {H : Hp} {η : En}
theorem SR.newD {K : PySem.W.Frag} (sr : SR K So Bs τ μ σ H η) {p : Addr} (hp : H p = none) {vs : List V} {ds : List PyData} (h : DqAll K (vis So μ η H) vs ds) :
    SR K So Bs τ μ σ (upd H p (.lst vs)) η ∧ Dq K (vis So μ η (upd H p (.lst vs))) (.ref p) (.list ds) :=
  ⟨sr.new hp, .lst (sr.vis_at hp) (DqAll.mono (vis_new hp) _ _ h)⟩
theorem SR.newT {K : PySem.W.Frag} (sr : SR K So Bs τ μ σ H η) {p : Addr} (hp : H p = none) {vs : List V} {ds : List PyData} (h : DqAll K (vis So μ η H) vs ds) :
    SR K So Bs τ μ σ (upd H p (.tup vs)) η ∧ Dq K (vis So μ η (upd H p (.tup vs))) (.ref p) (.tuple ds) :=
  ⟨sr.new hp, .tup (SqT.of (sr.vis_at hp)) (DqAll.mono (vis_new hp) _ _ h)⟩
theorem DqAll.nil_iff {K : PySem.W.Frag} {H : Hp} {vs : List V} {ds : List PyData} (h : DqAll K H vs ds) : vs = [] ↔ ds = [] := by
  cases h with
  | nil => exact ⟨fun _ => rfl, fun _ => rfl⟩
  | cons _ _ => exact ⟨fun z => (by cases z), fun z => (by cases z)⟩
/-! ### + - * // % ** -/
def oAdd (x y : PyData) : Option PyData := match x, y with
  | .int i, .int j => some (.int (i + j))
  | .str a, .str b => if a.length + b.length ≤ sizeLine then some (.str (a ++ b)) else none
  | .list a, .list b => if a.length + b.length ≤ sizeLine then some (.list (a ++ b)) else none
  | .tuple a, .tuple b => if a.length + b.length ≤ sizeLine then some (.tuple (a ++ b)) else none
  | _, _ => none
theorem do_add : DO X (binaryOp .Add) oAdd := by
  intro So Bs τ μ σ η H vx vy x y z Q ez sr hx hy q
  unfold oAdd at ez
  split at ez
  · cases ez
    rw [dq_int hx, dq_int hy]
    exact ⟨_, op_add, _, _, rfl, rfl, q _ H sr (.int _)⟩
  · split at ez
    · next hz =>
      cases ez
      rw [dq_str hx, dq_str hy]
      exact ⟨_, op_add_str, _, _, rfl, rfl, hz, q _ H sr (.str _)⟩
    · cases ez
  · split at ez
    · next hz =>
      cases ez
      obtain ⟨l, vs, rfl, h1, h2⟩ := dq_lst hx
      obtain ⟨m, ws, rfl, h3, h4⟩ := dq_lst hy
      refine ⟨_, op_cat, l, m, vs, ws, rfl, rfl, same_vis _ _ h1, same_vis _ _ h3, by rw [h2.len, h4.len]; exact hz, fun p hp => ?_⟩
      obtain ⟨k1, k2⟩ := sr.newD hp (h2.append h4)
      exact q _ _ k1 k2
    · cases ez
  · split at ez
    · next hz =>
      cases ez
      obtain ⟨l, vs, rfl, h1, h2⟩ := dq_tup hx
      obtain ⟨m, ws, rfl, h3, h4⟩ := dq_tup hy
      refine ⟨_, op_catA, l, m, vs, ws, rfl, rfl, same_sqt same_vis h1, same_sqt same_vis h3, by rw [h2.len, h4.len]; exact hz, fun e => ?_, fun e1 e2 => ?_, fun e1 e2 p hp => ?_⟩
      · refine q _ H sr ?_
        rw [h2.nil_iff.mp e]
        exact hy
      · refine q _ H sr ?_
        rw [h4.nil_iff.mp e2, List.append_nil]
        exact hx
      · obtain ⟨k1, k2⟩ := sr.newT hp (h2.append h4)
        exact q _ _ k1 k2
    · cases ez
  · cases ez
def oI (f : Int → Int → Int) (c : Int → Int → Bool) (x y : PyData) : Option PyData := match x, y with
  | .int i, .int j => if c i j = true then some (.int (f i j)) else none
  | _, _ => none
theorem do_I {f : Value → Value → Sem Value} {C : Int → Int → Prop} {g : Int → Int → Int} {c : Int → Int → Bool} (ho : OpR X f (rI C fun i j => .int (g i j))) (hc : ∀ i j, c i j = true → C i j) : DO X f (oI g c) := by
  intro So Bs τ μ σ η H vx vy x y z Q ez sr hx hy q
  unfold oI at ez
  split at ez
  · split at ez
    · next h =>
      cases ez
      rw [dq_int hx, dq_int hy]
      exact ⟨_, ho, _, _, rfl, rfl, hc _ _ h, q _ H sr (.int _)⟩
    · cases ez
  · cases ez
def oI0 (f : Int → Int → Int) (x y : PyData) : Option PyData := match x, y with
  | .int i, .int j => some (.int (f i j))
  | _, _ => none
theorem do_I0 {f : Value → Value → Sem Value} {g : Int → Int → Int} (ho : OpR X f (rI0 fun i j => .int (g i j))) : DO X f (oI0 g) := by
  intro So Bs τ μ σ η H vx vy x y z Q ez sr hx hy q
  unfold oI0 at ez
  split at ez
  · cases ez
    rw [dq_int hx, dq_int hy]
    exact ⟨_, ho, _, _, rfl, rfl, q _ H sr (.int _)⟩
  · cases ez
abbrev oSub := oI0 fun i j => i - j
theorem do_sub : DO X (binaryOp .Sub) oSub := do_I0 op_sub
/-- numbers below 2 ^ 4000 -/
def cMul (i j : Int) : Bool := decide (i.natAbs < 2 ^ 4000) && decide (j.natAbs < 2 ^ 4000)
abbrev oMul := oI (fun i j => i * j) cMul
theorem do_mul : DO X (binaryOp .Mult) oMul := do_I op_mulW fun i j h => by
  obtain ⟨h1, h2⟩ := Bool.and_eq_true_iff.mp h
  exact wide_mul (of_decide_eq_true h1) (of_decide_eq_true h2) (by omega) (by omega) (by omega)
def cMod (_ j : Int) : Bool := decide (0 < j)
abbrev oMod := oI (fun i j => i % j) cMod
theorem do_mod : DO X (binaryOp .Mod) oMod := do_I op_mod fun _ _ h => of_decide_eq_true h
def cDiv (_ j : Int) : Bool := decide (0 < j) && decide (j.natAbs < 2 ^ 4000)
abbrev oDiv := oI (fun i j => i / j) cDiv
theorem do_div : DO X (binaryOp .FloorDiv) oDiv := do_I op_fdivW fun i j h => by
  obtain ⟨h1, h2⟩ := Bool.and_eq_true_iff.mp h
  exact wide_div (of_decide_eq_true h1) (of_decide_eq_true h2) (by omega) (by omega)
def cPow (i j : Int) : Bool := decide (0 ≤ j) && decide (j ≤ 1000000) && decide (i.natAbs < 2 ^ 64)
abbrev oPow := oI (fun i j => i ^ j.toNat) cPow
theorem do_pow : DO X (binaryOp .Pow) oPow := do_I op_pow fun i j h => by
  simp only [cPow, Bool.and_eq_true, decide_eq_true_eq] at h
  exact ⟨h.1.1, h.1.2, h.2⟩
def uNeg (x : PyData) : Option PyData := match x with
  | .int i => some (.int (-i))
  | _ => none
theorem du_neg : DU X (unaryOp .USub) uNeg := by
  intro So Bs τ μ σ η H vx x z Q ez sr hx q
  unfold uNeg at ez
  split at ez
  · cases ez
    rw [dq_int hx]
    exact ⟨_, un_neg, _, rfl, q _ H sr (.int _)⟩
  · cases ez
/-! ### comparisons -/
def scalD : PyData → Bool
  | .none => true
  | .bool _ => true
  | .int _ => true
  | .str _ => true
  | _ => false
/-- scalars of one kind -/
def kin : PyData → PyData → Bool
  | .none, .none => true
  | .bool _, .bool _ => true
  | .int _, .int _ => true
  | .str _, .str _ => true
  | _, _ => false
def eqOk (x y : PyData) : Bool := kin x y || (SeqAt.shaped x && SeqAt.shaped y)
def oEq (x y : PyData) : Option PyData := if eqOk x y = true then some (.bool (PyData.eqv x y)) else none
def oNe (x y : PyData) : Option PyData := if eqOk x y = true then some (.bool (!PyData.eqv x y)) else none
theorem kin_eq {K : PySem.W.Frag} {H : Hp} {vx vy : V} {x y : PyData} (h : kin x y = true) (hx : Dq K H vx x) (hy : Dq K H vy y) : scal vx vy = true ∧ decide (vx = vy) = PyData.eqv x y := by
  unfold kin at h
  split at h
  · rw [dq_non hx, dq_non hy]
    exact ⟨rfl, rfl⟩
  · rw [dq_bl hx, dq_bl hy, dec_bl]
    exact ⟨rfl, by rw [PyData.eqv]⟩
  · rw [dq_int hx, dq_int hy, dec_int]
    exact ⟨rfl, by rw [PyData.eqv]⟩
  · rw [dq_str hx, dq_str hy, dec_str]
    exact ⟨rfl, by rw [PyData.eqv]⟩
  · cases h
theorem do_eq (hu : X.A.units + 64 < cLine) : DO X (compareOp .Eq) oEq := by
  intro So Bs τ μ σ η H vx vy x y z Q ez sr hx hy q
  unfold oEq at ez
  split at ez
  · next h =>
    cases ez
    rcases Bool.or_eq_true_iff.mp h with h | h
    · obtain ⟨h1, h2⟩ := kin_eq h hx hy
      exact ⟨_, op_eq, h1, by rw [h2]; exact q _ H sr (.bl _)⟩
    · obtain ⟨h1, h2⟩ := Bool.and_eq_true_iff.mp h
      exact ⟨_, op_eqD hu, x, y, Dq.dp _ _ (plain_of (SeqAt.canLay_of_shaped h1)) (Dq.mono same_vis _ _ hx), Dq.dp _ _ (plain_of (SeqAt.canLay_of_shaped h2)) (Dq.mono same_vis _ _ hy), h1, h2, q _ H sr (.bl _)⟩
  · cases ez
theorem do_ne (hu : X.A.units + 64 < cLine) : DO X (compareOp .NotEq) oNe := by
  intro So Bs τ μ σ η H vx vy x y z Q ez sr hx hy q
  unfold oNe at ez
  split at ez
  · next h =>
    cases ez
    rcases Bool.or_eq_true_iff.mp h with h | h
    · obtain ⟨h1, h2⟩ := kin_eq h hx hy
      exact ⟨_, op_ne, h1, by rw [h2]; exact q _ H sr (.bl _)⟩
    · obtain ⟨h1, h2⟩ := Bool.and_eq_true_iff.mp h
      exact ⟨_, op_neD hu, x, y, Dq.dp _ _ (plain_of (SeqAt.canLay_of_shaped h1)) (Dq.mono same_vis _ _ hx), Dq.dp _ _ (plain_of (SeqAt.canLay_of_shaped h2)) (Dq.mono same_vis _ _ hy), h1, h2, q _ H sr (.bl _)⟩
  · cases ez
def oCmp (f : Int → Int → Bool) (g : List Nat → List Nat → Bool) (x y : PyData) : Option PyData := match x, y with
  | .int i, .int j => some (.bool (f i j))
  | .str a, .str b => some (.bool (g a.cps.toList b.cps.toList))
  | _, _ => none
abbrev oLt := oCmp (fun i j => decide (i < j)) (fun a b => decide (a < b))
abbrev oLe := oCmp (fun i j => decide (i ≤ j)) (fun a b => !decide (b < a))
abbrev oGt := oCmp (fun i j => decide (j < i)) (fun a b => decide (b < a))
abbrev oGe := oCmp (fun i j => decide (j ≤ i)) (fun a b => !decide (a < b))
theorem do_cmp {f : Value → Value → Sem Value} {p : Int → Int → Bool} {g : List Nat → List Nat → Bool} (h1 : OpR X f (rI0 fun i j => .bl (p i j))) (h2 : OpR X f (fun x y H Q => ∃ i j, x = .str i ∧ y = .str j ∧ Q (.bl (g i.cps.toList j.cps.toList)) H)) : DO X f (oCmp p g) := by
  intro So Bs τ μ σ η H vx vy x y z Q ez sr hx hy q
  unfold oCmp at ez
  split at ez
  · cases ez
    rw [dq_int hx, dq_int hy]
    exact ⟨_, h1, _, _, rfl, rfl, q _ H sr (.bl _)⟩
  · cases ez
    rw [dq_str hx, dq_str hy]
    exact ⟨_, h2, _, _, rfl, rfl, q _ H sr (.bl _)⟩
  · cases ez
theorem do_lt : DO X (compareOp .Lt) oLt := do_cmp op_lt op_lt_str
theorem do_le : DO X (compareOp .LtE) oLe := do_cmp op_le op_le_str
theorem do_gt : DO X (compareOp .Gt) oGt := do_cmp op_gt op_gt_str
theorem do_ge : DO X (compareOp .GtE) oGe := do_cmp op_ge op_ge_str
def isNo : PyData → Bool
  | .none => true
  | _ => false
theorem isNo_iff {K : PySem.W.Frag} {H : Hp} {v : V} {d : PyData} (h : Dq K H v d) : decide (v = .non) = isNo d := by
  cases h <;> rfl
def oIsN (x y : PyData) : Option PyData := match y with
  | .none => some (.bool (isNo x))
  | _ => none
def oNotN (x y : PyData) : Option PyData := match y with
  | .none => some (.bool (!isNo x))
  | _ => none
theorem do_isN : DO X (compareOp .Is) oIsN := by
  intro So Bs τ μ σ η H vx vy x y z Q ez sr hx hy q
  unfold oIsN at ez
  split at ez
  · cases ez
    exact ⟨_, op_isN, dq_non hy, by rw [isNo_iff hx]; exact q _ H sr (.bl _)⟩
  · cases ez
theorem do_notN : DO X (compareOp .IsNot) oNotN := by
  intro So Bs τ μ σ η H vx vy x y z Q ez sr hx hy q
  unfold oNotN at ez
  split at ez
  · cases ez
    exact ⟨_, op_notN, dq_non hy, by rw [isNo_iff hx]; exact q _ H sr (.bl _)⟩
  · cases ez
def inOk (x : PyData) (ys : List PyData) : Bool := SeqAt.shaped x && PyData.canLayAll0 ys
theorem op_inT (hu : X.A.units + 65 < cLine) : OpR X (compareOp .In) (fun x y H Q => ∃ d ds, Dp X.K H x d ∧ Dp X.K H y (.tuple ds) ∧ inOk d ds = true ∧ Q (.bl (ds.any fun z => PyData.eqv z d)) H) := by
  intro pins s σ H x y v u Q I rx ry h
  obtain ⟨d, ds, hd, he, hok, q⟩ := h
  obtain ⟨sd, se⟩ := Bool.and_eq_true_iff.mp hok
  obtain ⟨as, r1⟩ := Dp.reads I d x v hd rx
  obtain ⟨bs, r2⟩ := Dp.reads I (.tuple ds) y u he ry
  exact SeqAt.in_tuple_reads r2 r1 se (SeqAt.canLay_of_shaped sd) (room_in_shaped sd hu) ⟨.bl _, H, I, rfl, q⟩
theorem op_inL (hu : X.A.units + 65 < cLine) : OpR X (compareOp .In) (fun x y H Q => ∃ d ds, Dp X.K H x d ∧ Dp X.K H y (.list ds) ∧ inOk d ds = true ∧ Q (.bl (ds.any fun z => PyData.eqv z d)) H) := by
  intro pins s σ H x y v u Q I rx ry h
  obtain ⟨d, ds, hd, he, hok, q⟩ := h
  obtain ⟨sd, se⟩ := Bool.and_eq_true_iff.mp hok
  obtain ⟨as, r1⟩ := Dp.reads I d x v hd rx
  obtain ⟨bs, r2⟩ := Dp.reads I (.list ds) y u he ry
  exact SeqAt.in_list_reads r2 r1 se (SeqAt.canLay_of_shaped sd) (room_in_shaped sd hu) ⟨.bl _, H, I, rfl, q⟩
theorem op_ninT (hu : X.A.units + 65 < cLine) : OpR X (compareOp .NotIn) (fun x y H Q => ∃ d ds, Dp X.K H x d ∧ Dp X.K H y (.tuple ds) ∧ inOk d ds = true ∧ Q (.bl (!ds.any fun z => PyData.eqv z d)) H) := by
  intro pins s σ H x y v u Q I rx ry h
  obtain ⟨d, ds, hd, he, hok, q⟩ := h
  obtain ⟨sd, se⟩ := Bool.and_eq_true_iff.mp hok
  obtain ⟨as, r1⟩ := Dp.reads I d x v hd rx
  obtain ⟨bs, r2⟩ := Dp.reads I (.tuple ds) y u he ry
  exact SeqAt.notIn_tuple_reads r2 r1 se (SeqAt.canLay_of_shaped sd) (room_in_shaped sd hu) ⟨.bl _, H, I, rfl, q⟩
theorem op_ninL (hu : X.A.units + 65 < cLine) : OpR X (compareOp .NotIn) (fun x y H Q => ∃ d ds, Dp X.K H x d ∧ Dp X.K H y (.list ds) ∧ inOk d ds = true ∧ Q (.bl (!ds.any fun z => PyData.eqv z d)) H) := by
  intro pins s σ H x y v u Q I rx ry h
  obtain ⟨d, ds, hd, he, hok, q⟩ := h
  obtain ⟨sd, se⟩ := Bool.and_eq_true_iff.mp hok
  obtain ⟨as, r1⟩ := Dp.reads I d x v hd rx
  obtain ⟨bs, r2⟩ := Dp.reads I (.list ds) y u he ry
  exact SeqAt.notIn_list_reads r2 r1 se (SeqAt.canLay_of_shaped sd) (room_in_shaped sd hu) ⟨.bl _, H, I, rfl, q⟩
def isIn (x y : PyData) : Option Bool := match x, y with
  | .str a, .str b => some (!(Builtin.Str.occurrences b a 0 b.length 1).isEmpty)
  | x, .list ys => if inOk x ys = true then some (ys.any fun z => PyData.eqv z x) else none
  | x, .tuple ys => if inOk x ys = true then some (ys.any fun z => PyData.eqv z x) else none
  | _, _ => none
def oIn (x y : PyData) : Option PyData := (isIn x y).map PyData.bool
def oNin (x y : PyData) : Option PyData := (isIn x y).map fun b => PyData.bool (!b)
theorem plain_list {ys : List PyData} (h : PyData.canLayAll0 ys = true) : plainD (.list ys) = true := plain_ofs h
theorem plain_tuple {ys : List PyData} (h : PyData.canLayAll0 ys = true) : plainD (.tuple ys) = true := plain_ofs h
theorem do_in (hu : X.A.units + 65 < cLine) : DO X (compareOp .In) oIn := by
  intro So Bs τ μ σ η H vx vy x y z Q ez sr hx hy q
  unfold oIn isIn at ez
  split at ez
  · cases ez
    rw [dq_str hx, dq_str hy]
    exact ⟨_, op_in_str, _, _, rfl, rfl, q _ H sr (.bl _)⟩
  · split at ez
    · next h =>
      cases ez
      obtain ⟨h1, h2⟩ := Bool.and_eq_true_iff.mp h
      exact ⟨_, op_inL hu, _, _, Dq.dp _ _ (plain_of (SeqAt.canLay_of_shaped h1)) (Dq.mono same_vis _ _ hx), Dq.dp _ _ (plain_list h2) (Dq.mono same_vis _ _ hy), h, q _ H sr (.bl _)⟩
    · cases ez
  · split at ez
    · next h =>
      cases ez
      obtain ⟨h1, h2⟩ := Bool.and_eq_true_iff.mp h
      exact ⟨_, op_inT hu, _, _, Dq.dp _ _ (plain_of (SeqAt.canLay_of_shaped h1)) (Dq.mono same_vis _ _ hx), Dq.dp _ _ (plain_tuple h2) (Dq.mono same_vis _ _ hy), h, q _ H sr (.bl _)⟩
    · cases ez
  · cases ez
theorem do_nin (hu : X.A.units + 65 < cLine) : DO X (compareOp .NotIn) oNin := by
  intro So Bs τ μ σ η H vx vy x y z Q ez sr hx hy q
  unfold oNin isIn at ez
  split at ez
  · cases ez
    rw [dq_str hx, dq_str hy]
    exact ⟨_, op_notIn_str, _, _, rfl, rfl, q _ H sr (.bl _)⟩
  · split at ez
    · next h =>
      cases ez
      obtain ⟨h1, h2⟩ := Bool.and_eq_true_iff.mp h
      exact ⟨_, op_ninL hu, _, _, Dq.dp _ _ (plain_of (SeqAt.canLay_of_shaped h1)) (Dq.mono same_vis _ _ hx), Dq.dp _ _ (plain_list h2) (Dq.mono same_vis _ _ hy), h, q _ H sr (.bl _)⟩
    · cases ez
  · split at ez
    · next h =>
      cases ez
      obtain ⟨h1, h2⟩ := Bool.and_eq_true_iff.mp h
      exact ⟨_, op_ninT hu, _, _, Dq.dp _ _ (plain_of (SeqAt.canLay_of_shaped h1)) (Dq.mono same_vis _ _ hx), Dq.dp _ _ (plain_tuple h2) (Dq.mono same_vis _ _ hy), h, q _ H sr (.bl _)⟩
    · cases ez
  · cases ez
/-! ### subscripts, slices -/
def oIx (x y : PyData) : Option PyData := match x, y with
  | .list xs, .int i => atI xs i
  | .tuple xs, .int i => atI xs i
  | .str z, .int i => if z.length ≤ sizeLine then (atI z.cps.toList i).map fun c => .str ⟨#[c]⟩ else none
  | .dict [(.none, .list xs)], .int i => atI xs i
  | _, _ => none
theorem atI_all {K : PySem.W.Frag} {H : Hp} {vs : List V} {ds : List PyData} {i : Int} {d : PyData} (h : DqAll K H vs ds) (e : atI ds i = some d) : ∃ v, atI vs i = some v ∧ Dq K H v d := by
  unfold atI at e ⊢
  rw [h.len]
  cases q : ixN ds.length i with
  | none => rw [q] at e; cases e
  | some j =>
    rw [q] at e
    exact h.get e
/-- the script: a list that nobody changes -/
theorem dq_scr {K : PySem.W.Frag} {H : Hp} {v : V} {ds : List PyData} (h : Dq K H v (.dict [(.none, .list ds)])) : ∃ a vs, v = .ref a ∧ SqL K H a vs ∧ DqAll K H vs ds := by
  cases h with
  | dic h1 h2 =>
    exfalso
    generalize e : [((PyData.none : PyData), PyData.list ds)] = kvs at h2
    cases h2 with
    | nil => cases e
    | cons _ _ =>
      have := (Prod.mk.inj (List.cons.inj e).1).1
      rename_i k _ _ _ _ _ _
      cases k <;> cases this
  | scr h1 h2 => exact ⟨_, _, rfl, h1, h2⟩
theorem dx_ix : DX X oIx := by
  intro So Bs τ μ σ η H vx vy x y z Q ez sr hx hy q
  unfold oIx at ez
  split at ez
  · obtain ⟨l, vs, rfl, h1, h2⟩ := dq_lst hx
    obtain ⟨v, e1, hv⟩ := atI_all h2 ez
    rw [dq_int hy]
    exact ⟨_, ix_list, _, _, _, v, rfl, rfl, SqL.of (same_vis _ _ h1), e1, q _ H sr hv⟩
  · obtain ⟨l, vs, rfl, h1, h2⟩ := dq_tup hx
    obtain ⟨v, e1, hv⟩ := atI_all h2 ez
    rw [dq_int hy]
    exact ⟨_, ix_tup, _, _, _, v, rfl, rfl, same_sqt same_vis h1, e1, q _ H sr hv⟩
  · split at ez
    · next hz =>
      rw [dq_str hx, dq_int hy]
      cases e1 : atI (Str.cps _).toList _ with
      | none => rw [e1] at ez; cases ez
      | some c =>
        rw [e1] at ez
        cases ez
        exact ⟨_, ix_str, _, _, c, rfl, rfl, hz, e1, q _ H sr (.str _)⟩
    · cases ez
  · obtain ⟨l, vs, rfl, h1, h2⟩ := dq_scr hx
    obtain ⟨v, e1, hv⟩ := atI_all h2 ez
    rw [dq_int hy]
    exact ⟨_, ix_list, _, _, _, v, rfl, rfl, same_sql same_vis h1, e1, q _ H sr hv⟩
  · cases ez
/-- a part of a slice -/
def DP (X : Cx) (EX : Exs) (W : WX) (e : Option Expr) (g : En → Rs (Option Int)) : Prop := ∀ So Bs τ {μ : Mu} σ H η Q, SR X.K So Bs τ μ σ H η →
  Post X.K So Bs τ σ EX W (g η) (fun o η' μ' H' => Q o H') → ∃ t, PO X e t ∧ t σ H Q
def Wp (X : Cx) (e : Option Expr) (σ : Sg) (H : Hp) (Q : Option Int → Hp → Prop) : Prop := ∃ t, PO X e t ∧ t σ H Q
theorem wp' {e : Option Expr} : PO X e (Wp X e) := ⟨fun pins s σ H Q I ⟨t, h, q⟩ => h.run pins s σ H Q I q⟩
def pNo (η : En) : Rs (Option Int) := .ok none η
def asI : PyData → Option Int
  | .int i => some i
  | _ => none
def pSome (ga : En → Rs PyData) (η : En) : Rs (Option Int) := (ga η).bind fun x η1 => match x with
  | .int i => .ok (some i) η1
  | _ => .no
theorem dp_no : DP X EX W none pNo := by
  intro So Bs τ μ σ H η Q sr h
  exact ⟨_, po_none, h H sr⟩
theorem dp_some {e : Expr} {ga : En → Rs PyData} (ha : DE X EX W e ga) : DP X EX W (some e) (pSome ga) := by
  intro So Bs τ μ σ H η Q sr h
  refine ⟨_, po_some we, ?_⟩
  refine ha.seq sr h fun x η1 H1 v sr1 s1 hx h1 => ?_
  split at h1
  · next i => exact ⟨i, dq_int hx, h1 H1 sr1⟩
  · exact h1.elim
def cutD (xs : List PyData) (lo hi : Option Int) : List PyData := (xs.drop (HT.sIx xs.length 0 lo)).take (HT.sIx xs.length xs.length hi - HT.sIx xs.length 0 lo)
def oSl (x : PyData) (lo hi : Option Int) : Option PyData := match x with
  | .list xs => some (.list (cutD xs lo hi))
  | .tuple xs => some (.tuple (cutD xs lo hi))
  | .str z => if z.length ≤ sizeLine then some (.str (cutS z lo hi)) else none
  | _ => none
def eSl (ga : En → Rs PyData) (gl gh : En → Rs (Option Int)) (η : En) : Rs PyData := (ga η).bind fun x η1 => (gl η1).bind fun lo η2 => (gh η2).bind fun hi η3 => ofO (oSl x lo hi) η3
theorem DP.seq {β : Type} {e : Option Expr} {gp : En → Rs (Option Int)} {f : Option Int → En → Rs β} {P : β → En → Mu → Hp → Prop} {Q : Option Int → Hp → Prop} (ha : DP X EX W e gp) (sr : SR X.K So Bs τ μ σ H η) (h : Post X.K So Bs τ σ EX W ((gp η).bind f) P)
    (fin : ∀ {μ1 : Mu} x η1 H1, SR X.K So Bs τ μ1 σ H1 η1 → Same (vis So μ η H) (vis So μ1 η1 H1) → Post X.K So Bs τ σ EX W (f x η1) P → Q x H1) : Wp X e σ H Q := by
  refine ha So (mx μ η H) τ σ H η Q sr.max ?_
  cases hr : gp η with
  | no => rw [hr] at h; exact h
  | ok x η1 => rw [hr] at h; exact fun H1 sr1 => fin x η1 H1 (sr.back sr1) sr1.grown h
  | ex n as η1 => rw [hr] at h; exact fun H1 cls dd sr1 hx => h H1 cls dd (sr.back sr1) hx
def Wsl (X : Cx) : V → Option Int → Option Int → Hp → VK → Prop := fun x lo hi H Q => ∃ r, L2.SlR X r ∧ r x lo hi H Q
theorem wsl : L2.SlR X (Wsl X) := fun pins s σ H x v vl vu lo hi sl Q I rx hs pl pu ⟨_, h, q⟩ => h pins s σ H x v vl vu lo hi sl Q I rx hs pl pu q
theorem cut_all {K : PySem.W.Frag} {H : Hp} {vs : List V} {ds : List PyData} {lo hi : Option Int} (h : DqAll K H vs ds) : DqAll K H (cutV vs lo hi) (cutD ds lo hi) := by
  unfold cutV cutD
  rw [h.len]
  exact (h.drop _).take _
theorem de_slice {e : Expr} {lo hi : Option Expr} {p2 pos : Pos} {ga : En → Rs PyData} {gl gh : En → Rs (Option Int)} (ha : DE X EX W e ga) (hl : DP X EX W lo gl) (hh : DP X EX W hi gh) : DE X EX W (.Subscript e (.Slice lo hi none p2) pos) (eSl ga gl gh) := by
  intro So Bs τ μ σ H η Q sr h
  refine ⟨_, pe_slice wsl we wp' wp', ?_⟩
  refine ha.seq sr h fun x η1 H1 v sr1 s1 hx h1 => hl.seq sr1 h1 fun lo η2 H2 sr2 s2 h2 => hh.seq sr2 h2 fun hi η3 H3 sr3 s3 h3 => ?_
  obtain ⟨z, ez, hq⟩ := post_ofO h3
  have hx3 := Dq.mono (s2.trans s3) _ _ hx
  unfold oSl at ez
  split at ez
  · cases ez
    obtain ⟨l, vs, rfl, k1, k2⟩ := dq_lst hx3
    refine ⟨_, sl_list, l, vs, rfl, SqL.of (same_vis _ _ k1), fun p hp => ?_⟩
    obtain ⟨m1, m2⟩ := sr3.newD hp (cut_all (lo := lo) (hi := hi) k2)
    exact hq _ m1 _ m2
  · cases ez
    obtain ⟨l, vs, rfl, k1, k2⟩ := dq_tup hx3
    refine ⟨_, sl_tupA, l, vs, rfl, same_sqt same_vis k1, fun hw => ?_, fun hw p hp => ?_⟩
    · refine hq _ sr3 _ ?_
      rename_i xs
      have e : cutD xs lo hi = xs := by
        unfold cutD
        rw [k2.len] at hw
        rw [hw.1, hw.2, List.drop_zero, Nat.sub_zero, List.take_length]
      rw [e]
      exact hx3
    · obtain ⟨m1, m2⟩ := sr3.newT hp (cut_all (lo := lo) (hi := hi) k2)
      exact hq _ m1 _ m2
  · split at ez
    · next hz =>
      cases ez
      rw [dq_str hx3]
      exact ⟨_, sl_str, _, rfl, hz, hq _ sr3 _ (.str _)⟩
    · cases ez
  · cases ez
end
end DA

/-! calls of built-ins, what is walked -/
namespace DA
open PySem PySem.Spec PyProof.Rows L2 XR
open PySem.W (AllAlike Sortable dataLe alike)
section
variable {X : Cx} {EX : Exs} {W : WX} {e : Expr} {es : List Expr} {gl : En → Rs (List PyData)} {x : Str} {p pos : Pos} {id T : String} {o : List PyData → Option PyData}
variable {So : Addr → Prop} {Bs : Hp} {τ : Pin} {μ : Mu} {σ : Sg} {H : Hp} {η : En}
def eB (o : List PyData → Option PyData) (gl : En → Rs (List PyData)) (η : En) : Rs PyData := (gl η).bind fun ds η1 => ofO (o ds) η1
/-- a built-in function -/
theorem de_blt (ho : DCl X (.builtin id) o) (hg : Gl X x) (hm : X.mg x = none) (hv : bootBuiltins x = some (.builtin id)) (hl : DL X EX W (e :: es) gl) (hn : x ≠ "__name__" := by decide) (hdb : (x == ("__debug__" : Str)) = false := by decide)
    (he : starEach (e :: es) X.env = (false, eval e X.env) :: starEach es X.env := by rfl) (hpl : (backTo pos (starEach es X.env)).any (·.1) = false := by rfl) : DE X EX W (.Call (.Name x p) (e :: es) [] pos) (eB o gl) := by
  intro So Bs τ μ σ H η Q sr h
  refine ⟨_, pe_callB wc hg hm hv wa hn hdb he hpl, ?_⟩
  refine hl.seq sr h fun ds η1 H1 vs sr1 s1 hx h1 => ?_
  obtain ⟨z, ez, hq⟩ := post_ofO h1
  exact ho So Bs τ σ η1 H1 vs ds z Q ez sr1 hx fun v H' s r => hq H' s v r
/-- a built-in class -/
theorem de_bty (ho : DCl X (.type T) o) (hg : Gl X x) (hm : X.mg x = none) (hv : bootBuiltins x = some (.type T)) (hl : DL X EX W (e :: es) gl) (hn : x ≠ "__name__" := by decide) (hdb : (x == ("__debug__" : Str)) = false := by decide)
    (he : starEach (e :: es) X.env = (false, eval e X.env) :: starEach es X.env := by rfl) (hpl : (backTo pos (starEach es X.env)).any (·.1) = false := by rfl) : DE X EX W (.Call (.Name x p) (e :: es) [] pos) (eB o gl) := by
  intro So Bs τ μ σ H η Q sr h
  refine ⟨_, pe_callTy wc hg hm hv wa hn hdb he hpl, ?_⟩
  refine hl.seq sr h fun ds η1 H1 vs sr1 s1 hx h1 => ?_
  obtain ⟨z, ez, hq⟩ := post_ofO h1
  exact ho So Bs τ σ η1 H1 vs ds z Q ez sr1 hx fun v H' s r => hq H' s v r
theorem dq1 {K : PySem.W.Frag} {H : Hp} {vs : List V} {d : PyData} (h : DqAll K H vs [d]) : ∃ v, vs = [v] ∧ Dq K H v d := by
  cases h with
  | cons h t => cases t; exact ⟨_, rfl, h⟩
theorem dq2 {K : PySem.W.Frag} {H : Hp} {vs : List V} {d e : PyData} (h : DqAll K H vs [d, e]) : ∃ v w, vs = [v, w] ∧ Dq K H v d ∧ Dq K H w e := by
  cases h with
  | cons h t =>
    cases t with
    | cons h2 t => cases t; exact ⟨_, _, rfl, h, h2⟩
def oLen (ds : List PyData) : Option PyData := match ds with
  | [.str z] => if z.length ≤ sizeLine then some (.int z.length) else none
  | [.list xs] => some (.int xs.length)
  | [.tuple xs] => some (.int xs.length)
  | [.dict [(.none, .list xs)]] => some (.int xs.length)
  | _ => none
theorem dc_len : DCl X (.builtin "len") oLen := by
  intro So Bs τ μ σ η H vs ds z Q ez sr h q
  unfold oLen at ez
  split at ez
  · split at ez
    · next hz =>
      cases ez
      obtain ⟨v, rfl, hv⟩ := dq1 h
      rw [dq_str hv]
      exact ⟨_, call_len_str, _, rfl, hz, q _ H sr (.int _)⟩
    · cases ez
  · cases ez
    obtain ⟨v, rfl, hv⟩ := dq1 h
    obtain ⟨l, ws, rfl, h1, h2⟩ := dq_lst hv
    exact ⟨_, call_len_seq, l, ws, rfl, .inl (SqL.of (same_vis _ _ h1)), by rw [h2.len]; exact q _ H sr (.int _)⟩
  · cases ez
    obtain ⟨v, rfl, hv⟩ := dq1 h
    obtain ⟨l, ws, rfl, h1, h2⟩ := dq_tup hv
    exact ⟨_, call_len_seq, l, ws, rfl, .inr (same_sqt same_vis h1), by rw [h2.len]; exact q _ H sr (.int _)⟩
  · cases ez
    obtain ⟨v, rfl, hv⟩ := dq1 h
    obtain ⟨l, ws, rfl, h1, h2⟩ := dq_scr hv
    exact ⟨_, call_len_seq, l, ws, rfl, .inl (same_sql same_vis h1), by rw [h2.len]; exact q _ H sr (.int _)⟩
  · cases ez
def oTup (ds : List PyData) : Option PyData := match ds with
  | [.list xs] => some (.tuple xs)
  | [.tuple xs] => some (.tuple xs)
  | _ => none
theorem dc_tup : DCl X (.type "tuple") oTup := by
  intro So Bs τ μ σ η H vs ds z Q ez sr h q
  unfold oTup at ez
  split at ez
  · cases ez
    obtain ⟨v, rfl, hv⟩ := dq1 h
    obtain ⟨l, ws, rfl, h1, h2⟩ := dq_lst hv
    refine ⟨_, call_tuple_of, l, ws, rfl, .inl ⟨SqL.of (same_vis _ _ h1), fun m hm => ?_⟩⟩
    obtain ⟨k1, k2⟩ := sr.newT hm h2
    exact q _ _ k1 k2
  · cases ez
    obtain ⟨v, rfl, hv⟩ := dq1 h
    obtain ⟨l, ws, rfl, h1, h2⟩ := dq_tup hv
    exact ⟨_, call_tuple_of, l, ws, rfl, .inr ⟨same_sqt same_vis h1, q _ H sr hv⟩⟩
  · cases ez
def oList (ds : List PyData) : Option PyData := match ds with
  | [.list xs] => some (.list xs)
  | [.tuple xs] => some (.list xs)
  | _ => none
theorem dc_list : DCl X (.type "list") oList := by
  intro So Bs τ μ σ η H vs ds z Q ez sr h q
  unfold oList at ez
  split at ez
  · cases ez
    obtain ⟨v, rfl, hv⟩ := dq1 h
    obtain ⟨l, ws, rfl, h1, h2⟩ := dq_lst hv
    refine ⟨_, call_list_of, l, ws, rfl, .inl (SqL.of (same_vis _ _ h1)), fun m hm => ?_⟩
    obtain ⟨k1, k2⟩ := sr.newD hm h2
    exact q _ _ k1 k2
  · cases ez
    obtain ⟨v, rfl, hv⟩ := dq1 h
    obtain ⟨l, ws, rfl, h1, h2⟩ := dq_tup hv
    refine ⟨_, call_list_of, l, ws, rfl, .inr (same_sqt same_vis h1), fun m hm => ?_⟩
    obtain ⟨k1, k2⟩ := sr.newD hm h2
    exact q _ _ k1 k2
  · cases ez
def oInt (ds : List PyData) : Option PyData := match ds with
  | [.int i] => some (.int i)
  | [.bool b] => some (.int (if b then 1 else 0))
  | _ => none
theorem dc_int : DCl X (.type "int") oInt := by
  intro So Bs τ μ σ η H vs ds z Q ez sr h q
  unfold oInt at ez
  split at ez
  · cases ez
    obtain ⟨v, rfl, hv⟩ := dq1 h
    rw [dq_int hv]
    exact ⟨_, call_int1, .inl ⟨_, rfl, q _ H sr (.int _)⟩⟩
  · cases ez
    obtain ⟨v, rfl, hv⟩ := dq1 h
    rw [dq_bl hv]
    exact ⟨_, call_int1, .inr ⟨_, rfl, q _ H sr (.int _)⟩⟩
  · cases ez
def boolsOf : List PyData → Option (List Bool)
  | [] => some []
  | .bool b :: r => (boolsOf r).map (b :: ·)
  | _ => none
theorem bools_all {K : PySem.W.Frag} {H : Hp} : ∀ {ds : List PyData} {bs : List Bool} {vs : List V}, boolsOf ds = some bs → DqAll K H vs ds → vs = bs.map V.bl
  | [], _, _, e, h => by cases e; cases h; rfl
  | .bool b :: r, bs, vs, e, h => by
    cases h with
    | cons h t =>
      cases q : boolsOf r with
      | none => simp only [boolsOf, q] at e; cases e
      | some cs =>
        simp only [boolsOf, q] at e
        cases e
        rw [dq_bl h, bools_all q t]
        rfl
  | .none :: _, _, _, e, _ => by cases e
  | .int _ :: _, _, _, e, _ => by cases e
  | .str _ :: _, _, _, e, _ => by cases e
  | .list _ :: _, _, _, e, _ => by cases e
  | .tuple _ :: _, _, _, e, _ => by cases e
  | .dict _ :: _, _, _, e, _ => by cases e
def oAll (ds : List PyData) : Option PyData := match ds with
  | [.list xs] => (boolsOf xs).map fun bs => .bool (bs.all (fun b => b))
  | _ => none
def oAny (ds : List PyData) : Option PyData := match ds with
  | [.list xs] => (boolsOf xs).map fun bs => .bool (bs.any (fun b => b))
  | _ => none
theorem dc_all (hc : X.calm = true) : DCl X (.builtin "all") oAll := by
  intro So Bs τ μ σ η H vs ds z Q ez sr h q
  unfold oAll at ez
  split at ez
  · next xs =>
    cases e : boolsOf xs with
    | none => rw [e] at ez; cases ez
    | some bs =>
      rw [e] at ez
      cases ez
      obtain ⟨v, rfl, hv⟩ := dq1 h
      obtain ⟨l, ws, rfl, h1, h2⟩ := dq_lst hv
      have := bools_all e h2
      subst this
      exact ⟨_, cr_all hc, l, bs, rfl, SqL.of (same_vis _ _ h1), q _ H sr (.bl _)⟩
  · cases ez
theorem dc_any (hc : X.calm = true) : DCl X (.builtin "any") oAny := by
  intro So Bs τ μ σ η H vs ds z Q ez sr h q
  unfold oAny at ez
  split at ez
  · next xs =>
    cases e : boolsOf xs with
    | none => rw [e] at ez; cases ez
    | some bs =>
      rw [e] at ez
      cases ez
      obtain ⟨v, rfl, hv⟩ := dq1 h
      obtain ⟨l, ws, rfl, h1, h2⟩ := dq_lst hv
      have := bools_all e h2
      subst this
      exact ⟨_, cr_any hc, l, bs, rfl, SqL.of (same_vis _ _ h1), q _ H sr (.bl _)⟩
  · cases ez
def intsOf : List PyData → Option (List Int)
  | [] => some []
  | .int b :: r => (intsOf r).map (b :: ·)
  | _ => none
theorem ints_all {K : PySem.W.Frag} {H : Hp} : ∀ {ds : List PyData} {bs : List Int} {vs : List V}, intsOf ds = some bs → DqAll K H vs ds → vs = bs.map V.int
  | [], _, _, e, h => by cases e; cases h; rfl
  | .int b :: r, bs, vs, e, h => by
    cases h with
    | cons h t =>
      cases q : intsOf r with
      | none => simp only [intsOf, q] at e; cases e
      | some cs =>
        simp only [intsOf, q] at e
        cases e
        rw [dq_int h, ints_all q t]
        rfl
  | .none :: _, _, _, e, _ => by cases e
  | .bool _ :: _, _, _, e, _ => by cases e
  | .str _ :: _, _, _, e, _ => by cases e
  | .list _ :: _, _, _, e, _ => by cases e
  | .tuple _ :: _, _, _, e, _ => by cases e
  | .dict _ :: _, _, _, e, _ => by cases e
def oSum (ds : List PyData) : Option PyData := match ds with
  | [.list xs] => (intsOf xs).map fun bs => .int bs.sum
  | _ => none
theorem dc_sum (hc : X.calm = true) : DCl X (.builtin "sum") oSum := by
  intro So Bs τ μ σ η H vs ds z Q ez sr h q
  unfold oSum at ez
  split at ez
  · next xs =>
    cases e : intsOf xs with
    | none => rw [e] at ez; cases ez
    | some bs =>
      rw [e] at ez
      cases ez
      obtain ⟨v, rfl, hv⟩ := dq1 h
      obtain ⟨l, ws, rfl, h1, h2⟩ := dq_lst hv
      have := ints_all e h2
      subst this
      exact ⟨_, cr_sum hc, l, bs, rfl, SqL.of (same_vis _ _ h1), q _ H sr (.int _)⟩
  · cases ez
/-- sorted -/
def alikeB (ds : List PyData) : Bool := ds.all fun d => ds.all fun d' => alike d d'
def sortableB (ds : List PyData) : Bool := (ds.all fun d => match d with
  | .tuple (_ :: _) => true
  | _ => false) || ds.all fun d => match d with
  | .none => false
  | .tuple _ => false
  | _ => true
def sortOk (ds : List PyData) : Bool := alikeB ds && sortableB ds && ds.all (fun d => plainD d && decide (d.depth ≤ 64))
def sortD (ds : List PyData) : List PyData := ds.mergeSort (dataLe false fun d => d)
def oSorted (ds : List PyData) : Option PyData := match ds with
  | [.list xs] => if sortOk xs = true then some (.list (sortD xs)) else none
  | _ => none
theorem alikeB_ok {ds : List PyData} (h : alikeB ds = true) : AllAlike ds := fun d hd d' hd' => List.all_eq_true.mp (List.all_eq_true.mp h d hd) d' hd'
theorem sortableB_ok {ds : List PyData} (h : sortableB ds = true) : Sortable ds := by
  rcases Bool.or_eq_true_iff.mp h with h | h
  · refine .inl fun d hd => ?_
    have := List.all_eq_true.mp h d hd
    revert this
    cases d with
    | tuple xs => cases xs with
      | nil => intro z; cases z
      | cons x r => intro _; exact ⟨x, r, rfl⟩
    | _ => intro z; cases z
  · refine .inr fun d hd => ?_
    have := List.all_eq_true.mp h d hd
    revert this
    cases d <;> intro z <;> first | (cases z; done) | exact ⟨by simp, by simp⟩
theorem paired_of {K : PySem.W.Frag} {H : Hp} : ∀ {vs : List V} {ds : List PyData}, DqAll K H vs ds → Paired (Dq K H) vs ds
  | _, _, .nil => .nil
  | _, _, .cons h t => .cons h (paired_of t)
theorem of_paired {K : PySem.W.Frag} {H : Hp} : ∀ {vs : List V} {ds : List PyData}, Paired (Dq K H) vs ds → DqAll K H vs ds
  | _, _, .nil => .nil
  | _, _, .cons h t => .cons h (of_paired t)
theorem paired_mem {α β : Type} {R : α → β → Prop} {xs : List α} {ys : List β} (hp : Paired R xs ys) : Paired (fun x y => R x y ∧ y ∈ ys) xs ys := by
  have key : ∀ {xs : List α} {ys zs : List β}, Paired R xs ys → (∀ y ∈ ys, y ∈ zs) → Paired (fun x y => R x y ∧ y ∈ zs) xs ys := fun {xs ys zs} h => by
    induction h with
    | nil => intro _; exact .nil
    | cons r t ih => intro k; exact .cons ⟨r, k _ List.mem_cons_self⟩ (ih fun y hy => k y (List.mem_cons_of_mem _ hy))
  exact key hp fun _ z => z
theorem dc_sorted (hu : X.A.units + 100 < cLine) : DCl X (.builtin "sorted") oSorted := by
  intro So Bs τ μ σ η H vs ds z Q ez sr h q
  unfold oSorted at ez
  split at ez
  · next xs =>
    split at ez
    · next hok =>
      cases ez
      obtain ⟨v, rfl, hv⟩ := dq1 h
      obtain ⟨l, ws, rfl, h1, h2⟩ := dq_lst hv
      simp only [sortOk, Bool.and_eq_true] at hok
      obtain ⟨⟨k1, k2⟩, k3⟩ := hok
      have kd : ∀ d ∈ xs, plainD d = true ∧ d.depth ≤ 64 := fun d hd => by
        have := List.all_eq_true.mp k3 d hd
        simp only [Bool.and_eq_true, decide_eq_true_eq] at this
        exact this
      refine ⟨_, cr_sortedR hu, l, ws, PyData, xs, fun d => d, fun x d => Dq X.K (vis So μ η H) x d ∧ d ∈ xs, rfl, SqL.of (same_vis _ _ h1), paired_mem (paired_of h2), fun x d hx => Dq.dp _ _ (kd d hx.2).1 (Dq.mono same_vis _ _ hx.1), by rw [List.map_id']; exact alikeB_ok k1, by rw [List.map_id']; exact sortableB_ok k2, fun d hd => (kd d hd).2, fun ys p hys hp => ?_⟩
      obtain ⟨m1, m2⟩ := sr.newD hp (of_paired (Paired.mapP hys fun _ _ z => z.1))
      exact q _ _ m1 m2
    · cases ez
  · cases ez
/-! ### what is walked -/
variable {tg : Expr} {ga gb : En → Rs PyData}
def iSeq (ga : En → Rs PyData) (η : En) : Rs (List PyData) := (ga η).bind fun x η1 => match x with
  | .list xs => .ok xs η1
  | .tuple xs => .ok xs η1
  | .str z => .ok (z.cps.toList.map fun c => .str ⟨#[c]⟩) η1
  | _ => .no
theorem wk_list {K : PySem.W.Frag} {Hv : Hp} {a : Addr} {vs : List V} {ds : List PyData} (h1 : Hv a = some (.lst vs)) (h2 : DqAll K Hv vs ds) : Wk K Hv (Itl K a) ds := by
  refine ⟨fun H => SqL K H a vs, YAt vs, ?_, fun H2 s => SqL.of (s _ _ h1), fun i H2 x H3 s y hi => ?_⟩
  · rw [← h2.len]
    exact walk_list
  · obtain ⟨rfl, e⟩ := y
    obtain ⟨d, ed, hd⟩ := h2.getV e
    exact ⟨d, ed, .inl ⟨rfl, hd⟩⟩
theorem wk_tup {K : PySem.W.Frag} {Hv : Hp} {a : Addr} {vs : List V} {ds : List PyData} (h1 : SqT K Hv a vs) (h2 : DqAll K Hv vs ds) : Wk K Hv (Itt K a) ds := by
  refine ⟨fun H => SqT K H a vs, YAt vs, ?_, fun H2 s => same_sqt s h1, fun i H2 x H3 s y hi => ?_⟩
  · rw [← h2.len]
    exact walk_tup
  · obtain ⟨rfl, e⟩ := y
    obtain ⟨d, ed, hd⟩ := h2.getV e
    exact ⟨d, ed, .inl ⟨rfl, hd⟩⟩
theorem wk_str {K : PySem.W.Frag} {Hv : Hp} {z : Str} : Wk K Hv (Its z) (z.cps.toList.map fun c => .str ⟨#[c]⟩) := by
  refine ⟨fun _ => True, (fun i H v H' => H' = H ∧ ∃ c, z.cps[i]? = some c ∧ v = .str ⟨#[c]⟩), ?_, fun _ _ => trivial, fun i H2 x H3 s y hi => ?_⟩
  · rw [List.length_map, Array.length_toList]
    exact walk_str
  · obtain ⟨rfl, c, ec, rfl⟩ := y
    refine ⟨.str ⟨#[c]⟩, ?_, .inl ⟨rfl, .str _⟩⟩
    rw [List.getElem?_map, Array.getElem?_toList, ec]
    rfl
/-- for .. in e: a list, a tuple or a text -/
theorem di_seq (ha : DE X EX W e ga) : DI X EX W tg e (iSeq ga) := by
  intro So Bs τ μ σ H η R sr h
  unfold iSeq at h
  cases hr : ga η with
  | no => rw [hr] at h; exact h.elim
  | ex n as η1 =>
    rw [hr] at h
    refine ⟨_, pi_list we, ha So Bs τ σ H η _ sr ?_⟩
    rw [hr]
    exact h
  | ok x η1 =>
    rw [hr] at h
    simp only [Rs.bind] at h
    cases x with
    | list xs =>
      refine ⟨_, pi_list we, ha So Bs τ σ H η _ sr ?_⟩
      rw [hr]
      intro μ1 H1 sr1 v hv
      obtain ⟨a, vs, rfl, h1, h2⟩ := dq_lst hv
      exact ⟨a, rfl, ⟨vs, SqL.of (same_vis _ _ h1)⟩, h H1 sr1 _ (wk_list h1 h2)⟩
    | tuple xs =>
      refine ⟨_, pi_tup we, ha So Bs τ σ H η _ sr ?_⟩
      rw [hr]
      intro μ1 H1 sr1 v hv
      obtain ⟨a, vs, rfl, h1, h2⟩ := dq_tup hv
      exact ⟨a, rfl, ⟨vs, same_sqt same_vis h1⟩, h H1 sr1 _ (wk_tup h1 h2)⟩
    | str z =>
      refine ⟨_, pi_str we, ha So Bs τ σ H η _ sr ?_⟩
      rw [hr]
      intro μ1 H1 sr1 v hv
      exact ⟨z, dq_str hv, h H1 sr1 _ wk_str⟩
    | none => exact h.elim
    | bool b => exact h.elim
    | int b => exact h.elim
    | dict b => exact h.elim
/-- range(n), range(a, b) -/
def rngD (a b : Int) : List PyData := (List.range (b - a).toNat).map fun i => .int (a + (i : Nat))
def rngOk (a b : Int) : Bool := decide (-(2 ^ 62) ≤ a) && decide (a < 2 ^ 62) && decide (-(2 ^ 62) ≤ b) && decide (b < 2 ^ 62)
def iRg1 (ga : En → Rs PyData) (η : En) : Rs (List PyData) := (ga η).bind fun x η1 => match x with
  | .int j => if rngOk 0 j = true then .ok (rngD 0 j) η1 else .no
  | _ => .no
def iRg2 (ga gb : En → Rs PyData) (η : En) : Rs (List PyData) := (ga η).bind fun x η1 => (gb η1).bind fun y η2 => match x, y with
  | .int i, .int j => if rngOk i j = true then .ok (rngD i j) η2 else .no
  | _, _ => .no
theorem wk_rng {K : PySem.W.Frag} {Hv : Hp} {lo hi : Int} : Wk K Hv (Itr lo (hi - lo).toNat) (rngD lo hi) := by
  refine ⟨fun _ => True, YFn fun i => .int (lo + i), ?_, fun _ _ => trivial, fun i H2 x H3 s y h => ?_⟩
  · unfold rngD
    rw [List.length_map, List.length_range]
    exact walk_range
  · obtain ⟨rfl, rfl⟩ := y
    refine ⟨.int (lo + i), ?_, .inl ⟨rfl, .int _⟩⟩
    unfold rngD at h ⊢
    rw [List.length_map, List.length_range] at h
    rw [List.getElem?_map, List.getElem?_range h]
    rfl
theorem wa1 {a : Expr} {Q : List V → Hp → Prop} (h : We X a σ H fun v H1 => Q [v] H1) (hs : starEach [a] X.env = [(false, eval a X.env)]) : Wa X [a] σ H Q :=
  ⟨_, pa_cons we pa_nil hs, h⟩
theorem wa2 {a b : Expr} {Q : List V → Hp → Prop} (h : We X a σ H fun v H1 => We X b σ H1 fun u H2 => Q [v, u] H2) (hs : starEach [a, b] X.env = (false, eval a X.env) :: starEach [b] X.env) (hs2 : starEach [b] X.env = [(false, eval b X.env)]) : Wa X [a, b] σ H Q :=
  ⟨_, pa_cons we (pa_cons we pa_nil hs2) hs, h⟩
theorem di_rng1 {a : Expr} (hg : Gl X "range") (hm : X.mg "range" = none) (ha : DE X EX W a ga) (hs : starEach [a] X.env = [(false, eval a X.env)] := by rfl) : DI X EX W tg (.Call (.Name "range" p) [a] [] pos) (iRg1 ga) := by
  intro So Bs τ μ σ H η R sr h
  refine ⟨_, pi_range1 hg hm wa hs, wa1 ?_ hs⟩
  refine ha.seq sr h fun x η1 H1 v sr1 s1 hx h1 => ?_
  split at h1
  · next j =>
    split at h1
    · next ok =>
      simp only [rngOk, Bool.and_eq_true, decide_eq_true_eq] at ok
      refine ⟨j, by rw [dq_int hx], ok.1.2, ok.2, ?_⟩
      have := h1 H1 sr1 (Itr 0 (j - 0).toNat) wk_rng
      rw [Int.sub_zero] at this
      exact this
    · exact h1.elim
  · exact h1.elim
theorem di_rng2 {a b : Expr} (hg : Gl X "range") (hm : X.mg "range" = none) (ha : DE X EX W a ga) (hb : DE X EX W b gb) (hs : starEach [a, b] X.env = (false, eval a X.env) :: starEach [b] X.env := by rfl) (hs2 : starEach [b] X.env = [(false, eval b X.env)] := by rfl) (hs0 : starEach [a, b] X.env = [(false, eval a X.env), (false, eval b X.env)] := by rfl) :
    DI X EX W tg (.Call (.Name "range" p) [a, b] [] pos) (iRg2 ga gb) := by
  intro So Bs τ μ σ H η R sr h
  refine ⟨_, pi_range2 hg hm wa hs0 hs2, wa2 ?_ hs hs2⟩
  refine ha.seq sr h fun x η1 H1 v sr1 s1 hx h1 => hb.seq sr1 h1 fun y η2 H2 u sr2 s2 hy h2 => ?_
  split at h2
  · next i j =>
    split at h2
    · next ok =>
      simp only [rngOk, Bool.and_eq_true, decide_eq_true_eq] at ok
      exact ⟨i, j, by rw [dq_int hx, dq_int hy], ⟨ok.1.1.1, ok.1.1.2, ok.1.2, ok.2⟩, h2 H2 sr2 _ wk_rng⟩
    · exact h2.elim
  · exact h2.elim
/-- enumerate(xs), a list or a tuple -/
def enumD (k : Int) (xs : List PyData) : List PyData := (List.range xs.length).zipWith (fun i x => .tuple [.int (k + (i : Nat)), x]) xs
theorem enum_get {k : Int} {xs : List PyData} {i : Nat} (hi : i < xs.length) : (enumD k xs)[i]? = some (.tuple [.int (k + (i : Nat)), xs[i]]) := by
  unfold enumD
  rw [List.getElem?_zipWith, List.getElem?_range hi, List.getElem?_eq_getElem hi]
theorem enum_len {k : Int} {xs : List PyData} : (enumD k xs).length = xs.length := by
  unfold enumD
  rw [List.length_zipWith, List.length_range, Nat.min_self]
def iEn (ga : En → Rs PyData) (η : En) : Rs (List PyData) := (ga η).bind fun x η1 => match x with
  | .list xs => .ok (enumD 0 xs) η1
  | .tuple xs => .ok (enumD 0 xs) η1
  | _ => .no
theorem wk_pair {K : PySem.W.Frag} {Hv : Hp} {J : It} {n : Nat} {G : Hp → Prop} {f g : Nat → Option V} {ds : List PyData} (w : Walk J n G (YPair f g)) (hn : n = ds.length) (hG : ∀ H2, Same Hv H2 → G H2)
    (hy : ∀ (i : Nat) (x y : V), i < n → f i = some x → g i = some y → ∃ a b, ds[i]? = some (.tuple [a, b]) ∧ Dq K Hv x a ∧ Dq K Hv y b) : Wk K Hv J ds := by
  subst hn
  refine ⟨G, _, w, hG, fun i H2 x H3 s ⟨T, u, v, e1, e2, e3, e4, e5⟩ hi => ?_⟩
  obtain ⟨a, b, h1, h2, h3⟩ := hy i u v hi e4 e5
  exact ⟨_, h1, .inr ⟨T, [u, v], [a, b], e1, e2, e3, .cons h2 (.cons h3 .nil), rfl⟩⟩
theorem di_enum {a : Expr} {elts : List Expr} {kk : Nat} {tpos : Pos} (hg : Gl X "enumerate") (hm : X.mg "enumerate" = none) (ha : DE X EX W a ga) (hs : starEach [a] X.env = [(false, eval a X.env)] := by rfl) : DI X EX W (.Tuple elts kk tpos) (.Call (.Name "enumerate" p) [a] [] pos) (iEn ga) := by
  intro So Bs τ μ σ H η R sr h
  unfold iEn at h
  have other : (∀ xs η1, ga η = .ok (.tuple xs) η1 → False) → Wi X (.Tuple elts kk tpos) (.Call (.Name "enumerate" p) [a] [] pos) σ H R := fun no => by
    refine ⟨_, pi_enum hg hm wa hs, wa1 ?_ hs⟩
    refine ha So (mx μ η H) τ σ H η _ sr.max ?_
    cases hr : ga η with
    | no => rw [hr] at h; exact h
    | ex n as η1 => rw [hr] at h; exact fun H1 cls dd sr1 hx => h H1 cls dd (sr.back sr1) hx
    | ok x η1 =>
      rw [hr] at h
      simp only [Rs.bind] at h
      intro μ1 H1 sr1 v hv
      cases x with
      | list xs =>
        obtain ⟨l, vs, rfl, h1, h2⟩ := dq_lst hv
        refine ⟨l, vs, rfl, SqL.of (same_vis _ _ h1), h H1 (sr.back sr1) _ (wk_pair walk_enum (by rw [enum_len, h2.len]) (fun H2 s => SqL.of (s _ _ h1)) fun i u w hi e1 e2 => ?_)⟩
        obtain ⟨d, ed, hd⟩ := h2.getV e2
        cases e1
        have hi' : i < xs.length := by rw [← h2.len]; exact hi
        refine ⟨_, _, enum_get hi', ?_, ?_⟩
        · rw [Int.zero_add]
          exact .int _
        · rw [List.getElem?_eq_getElem hi'] at ed
          cases ed
          exact hd
      | tuple xs => exact (no xs η1 hr).elim
      | none => exact h.elim
      | bool b => exact h.elim
      | int b => exact h.elim
      | str b => exact h.elim
      | dict b => exact h.elim
  cases hr : ga η with
  | no => exact other fun xs η1 e => by rw [hr] at e; cases e
  | ex n as η1 => exact other fun xs η1 e => by rw [hr] at e; cases e
  | ok x η1 =>
    cases x with
    | tuple xs =>
      refine ⟨_, pi_enumT hg hm wa hs, wa1 ?_ hs⟩
      refine ha So (mx μ η H) τ σ H η _ sr.max ?_
      rw [hr] at h ⊢
      simp only [Rs.bind] at h
      intro μ1 H1 sr1 v hv
      obtain ⟨l, vs, rfl, h1, h2⟩ := dq_tup hv
      refine ⟨l, vs, rfl, same_sqt same_vis h1, h H1 (sr.back sr1) _ (wk_pair walk_enumT (by rw [enum_len, h2.len]) (fun H2 s => same_sqt s h1) fun i u w hi e1 e2 => ?_)⟩
      obtain ⟨d, ed, hd⟩ := h2.getV e2
      cases e1
      have hi' : i < xs.length := by rw [← h2.len]; exact hi
      refine ⟨_, _, enum_get hi', .int _, ?_⟩
      rw [List.getElem?_eq_getElem hi'] at ed
      cases ed
      exact hd
    | _ => exact other fun xs η1 e => by rw [hr] at e; cases e
def zipD (xs ys : List PyData) : List PyData := xs.zipWith (fun x y => .tuple [x, y]) ys
def iZp (ga gb : En → Rs PyData) (η : En) : Rs (List PyData) := (ga η).bind fun x η1 => (gb η1).bind fun y η2 => match x, y with
  | .list xs, .list ys => .ok (zipD xs ys) η2
  | _, _ => .no
theorem di_zip {a b : Expr} {elts : List Expr} {kk : Nat} {tpos : Pos} (hg : Gl X "zip") (hm : X.mg "zip" = none) (ha : DE X EX W a ga) (hb : DE X EX W b gb) (hs : starEach [a, b] X.env = (false, eval a X.env) :: starEach [b] X.env := by rfl) (hs2 : starEach [b] X.env = [(false, eval b X.env)] := by rfl) (hpl : (backTo pos (starEach [b] X.env)).any (·.1) = false := by rfl) :
    DI X EX W (.Tuple elts kk tpos) (.Call (.Name "zip" p) [a, b] [] pos) (iZp ga gb) := by
  intro So Bs τ μ σ H η R sr h
  refine ⟨_, pi_zip hg hm wa hs hpl, wa2 ?_ hs hs2⟩
  refine ha.seq sr h fun x η1 H1 v sr1 s1 hx h1 => hb.seq sr1 h1 fun y η2 H2 u sr2 s2 hy h2 => ?_
  split at h2
  · next xs ys =>
    obtain ⟨l, vs, rfl, k1, k2⟩ := dq_lst (Dq.mono s2 _ _ hx)
    obtain ⟨m, ws, rfl, k3, k4⟩ := dq_lst hy
    refine ⟨l, m, vs, ws, rfl, SqL.of (same_vis _ _ k1), SqL.of (same_vis _ _ k3), h2 H2 sr2 _ (wk_pair (walk_zip rfl) (by unfold zipD; rw [List.length_zipWith, k2.len, k4.len]) (fun H2 s => ⟨SqL.of (s _ _ k1), SqL.of (s _ _ k3)⟩) fun i u w hi e1 e2 => ?_)⟩
    obtain ⟨d, ed, hd⟩ := k2.getV e1
    obtain ⟨d2, ed2, hd2⟩ := k4.getV e2
    exact ⟨d, d2, by unfold zipD; rw [List.getElem?_zipWith, ed, ed2], hd, hd2⟩
  · exact h2.elim
end
end DA

/-! own lists and dicts -/
namespace DA
open PySem PySem.Spec PyProof.Rows L2 XR
section
variable {X : Cx} {EX : Exs} {W : WX} {e : Expr} {es : List Expr} {gl : En → Rs (List PyData)} {x : Str} {p pos apos xpos cpos spos : Pos} {ga gb : En → Rs PyData} {i : Nat}
variable {So : Addr → Prop} {Bs : Hp} {τ : Pin} {μ : Mu} {σ : Sg} {H : Hp} {η : En}
theorem SR.lst {K : PySem.W.Frag} (sr : SR K So Bs τ μ σ H η) {t : Nat} {xs : List PyData} (e : η[i]? = some (some (.l t xs))) : ∃ a vs, σ[i]? = some (some (.ref a)) ∧ H a = some (.lst vs) ∧ DqAll K (vis So μ η H) vs xs := by
  obtain ⟨v, ev, vs, rfl, h1, h2, _⟩ := sr.sl i _ e
  exact ⟨_, vs, ev, h1, h2⟩
theorem SR.dic {K : PySem.W.Frag} (sr : SR K So Bs τ μ σ H η) {t : Nat} {kvs : List (Key × PyData)} (e : η[i]? = some (some (.k t kvs))) : ∃ a ws, σ[i]? = some (some (.ref a)) ∧ H a = some (.dK ws) ∧ KvR K (vis So μ η H) ws kvs := by
  obtain ⟨v, ev, ws, rfl, h1, h2, _⟩ := sr.sl i _ e
  exact ⟨_, ws, ev, h1, h2⟩
theorem SR.putL {K : PySem.W.Frag} (sr : SR K So Bs τ μ σ H η) {t : Nat} {xs xs' : List PyData} {a : Addr} {vs' : List V} (e : η[i]? = some (some (.l t xs))) (ev : σ[i]? = some (some (.ref a))) (h : DqAll K (vis So μ η H) vs' xs') :
    SR K So Bs τ μ σ (upd H a (.lst vs')) (η.set i (some (.l t xs'))) := by
  obtain ⟨v, ev', vs, rfl, _⟩ := sr.sl i _ e
  rw [ev] at ev'
  cases ev'
  exact (sr.write (s' := .l t xs') (u := .lst vs') e ⟨rfl, vs', rfl, h⟩).1
theorem SR.putK {K : PySem.W.Frag} (sr : SR K So Bs τ μ σ H η) {t : Nat} {xs xs' : List (Key × PyData)} {a : Addr} {vs' : List (Key × V)} (e : η[i]? = some (some (.k t xs))) (ev : σ[i]? = some (some (.ref a))) (h : KvR K (vis So μ η H) vs' xs') :
    SR K So Bs τ μ σ (upd H a (.dK vs')) (η.set i (some (.k t xs'))) := by
  obtain ⟨v, ev', vs, rfl, _⟩ := sr.sl i _ e
  rw [ev] at ev'
  cases ev'
  exact (sr.write (s' := .k t xs') (u := .dK vs') e ⟨rfl, vs', rfl, h⟩).1
/-! ### lists -/
def oApp (i : Nat) (ga : En → Rs PyData) (η : En) : Rs PyData := (ga η).bind fun y η1 => match η1[i]? with
  | some (some (.l t xs)) => if xs.length < sizeLine then .ok .none (η1.set i (some (.l t (xs ++ [y])))) else .no
  | _ => .no
/-- whether a slot is an own list, before what is put there is reckoned -/
def isL (i : Nat) (η : En) : Bool := match η[i]? with
  | some (some (.l _ _)) => true
  | _ => false
def gdL (i : Nat) (g : En → Rs PyData) (η : En) : Rs PyData := if isL i η = true then g η else .no
theorem isL_of (h : isL i η = true) : ∃ t xs, η[i]? = some (some (.l t xs)) := by
  unfold isL at h
  split at h
  · next t xs e => exact ⟨t, xs, e⟩
  · cases h
theorem de_app (hx : PE X (.Name x xpos) (tVar i)) (ha : DE X EX W e ga) (hm : ∀ {r : V → List V → Hp → VK → Prop} {t : TA}, MtR X "list.append" r → PA X [e] t → PE X (.Call (.Attribute (.Name x xpos) "append" apos) [e] [] cpos) (tBM X.K "list" r (tVar i) t))
    (hs : starEach [e] X.env = [(false, eval e X.env)] := by rfl) : DE X EX W (.Call (.Attribute (.Name x xpos) "append" apos) [e] [] cpos) (gdL i (oApp i ga)) := by
  intro So Bs τ μ σ H η Q sr h
  unfold gdL at h
  split at h
  · next hl =>
    obtain ⟨t, xs, e0⟩ := isL_of hl
    obtain ⟨a, vs, ea, h1, h2⟩ := sr.lst e0
    refine ⟨_, hm mt_append wa, .ref a, ea, .inl ⟨rfl, _, SqL.of h1⟩, wa1 ?_ hs⟩
    refine ha.seq sr h fun y η1 H1 v sr1 s1 hy h1 => ?_
    split at h1
    · next t1 xs1 e1 =>
      split at h1
      · next hz =>
        obtain ⟨b, ws, eb, k1, k2⟩ := sr1.lst e1
        rw [ea] at eb
        cases eb
        exact ⟨a, ws, v, rfl, rfl, k1, by rw [k2.len]; exact hz, h1 _ (sr1.putL e1 ea (k2.append (.cons hy .nil))) _ .non⟩
      · exact h1.elim
    · exact h1.elim
  · exact h.elim
def oExt (i : Nat) (ga : En → Rs PyData) (η : En) : Rs PyData := (ga η).bind fun y η1 => match y, η1[i]? with
  | .list ys, some (some (.l t xs)) => if xs.length + ys.length ≤ sizeLine then .ok .none (η1.set i (some (.l t (xs ++ ys)))) else .no
  | _, _ => .no
theorem de_ext (hx : PE X (.Name x xpos) (tVar i)) (ha : DE X EX W e ga) (hm : ∀ {r : V → List V → Hp → VK → Prop} {t : TA}, MtR X "list.extend" r → PA X [e] t → PE X (.Call (.Attribute (.Name x xpos) "extend" apos) [e] [] cpos) (tBM X.K "list" r (tVar i) t))
    (hs : starEach [e] X.env = [(false, eval e X.env)] := by rfl) : DE X EX W (.Call (.Attribute (.Name x xpos) "extend" apos) [e] [] cpos) (gdL i (oExt i ga)) := by
  intro So Bs τ μ σ H η Q sr h
  unfold gdL at h
  split at h
  · next hl =>
    obtain ⟨t, xs, e0⟩ := isL_of hl
    obtain ⟨a, vs, ea, h1, h2⟩ := sr.lst e0
    refine ⟨_, hm mt_extend wa, .ref a, ea, .inl ⟨rfl, _, SqL.of h1⟩, wa1 ?_ hs⟩
    refine ha.seq sr h fun y η1 H1 v sr1 s1 hy h1 => ?_
    split at h1
    · next ys t1 xs1 e1 =>
      split at h1
      · next hz =>
        obtain ⟨b, ws, eb, k1, k2⟩ := sr1.lst e1
        obtain ⟨m, us, rfl, k3, k4⟩ := dq_lst hy
        rw [ea] at eb
        cases eb
        exact ⟨a, m, ws, us, rfl, rfl, k1, same_vis _ _ k3, by rw [k2.len, k4.len]; exact hz, h1 _ (sr1.putL e1 ea (k2.append k4)) _ .non⟩
      · exact h1.elim
    · exact h1.elim
  · exact h.elim
def ePop (i : Nat) (η : En) : Rs PyData := match η[i]? with
  | some (some (.l t xs)) => match xs[xs.length - 1]? with
    | some y => .ok y (η.set i (some (.l t xs.dropLast)))
    | none => .no
  | _ => .no
theorem SR.putLv {K : PySem.W.Frag} (sr : SR K So Bs τ μ σ H η) {t : Nat} {xs xs' : List PyData} {a : Addr} {vs' : List V} (e : η[i]? = some (some (.l t xs))) (ev : σ[i]? = some (some (.ref a))) (h : DqAll K (vis So μ η H) vs' xs') :
    Same (vis So μ η H) (vis So μ (η.set i (some (.l t xs'))) (upd H a (.lst vs'))) := by
  obtain ⟨v, ev', vs, rfl, _⟩ := sr.sl i _ e
  rw [ev] at ev'
  cases ev'
  exact (sr.write (s' := .l t xs') (u := .lst vs') e ⟨rfl, vs', rfl, h⟩).2
theorem de_pop (hm : ∀ {r : V → List V → Hp → VK → Prop}, MtR X "list.pop" r → PE X (.Call (.Attribute (.Name x xpos) "pop" apos) [] [] cpos) (tBM0 X.K "list" r (tVar i))) : DE X EX W (.Call (.Attribute (.Name x xpos) "pop" apos) [] [] cpos) (ePop i) := by
  intro So Bs τ μ σ H η Q sr h
  unfold ePop at h
  split at h
  · next t xs e0 =>
    split at h
    · next y ey =>
      obtain ⟨a, vs, ea, h1, h2⟩ := sr.lst e0
      rw [← h2.len] at ey
      obtain ⟨v, ev, hv⟩ := h2.get ey
      refine ⟨_, hm mt_pop, .ref a, ea, .inl ⟨rfl, _, SqL.of h1⟩, a, vs, v, rfl, rfl, h1, ev, ?_⟩
      exact h _ (sr.putL e0 ea h2.dropLast) _ (Dq.mono (sr.putLv e0 ea h2.dropLast) _ _ hv)
    · exact h.elim
  · exact h.elim
/-- x[e], x an own list: read -/
def eIxO (i : Nat) (ga : En → Rs PyData) (η : En) : Rs PyData := if isL i η = true then (ga η).bind fun y η1 => match η1[i]?, y with
  | some (some (.l _ xs)), .int k => ofO (atI xs k) η1
  | _, _ => .no else .no
theorem de_ixO (hx : PE X (.Name x xpos) (tVar i)) (ha : DE X EX W e ga) (hs : PlainIx e) : DE X EX W (.Subscript (.Name x xpos) e pos) (eIxO i ga) := by
  intro So Bs τ μ σ H η Q sr h
  unfold eIxO at h
  split at h
  · next hl =>
    obtain ⟨t, xs, e0⟩ := isL_of hl
    obtain ⟨a, vs, ea, h1, h2⟩ := sr.lst e0
    refine ⟨_, pe_ix ix_list hx we hs, .ref a, ea, ?_⟩
    refine ha.seq sr h fun y η1 H1 v sr1 s1 hy h1 => ?_
    split at h1
    · next t1 xs1 k e1 =>
      obtain ⟨z, ez, hq⟩ := post_ofO h1
      obtain ⟨b, ws, eb, k1, k2⟩ := sr1.lst e1
      rw [ea] at eb
      cases eb
      obtain ⟨u, eu, hu⟩ := atI_all k2 ez
      exact ⟨a, ws, k, u, rfl, dq_int hy, SqL.of k1, eu, hq H1 sr1 _ hu⟩
    · exact h1.elim
  · exact h.elim
def eLenO (i : Nat) (η : En) : Rs PyData := match η[i]? with
  | some (some (.l _ xs)) => .ok (.int xs.length) η
  | _ => .no
theorem de_lenO {y : Str} (hx : PE X (.Name x xpos) (tVar i)) (hg : Gl X y) (hm : X.mg y = none) (hv : bootBuiltins y = some (.builtin "len")) (hn : y ≠ "__name__" := by decide) (hdb : (y == ("__debug__" : Str)) = false := by decide)
    (he : starEach [.Name x xpos] X.env = [(false, eval (.Name x xpos) X.env)] := by rfl) (hpl : (backTo pos (starEach [] X.env)).any (·.1) = false := by rfl) : DE X EX W (.Call (.Name y p) [.Name x xpos] [] pos) (eLenO i) := by
  intro So Bs τ μ σ H η Q sr h
  unfold eLenO at h
  split at h
  · next t xs e0 =>
    obtain ⟨a, vs, ea, h1, h2⟩ := sr.lst e0
    refine ⟨_, pe_callB call_len_seq hg hm hv (pa_cons hx pa_nil he) hn hdb he hpl, .ref a, ea, a, vs, rfl, .inl (SqL.of h1), ?_⟩
    rw [h2.len]
    exact h H sr _ (.int _)
  · exact h.elim
/-- x[k] = v, x an own list -/
def oStL (i : Nat) (gk gv : En → Rs PyData) (η : En) : Ot := (gv η).st fun y η1 => if isL i η1 = true then (gk η1).st fun k η2 => match η2[i]?, k with
  | some (some (.l t xs)), .int z => match ixN xs.length z with
    | some j => .nx (η2.set i (some (.l t (xs.set j y))))
    | none => .no
  | _, _ => .no else .no
theorem ds_stL {gk gv : En → Rs PyData} {k v : Expr} (hx : PE X (.Name x xpos) (tVar i)) (hk : DE X EX W k gk) (hv : DE X EX W v gv) (hst : ∀ {te : TE} {g : TG}, PE X v te → PG X (.Subscript (.Name x xpos) k spos) g → PS X (.Assign [.Subscript (.Name x xpos) k spos] v pos) (tAsg te g))
    (hg : ∀ {to ti : TE} {t : TSet}, PE X (.Name x xpos) to → PE X k ti → PSet X t → PG X (.Subscript (.Name x xpos) k spos) (gSub to ti t)) : DS X EX W (.Assign [.Subscript (.Name x xpos) k spos] v pos) (oStL i gk gv) := by
  intro So Bs τ μ σ H η D sr hp
  refine ⟨_, hst we (hg hx we set_list), ?_⟩
  refine hv.stq sr hp fun y η1 H1 vy sr1 s1 hy h1 => ?_
  split at h1
  · next hl =>
    obtain ⟨t, xs, e0⟩ := isL_of hl
    obtain ⟨a, vs, ea, h2, h3⟩ := sr1.lst e0
    refine ⟨.ref a, ea, ?_⟩
    refine hk.stq sr1 h1 fun k η2 H2 vk sr2 s2 hk h4 => ?_
    split at h4
    · next t2 xs2 z e2 =>
      split at h4
      · next j ej =>
        obtain ⟨b, ws, eb, k1, k2⟩ := sr2.lst e2
        rw [ea] at eb
        cases eb
        exact ⟨a, ws, z, j, rfl, dq_int hk, k1, by rw [k2.len]; exact ej, h4 _ _ (sr2.putL e2 ea (DqAll.set (Dq.mono s2 _ _ hy) j k2))⟩
      · exact h4.elim
    · exact h4.elim
  · exact h1.elim
/-! ### dicts -/
def keyOf : PyData → Option Key
  | .int i => some (.inl i)
  | .str x => some (.inr x)
  | _ => none
theorem keyOf_v {K : PySem.W.Frag} {H : Hp} {v : V} {d : PyData} {k : Key} (h : keyOf d = some k) (hv : Dq K H v d) : v = kV k := by
  cases d <;> first | cases h | skip
  · rw [dq_int hv]; rfl
  · rw [dq_str hv]; rfl
def getP (kvs : List (Key × PyData)) (k : Key) : Option PyData := (kvs.find? fun kv => decide (kv.1 = k)).map (·.2)
def putP (kvs : List (Key × PyData)) (k : Key) (v : PyData) : List (Key × PyData) :=
  if (kvs.any fun kv => decide (kv.1 = k)) = true then kvs.map (fun kv => if kv.1 = k then (kv.1, v) else kv) else kvs ++ [(k, v)]
theorem KvR.len {K : PySem.W.Frag} {H : Hp} {ws : List (Key × V)} {kvs : List (Key × PyData)} (r : KvR K H ws kvs) : ws.length = kvs.length := Paired.length r
theorem KvR.get {K : PySem.W.Frag} {H : Hp} {k : Key} : ∀ {ws : List (Key × V)} {kvs : List (Key × PyData)}, KvR K H ws kvs → (∀ d, getP kvs k = some d → ∃ v, valV ws k = some v ∧ Dq K H v d) ∧ (getP kvs k = none → valV ws k = none)
  | [], [], .nil => ⟨fun d z => (by cases z), fun _ => rfl⟩
  | (k1, v1) :: ws, (k2, d2) :: kvs, .cons ⟨h1, h2⟩ t => by
    obtain rfl : k1 = k2 := h1
    by_cases e : k1 = k
    · subst e
      have e1 : getP ((k1, d2) :: kvs) k1 = some d2 := by unfold getP; rw [List.find?_cons_of_pos (by simp)]; rfl
      have e2 : valV ((k1, v1) :: ws) k1 = some v1 := valV_pos rfl
      exact ⟨fun d z => by rw [e1] at z; cases z; exact ⟨v1, e2, h2⟩, fun z => by rw [e1] at z; cases z⟩
    · have e1 : getP ((k1, d2) :: kvs) k = getP kvs k := by unfold getP; rw [List.find?_cons_of_neg (by simpa using e)]
      have e2 : valV ((k1, v1) :: ws) k = valV ws k := valV_neg e
      rw [e1, e2]
      exact KvR.get t
theorem KvR.any {K : PySem.W.Frag} {H : Hp} {k : Key} : ∀ {ws : List (Key × V)} {kvs : List (Key × PyData)}, KvR K H ws kvs → (ws.any fun kv => decide (kv.1 = k)) = kvs.any fun kv => decide (kv.1 = k)
  | [], [], .nil => rfl
  | (k1, v1) :: ws, (k2, d2) :: kvs, .cons ⟨h1, h2⟩ t => by
    obtain rfl : k1 = k2 := h1
    rw [List.any_cons, List.any_cons, KvR.any t]
theorem KvR.repl {K : PySem.W.Frag} {H : Hp} {k : Key} {v : V} {d : PyData} (hv : Dq K H v d) : ∀ {ws : List (Key × V)} {kvs : List (Key × PyData)}, KvR K H ws kvs → KvR K H (ws.map fun kv => if kv.1 = k then (kv.1, v) else kv) (kvs.map fun kv => if kv.1 = k then (kv.1, d) else kv)
  | [], [], .nil => .nil
  | (k1, v1) :: ws, (k2, d2) :: kvs, .cons ⟨h1, h2⟩ t => by
    obtain rfl : k1 = k2 := h1
    refine .cons ?_ (KvR.repl hv t)
    by_cases e : k1 = k
    · simp only [e, if_true]
      exact ⟨trivial, hv⟩
    · simp only [e, if_false]
      exact ⟨trivial, h2⟩
theorem KvR.app {K : PySem.W.Frag} {H : Hp} {k : Key} {v : V} {d : PyData} (hv : Dq K H v d) : ∀ {ws : List (Key × V)} {kvs : List (Key × PyData)}, KvR K H ws kvs → KvR K H (ws ++ [(k, v)]) (kvs ++ [(k, d)])
  | [], [], .nil => .cons ⟨rfl, hv⟩ .nil
  | _ :: _, _ :: _, .cons h t => .cons h (KvR.app hv t)
theorem KvR.put {K : PySem.W.Frag} {H : Hp} {k : Key} {v : V} {d : PyData} (hv : Dq K H v d) {ws : List (Key × V)} {kvs : List (Key × PyData)} (r : KvR K H ws kvs) : KvR K H (L2.putK ws k v) (putP kvs k d) := by
  unfold L2.putK putP
  rw [r.any]
  split
  · exact r.repl hv
  · exact r.app hv
/-- x = {} -/
def oDnew (i : Nat) (η : En) : Ot := .nx (η.set i (some (.k 0 [])))
theorem ds_dnew (h : ∀ {te : TE}, PE X (.Dict [] [] cpos) te → PS X (.Assign [.Name x xpos] (.Dict [] [] cpos) pos) (tAsg te (gName i))) : DS X EX W (.Assign [.Name x xpos] (.Dict [] [] cpos) pos) (oDnew i) := by
  intro So Bs τ μ σ H η D sr hp
  refine ⟨_, h pe_dnewK, fun p hpn => ?_⟩
  refine hp _ _ ((sr.hide (u := .dK []) hpn).setO (s := .k 0 []) (sr.so_ne hpn) (sr.fresh hpn) sr.so rfl ⟨[], rfl, upd_same, .nil, fun z => (z rfl).elim⟩)
/-- whether a slot is an own dict -/
def isK (i : Nat) (η : En) : Bool := match η[i]? with
  | some (some (.k _ _)) => true
  | _ => false
theorem isK_of (h : isK i η = true) : ∃ t xs, η[i]? = some (some (.k t xs)) := by
  unfold isK at h
  split at h
  · next t xs e => exact ⟨t, xs, e⟩
  · cases h
/-- x[k] = v, x an own dict -/
def oStK (i : Nat) (gk gv : En → Rs PyData) (η : En) : Ot := (gv η).st fun y η1 => if isK i η1 = true then (gk η1).st fun k η2 => match η2[i]?, keyOf k with
  | some (some (.k t kvs)), some z => if kvs.length < sizeLine then .nx (η2.set i (some (.k t (putP kvs z y)))) else .no
  | _, _ => .no else .no
theorem ds_stK {gk gv : En → Rs PyData} {k v : Expr} (hu : X.A.units + 1 < cLine) (hx : PE X (.Name x xpos) (tVar i)) (hk : DE X EX W k gk) (hv : DE X EX W v gv) (hs : swapsWith v (some (.Subscript (.Name x xpos) k spos)) pos.line X.env = pure false) :
    DS X EX W (.Assign [.Subscript (.Name x xpos) k spos] v pos) (oStK i gk gv) := by
  intro So Bs τ μ σ H η D sr hp
  refine ⟨_, ps_dput hu hx we we hs, ?_⟩
  refine hv.stq sr hp fun y η1 H1 vy sr1 s1 hy h1 => ?_
  split at h1
  · next hl =>
    obtain ⟨t, xs, e0⟩ := isK_of hl
    obtain ⟨a, vs, ea, h2, h3⟩ := sr1.dic e0
    refine ⟨.ref a, ea, ?_⟩
    refine hk.stq sr1 h1 fun k η2 H2 vk sr2 s2 hk h4 => ?_
    split at h4
    · next t2 kvs z e2 ez =>
      split at h4
      · next hz =>
        obtain ⟨b, ws, eb, k1, k2⟩ := sr2.dic e2
        rw [ea] at eb
        cases eb
        have := keyOf_v ez hk
        subst this
        exact ⟨a, _, rfl, DPut.k k1 (by rw [k2.len]; exact hz), h4 _ _ (sr2.putK e2 ea (k2.put (Dq.mono s2 _ _ hy)))⟩
      · exact h4.elim
    · exact h4.elim
  · exact h1.elim
/-- x[k], x an own dict -/
def eDg (i : Nat) (gk : En → Rs PyData) (η : En) : Rs PyData := if isK i η = true then (gk η).bind fun k η1 => match η1[i]?, keyOf k with
  | some (some (.k _ kvs)), some z => ofO (getP kvs z) η1
  | _, _ => .no else .no
theorem de_dg {gk : En → Rs PyData} {k : Expr} (hu : X.A.units + 1 < cLine) (hx : PE X (.Name x xpos) (tVar i)) (hk : DE X EX W k gk) (hs : NoSl k) : DE X EX W (.Subscript (.Name x xpos) k pos) (eDg i gk) := by
  intro So Bs τ μ σ H η Q sr h
  unfold eDg at h
  split at h
  · next hl =>
    obtain ⟨t, xs, e0⟩ := isK_of hl
    obtain ⟨a, vs, ea, h1, h2⟩ := sr.dic e0
    refine ⟨_, pe_dget hu hx we hs, .ref a, ea, ?_⟩
    refine hk.seq sr h fun y η1 H1 v sr1 s1 hy h1 => ?_
    split at h1
    · next t1 kvs z e1 ez =>
      obtain ⟨d, ed, hq⟩ := post_ofO h1
      obtain ⟨b, ws, eb, k1, k2⟩ := sr1.dic e1
      rw [ea] at eb
      cases eb
      have := keyOf_v ez hy
      subst this
      obtain ⟨u, eu, hu⟩ := (k2.get).1 d ed
      have g : DGet H1 a (kV z) (valV ws z) := DGet.k k1
      rw [eu] at g
      exact ⟨a, u, rfl, g, hq H1 sr1 _ hu⟩
    · exact h1.elim
  · exact h.elim
/-- k in x, x an own dict -/
def eDin (neg : Bool) (i : Nat) (gk : En → Rs PyData) (η : En) : Rs PyData := (gk η).bind fun k η1 => match η1[i]?, keyOf k with
  | some (some (.k _ kvs)), some z => .ok (.bool ((getP kvs z).isSome ^^ neg)) η1
  | _, _ => .no
theorem KvR.some {K : PySem.W.Frag} {H : Hp} {k : Key} {ws : List (Key × V)} {kvs : List (Key × PyData)} (r : KvR K H ws kvs) : (valV ws k).isSome = (getP kvs k).isSome := by
  cases e : getP kvs k with
  | none => rw [(r.get).2 e]; rfl
  | some d => obtain ⟨v, ev, _⟩ := (r.get).1 d e; rw [ev]; rfl
theorem de_din {gk : En → Rs PyData} {k : Expr} (hu : X.A.units + 1 < cLine) (hx : PE X (.Name x xpos) (tVar i)) (hk : DE X EX W k gk) (h1 : behindInMarks .In (.Name x xpos) = false := by rfl) : DE X EX W (.Compare k [.In] [.Name x xpos] pos) (eDin false i gk) := by
  intro So Bs τ μ σ H η Q sr h
  refine ⟨_, pe_cmp (pc_din hu we hx) h1, ?_⟩
  refine hk.seq sr h fun y η1 H1 v sr1 s1 hy h1 => ?_
  split at h1
  · next t1 kvs z e1 ez =>
    obtain ⟨a, ws, ea, k1, k2⟩ := sr1.dic e1
    have := keyOf_v ez hy
    subst this
    refine ⟨.ref a, ea, a, _, rfl, DGet.k k1, ?_⟩
    rw [k2.some]
    have := h1 H1 sr1 _ (.bl _)
    rw [Bool.xor_false] at this
    exact this
  · exact h1.elim
theorem de_dnin {gk : En → Rs PyData} {k : Expr} (hu : X.A.units + 1 < cLine) (hx : PE X (.Name x xpos) (tVar i)) (hk : DE X EX W k gk) (h1 : behindInMarks .NotIn (.Name x xpos) = false := by rfl) : DE X EX W (.Compare k [.NotIn] [.Name x xpos] pos) (eDin true i gk) := by
  intro So Bs τ μ σ H η Q sr h
  refine ⟨_, pe_cmp (pc_dnotin hu we hx) h1, ?_⟩
  refine hk.seq sr h fun y η1 H1 v sr1 s1 hy h1 => ?_
  split at h1
  · next t1 kvs z e1 ez =>
    obtain ⟨a, ws, ea, k1, k2⟩ := sr1.dic e1
    have := keyOf_v ez hy
    subst this
    refine ⟨.ref a, ea, a, _, rfl, DGet.k k1, ?_⟩
    rw [k2.some]
    have := h1 H1 sr1 _ (.bl _)
    rw [Bool.xor_true] at this
    exact this
  · exact h1.elim
theorem dt_din {gk : En → Rs PyData} {k : Expr} (hu : X.A.units + 1 < cLine) (hx : PE X (.Name x xpos) (tVar i)) (hk : DE X EX W k gk) (h1 : behindInMarks .In (.Name x xpos) = false := by rfl) : DT X EX W (.Compare k [.In] [.Name x xpos] pos) (tOf (eDin false i gk)) := by
  intro So Bs τ μ σ H η Q sr h
  refine ⟨_, pt_cmp (pc_din hu we hx) h1, ?_⟩
  have h' : Post X.K So Bs τ σ EX W ((gk η).bind fun k η1 => match η1[i]?, keyOf k with
    | some (some (.k _ kvs)), some z => .ok ((getP kvs z).isSome ^^ false) η1
    | _, _ => .no) (fun b η' μ' H' => Q b H') := by
    unfold tOf eDin at h
    cases hr : gk η with
    | no => rw [hr] at h; exact h
    | ex n as η1 => rw [hr] at h; exact h
    | ok y η1 =>
      rw [hr] at h
      simp only [Rs.bind] at h ⊢
      split <;> simp_all [ofO, asB, Post] <;> exact fun H s => h H s
  refine hk.seq sr h' fun y η1 H1 v sr1 s1 hy h1 => ?_
  split at h1
  · next t1 kvs z e1 ez =>
    obtain ⟨a, ws, ea, k1, k2⟩ := sr1.dic e1
    have := keyOf_v ez hy
    subst this
    refine ⟨.ref a, ea, a, _, rfl, DGet.k k1, _, rfl, ?_⟩
    rw [k2.some]
    have := h1 H1 sr1
    rw [Bool.xor_false] at this
    exact this
  · exact h1.elim
/-- x.get(k) -/
def eGet1 (i : Nat) (gk : En → Rs PyData) (η : En) : Rs PyData := if isK i η = true then (gk η).bind fun k η1 => match η1[i]?, keyOf k with
  | some (some (.k _ kvs)), some z => .ok ((getP kvs z).getD .none) η1
  | _, _ => .no else .no
theorem de_get1 {gk : En → Rs PyData} {k : Expr} (hu : X.A.units + 1 < cLine) (hx : PE X (.Name x xpos) (tVar i)) (hk : DE X EX W k gk) (m : M1 X (.Name x xpos) "get" apos k cpos) : DE X EX W (.Call (.Attribute (.Name x xpos) "get" apos) [k] [] cpos) (eGet1 i gk) := by
  intro So Bs τ μ σ H η Q sr h
  unfold eGet1 at h
  split at h
  · next hl =>
    obtain ⟨t, xs, e0⟩ := isK_of hl
    obtain ⟨a, vs, ea, h1, h2⟩ := sr.dic e0
    refine ⟨_, pe_dget1 hu hx we m, .ref a, ea, a, rfl, .inl ⟨vs, .inl h1⟩, ?_⟩
    refine hk.seq sr h fun y η1 H1 v sr1 s1 hy h1 => ?_
    split at h1
    · next t1 kvs z e1 ez =>
      obtain ⟨b, ws, eb, k1, k2⟩ := sr1.dic e1
      rw [ea] at eb
      cases eb
      have := keyOf_v ez hy
      subst this
      refine ⟨_, DGet.k k1, ?_⟩
      cases e : getP kvs z with
      | none =>
        rw [(k2.get).2 e]
        rw [e] at h1
        exact h1 H1 sr1 _ .non
      | some d =>
        obtain ⟨u, eu, hu⟩ := (k2.get).1 d e
        rw [eu]
        rw [e] at h1
        exact h1 H1 sr1 _ hu
    · exact h1.elim
  · exact h.elim
end
end DA

/-! what the written terms want besides -/
namespace DA
open PySem PySem.Spec PyProof.Rows L2 XR
section
variable {X : Cx} {EX : Exs} {W : WX} {a b c e : Expr} {es : List Expr} {gl : En → Rs (List PyData)} {x : Str} {p pos apos xpos cpos spos : Pos} {ga gb gc : En → Rs PyData} {i k : Nat} {A : Around}
variable {So : Addr → Prop} {Bs : Hp} {τ : Pin} {μ : Mu} {σ : Sg} {H : Hp} {η : En}
theorem ru1 (r : Room k A) : A.units + 1 < cLine := by have := r.un; omega
theorem ru64 (r : Room k A) : A.units + 64 < cLine := by have := r.un; omega
theorem ru65 (r : Room k A) : A.units + 65 < cLine := by have := r.un; omega
theorem ru100 (r : Room k A) : A.units + 100 < cLine := by have := r.un; omega
theorem post_bind {α β : Type} {r : Rs α} {f : α → En → Rs β} {P : β → En → Mu → Hp → Prop} {Q : α → En → Mu → Hp → Prop} {K : PySem.W.Frag} (h : Post K So Bs τ σ EX W (r.bind f) P) (k : ∀ a η1, r = .ok a η1 → Post K So Bs τ σ EX W (f a η1) P → ∀ {μ : Mu} H, SR K So Bs τ μ σ H η1 → Q a η1 μ H) : Post K So Bs τ σ EX W r Q := by
  cases r with
  | no => exact h
  | ok a η1 => exact fun H sr => k a η1 rfl h H sr
  | ex n as η1 => exact h
theorem de_chain {op op' : CmpOp} {o o' : PyData → PyData → Option PyData} (ho : DO X (compareOp op) o) (ho' : DO X (compareOp op') o') (ha : DE X EX W a ga) (hb : DE X EX W b gb) (hc : DE X EX W c gc) (hm : lastMarks [op, op'] [b, c] = false := by with_unfolding_all rfl) :
    DE X EX W (.Compare a [op, op'] [b, c] pos) (eChain o o' ga gb gc) := by
  intro So Bs τ μ σ H η Q sr h
  refine ⟨_, pe_chain wo wo we we we hm, ?_⟩
  refine ha.seq sr h fun x η1 H1 v sr1 s1 hx h1 => hb.seq sr1 h1 fun {μ2} y η2 H2 u sr2 s2 hy h2 => ?_
  split at h2
  · next eo =>
    refine ho So (mx μ2 η2 H2) τ σ η2 H2 v u x y _ _ eo sr2.max (Dq.mono s2 _ _ hx) hy fun v3 H3 sr3' hv3 => ⟨true, dq_bl hv3, iteT ?_⟩
    have sr3 := sr2.back sr3'
    have hy3 := Dq.mono (SR.grown sr3') _ _ hy
    refine hc.seq sr3 h2 fun z η4 H4 w sr4 s4 hz h4 => ?_
    obtain ⟨z2, ez, hq⟩ := post_ofO h4
    exact ho' So Bs τ σ η4 H4 u w y z z2 Q ez sr4 (Dq.mono s4 _ _ hy3) hz fun v H' s r => hq H' s v r
  · next eo =>
    exact ho So Bs τ σ η2 H2 v u x y _ _ eo sr2 (Dq.mono s2 _ _ hx) hy fun v3 H3 sr3 hv3 => ⟨false, dq_bl hv3, iteF (h2 H3 sr3 _ (.bl _))⟩
  · exact h2.elim
theorem dt_chain {op op' : CmpOp} {o o' : PyData → PyData → Option PyData} (ho : DO X (compareOp op) o) (ho' : DO X (compareOp op') o') (ha : DE X EX W a ga) (hb : DE X EX W b gb) (hc : DE X EX W c gc) (hm : lastMarks [op, op'] [b, c] = false := by with_unfolding_all rfl) :
    DT X EX W (.Compare a [op, op'] [b, c] pos) (tOf (eChain o o' ga gb gc)) := by
  intro So Bs τ μ σ H η Q sr h
  refine ⟨_, pt_chain wo wo we we we hm, ?_⟩
  unfold tOf eChain at h
  have h' : Post X.K So Bs τ σ EX W ((ga η).bind fun x η1 => (gb η1).bind fun y η2 => (match o x y with
    | some (.bool true) => (gc η2).bind fun z η3 => ofO (o' y z) η3
    | some (.bool false) => .ok (.bool false) η2
    | _ => .no : Rs PyData).bind fun x η1 => ofO (asB x) η1) (fun b η' μ' H' => Q b H') := by
    cases hr : ga η with
    | no => rw [hr] at h; exact h
    | ex n as η1 => rw [hr] at h; exact h
    | ok x η1 =>
      rw [hr] at h
      simp only [Rs.bind] at h ⊢
      cases hr2 : gb η1 with
      | no => rw [hr2] at h; exact h
      | ex n as η2 => rw [hr2] at h; exact h
      | ok y η2 => rw [hr2] at h; exact h
  refine ha.seq sr h' fun x η1 H1 v sr1 s1 hx h1 => hb.seq sr1 h1 fun {μ2} y η2 H2 u sr2 s2 hy h2 => ?_
  split at h2
  · next eo =>
    refine ho So (mx μ2 η2 H2) τ σ η2 H2 v u x y _ _ eo sr2.max (Dq.mono s2 _ _ hx) hy fun v3 H3 sr3' hv3 => ⟨true, dq_bl hv3, iteT ?_⟩
    have sr3 := sr2.back sr3'
    have hy3 := Dq.mono (SR.grown sr3') _ _ hy
    have h2' : Post X.K So Bs τ σ EX W ((gc η2).bind fun z η3 => (ofO (o' y z) η3).bind fun x η1 => ofO (asB x) η1) (fun b η' μ' H' => Q b H') := by
      cases hr : gc η2 with
      | no => rw [hr] at h2; exact h2
      | ex n as η1 => rw [hr] at h2; exact h2
      | ok x η1 => rw [hr] at h2; exact h2
    refine hc.seq sr3 h2' fun z η4 H4 w sr4 s4 hz h4 => ?_
    cases ez : o' y z with
    | none => rw [ez] at h4; exact h4.elim
    | some z2 =>
      rw [ez] at h4
      obtain ⟨k, ek, hq⟩ := post_ofO h4
      have := as_bool ek
      subst this
      exact ho' So Bs τ σ η4 H4 u w y z _ _ ez sr4 (Dq.mono s4 _ _ hy3) hz fun v H' s r => ⟨k, dq_bl r, hq H' s⟩
  · next eo =>
    exact ho So Bs τ σ η2 H2 v u x y _ _ eo sr2 (Dq.mono s2 _ _ hx) hy fun v3 H3 sr3 hv3 => ⟨false, dq_bl hv3, iteF ⟨false, rfl, h2 H3 sr3⟩⟩
  · exact h2.elim
def eTp (gl : En → Rs (List PyData)) (η : En) : Rs PyData := (gl η).bind fun ds η1 => if ds.length ≤ sizeLine then .ok (.tuple ds) η1 else .no
theorem de_tp {x1} (hl : DL X EX W es gl) : DE X EX W (.Tuple es x1 pos) (eTp gl) := de_tup hl
def tNot (gt : En → Rs Bool) (η : En) : Rs Bool := (gt η).bind fun b η1 => .ok (!b) η1
theorem dt_nt {gt : En → Rs Bool} (ha : DT X EX W a gt) : DT X EX W (.UnaryOp .Not a pos) (tNot gt) := dt_not ha
/-- the truth of a list, a text, a number -/
theorem dt_tru (ha : DE X EX W a ga) (he : ∀ whole, isTrue a X.env whole = (do let v ← whole; standAt a.pos; holding [v] (truthy v)) := by intro _; rfl) : DT X EX W a (tTru ga) := by
  intro So Bs τ μ σ H η Q sr h
  refine ⟨_, pt_truth we he, ?_⟩
  refine ha.seq sr h fun x η1 H1 v sr1 s1 hx h1 => ?_
  obtain ⟨k, ek, hq⟩ := post_ofO h1
  refine ⟨k, ?_, hq H1 sr1⟩
  cases x with
  | none => cases ek; rw [dq_non hx]; rfl
  | bool b => cases ek; rw [dq_bl hx]; rfl
  | int b => cases ek; rw [dq_int hx]; rfl
  | str z =>
    unfold truD at ek
    simp only at ek
    split at ek
    · next hz =>
      cases ek
      rw [dq_str hx]
      refine ⟨hz, ?_⟩
      cases q : z.length with
      | zero => rfl
      | succ n => simp [bne]; omega
    · cases ek
  | list xs =>
    cases ek
    obtain ⟨l, vs, rfl, h1, h2⟩ := dq_lst hx
    refine .inl ⟨vs, SqL.of (same_vis _ _ h1), ?_⟩
    cases h2 <;> rfl
  | tuple xs =>
    cases ek
    obtain ⟨l, vs, rfl, h1, h2⟩ := dq_tup hx
    refine .inr (.inl ⟨vs, same_sqt same_vis h1, ?_⟩)
    cases h2 <;> rfl
  | dict kvs => cases ek
/-- a name of the module that is data -/
structure Gd (mg : Str → Option Value) (K : PySem.W.Frag) (x : Str) (d : PyData) : Prop where
  ex : ∃ v u, mg x = some u ∧ RelV v u ∧ ∀ H, Dq K H v d
theorem de_gl {d : PyData} (G : Gd X.mg X.K x d) (hg : Gl X x) (hdb : (x == ("__debug__" : Str)) = false := by decide) : DE X EX W (.Name x pos) (eC d) := by
  obtain ⟨v, u, h1, h2, h3⟩ := G.ex
  exact de_glob hg h1 h2 h3 hdb
/-- the built-in names that are not taken -/
def bltN : List Str := ["len", "range", "enumerate", "zip", "sorted", "sum", "all", "any", "int", "str", "list", "tuple", "set", "dict", "bool", "min", "max", "abs", "isinstance", "type", "reversed", "repr"]
/-- out of a def's reading: its rule -/
theorem Df.mk' {P : Program} {w : World} {K : PySem.W.Frag} {mg : Str → Option Value} {base : Heap} {qual : Str} {st : Stmt} {f : Addr} {fd : FuncData} {ps : List Str} {k n : Nat} {G : List Sl → Rs PyData} (F : Fun K x qual st f fd) (g : mg x = some (.ref f)) (b : Binds K fd ps []) (hn : ps.length = n) (ok : FnOk P w K mg base (L2.CX P w) k f fd ps (spG K EX n G)) : Df P w K mg base EX k x n G :=
  ⟨f, fd, ps, g, F.kp, b, hn, ok⟩
/-! ### written dicts of texts -/
theorem pairs_c {L : List (Str × Str)} {Q : List (V × V) → Hp → Prop} (h : Q (L.map fun p => (V.str p.1, V.str p.2)) H) : tPairs (L.map fun p => (tC (.str p.1), tC (.str p.2))) σ H Q := by
  induction L generalizing Q with
  | nil => exact h
  | cons p r ih => exact ih (Q := fun ps H => Q ((V.str p.1, V.str p.2) :: ps) H) h
def kvsS (L : List (Str × Str)) : List (Key × PyData) := L.foldl (fun acc p => putP acc (.inr p.1) (.str p.2)) []
def oDispS (i : Nat) (L : List (Str × Str)) (η : En) : Ot := .nx (η.set i (some (.k 0 (kvsS L))))
theorem kvs_merge {K : PySem.W.Frag} : ∀ (L : List (Str × Str)) (ws : List (Key × V)) (kvs : List (Key × PyData)), KvR K H ws kvs → KvR K H (mergeK ws (L.map fun p => (Sum.inr p.1, V.str p.2))) (L.foldl (fun acc p => putP acc (.inr p.1) (.str p.2)) kvs)
  | [], _, _, h => h
  | p :: r, ws, kvs, h => kvs_merge r _ _ (h.put (.str p.2))
theorem ds_dispS {L : List (Str × Str)} {keys : List (Option Expr)} {values : List Expr} (hL : L.length ≤ 15) (hp : PPs X cpos keys values (L.map fun p => (tC (.str p.1), tC (.str p.2)))) (hall : keys.all (·.isSome) = true) (hl : keys.length = values.length) (h0 : keys ≠ [])
    (h1 : ∀ {te : TE}, PE X (.Dict keys values cpos) te → PS X (.Assign [.Name x xpos] (.Dict keys values cpos) pos) (tAsg te (gName i)))
    (h2 : PE X (.Dict keys values cpos) (tDisp (L.map fun p => (tC (.str p.1), tC (.str p.2))))) : DS X EX W (.Assign [.Name x xpos] (.Dict keys values cpos) pos) (oDispS i L) := by
  intro So Bs τ μ σ H η D sr hq
  refine ⟨_, h1 h2, fun p hpn => pairs_c ?_⟩
  refine ⟨upd_same, L.map fun p => (Sum.inr p.1, V.str p.2), by rw [List.map_map]; rfl, by rw [List.length_map]; exact hL, ?_⟩
  rw [upd_upd]
  exact hq _ _ ((sr.hide (u := .dK (mergeK [] (L.map fun p => (Sum.inr p.1, V.str p.2)))) hpn).setO (s := .k 0 (kvsS L)) (sr.so_ne hpn) (sr.fresh hpn) sr.so rfl ⟨_, rfl, upd_same, kvs_merge L [] [] .nil, fun z => (z rfl).elim⟩)
end
end DA
namespace DA
open PySem PySem.Spec PyProof.Rows L2 XR
/-- of what is never told all holds -/
theorem fn_zero {P : Program} {w : World} {K : PySem.W.Frag} {mg : Str → Option Value} {base : Heap} {EX : Exs} {CX : CXT} {k n : Nat} {f : Addr} {fd : FuncData} {ps : List Str} (hp : ps.length = n) : FnOk P w K mg base CX k f fd ps (spG K EX n fun _ => .no) :=
  ⟨fun vs H Q E h => (by obtain ⟨_, _, _, _, _, h, _⟩ := h; rw [h, hp]), fun A outer s H args us vs Q E _ _ _ _ h => (by obtain ⟨_, _, _, _, _, _, _, _, _, h⟩ := h; exact h.elim)⟩
end DA

/-! regions: words that lead into them -/
namespace DA
open PySem PySem.Spec PyProof.Rows L2 XR
section
variable {K : PySem.W.Frag} {So So' : Addr → Prop} {Bs Bs' : Hp} {τ : Pin} {μ : Mu} {σ : Sg} {H H2 : Hp} {η η2 : En} {m : Nat → Addr} {cs : List Cel} {i n : Nat} {p : Addr}
mutual
theorem wdLt_mono {N M : Nat} (h : N ≤ M) : ∀ w : Wd, wdLt N w = true → wdLt M w = true
  | .d _, _ => rfl
  | .c _, z => decide_eq_true (Nat.lt_of_lt_of_le (of_decide_eq_true z) h)
  | .t ws, z => wdsLt_mono h ws z
theorem wdsLt_mono {N M : Nat} (h : N ≤ M) : ∀ ws : List Wd, wdsLt N ws = true → wdsLt M ws = true
  | [], _ => rfl
  | w :: ws, z => by
    have z' := Bool.and_eq_true_iff.mp z
    exact Bool.and_eq_true_iff.mpr ⟨wdLt_mono h w z'.1, wdsLt_mono h ws z'.2⟩
end
theorem WkR.mono {κ : Type} {Hv Hv' : Hp} {m m' : Nat → Addr} (s : Same Hv Hv') {N : Nat} (hm : ∀ n, n < N → m' n = m n) : ∀ {ws : List (κ × V)} {kvs : List (κ × Wd)}, (kvs.all fun p => wdLt N p.2) = true → WkR K Hv m ws kvs → WkR K Hv' m' ws kvs
  | _, _, _, .nil => .nil
  | _, _, h, .cons ⟨h1, h2⟩ t => by
    rw [List.all_cons, Bool.and_eq_true] at h
    exact .cons ⟨h1, WdR.mono s hm _ _ h.1 h2⟩ (WkR.mono s hm h.2 t)
theorem CelO.mono {Hv Hv' : Hp} {m m' : Nat → Addr} (s : Same Hv Hv') {N : Nat} (hm : ∀ n, n < N → m' n = m n) {o : HO} {c : Cel} (hc : celLt N c = true) (h : CelO K Hv m o c) : CelO K Hv' m' o c := by
  cases c with
  | l ws => obtain ⟨vs, e, h⟩ := h; exact ⟨vs, e, WdAll.mono s hm _ _ hc h⟩
  | k ws => obtain ⟨vs, e, h⟩ := h; exact ⟨vs, e, WkR.mono s hm hc h⟩
  | i C ws => obtain ⟨dx, vs, e, h, r⟩ := h; exact ⟨dx, vs, e, WkR.mono s hm hc h, r⟩
/-- where the cells lie with one more -/
def mext (m : Nat → Addr) (N : Nat) (p : Addr) : Nat → Addr := fun n => if n = N then p else m n
theorem mext_at {N : Nat} : mext m N p N = p := if_pos rfl
theorem mext_lt {N : Nat} : ∀ n, n < N → mext m N p n = m n := fun n h => if_neg (by omega)
theorem CelO.mut {Hv : Hp} {o : HO} {c : Cel} (h : CelO K Hv m o c) : mutO o = true := by
  cases c with
  | l ws => obtain ⟨vs, rfl, _⟩ := h; rfl
  | k ws => obtain ⟨vs, rfl, _⟩ := h; rfl
  | i C ws => obtain ⟨dx, vs, rfl, _⟩ := h; rfl
/-- a region in the making: hidden cells -/
structure Hid (K : PySem.W.Frag) (So : Addr → Prop) (Bs : Hp) (τ : Pin) (μ : Mu) (σ : Sg) (H : Hp) (η : En) (m : Nat → Addr) (cs : List Cel) (So' : Addr → Prop) (Bs' : Hp) : Prop where
  sr : SR K So' Bs' τ μ σ H η
  sub : ∀ a, So a → So' a
  only : ∀ a, So' a → So a ∨ ∃ k, k < cs.length ∧ m k = a
  hid : ∀ k, k < cs.length → So' (m k)
  no : ∀ k, k < cs.length → ¬ So (m k)
  inj : ∀ k l, k < cs.length → l < cs.length → m k = m l → k = l
  bs : ∀ a u, Bs a = some u → Bs' a = some u
  bn : ∀ k, k < cs.length → Bs (m k) = none
  so : ∀ a, So a → ∃ u, Bs a = some u ∧ mutO u = true
  cell : ∀ (n : Nat) (c : Cel), cs[n]? = some c → ∃ o, Bs' (m n) = some o ∧ CelO K (vis So' μ η H) m o c
  lt : ∀ (n : Nat) (c : Cel), cs[n]? = some c → celLt cs.length c = true
theorem Hid.init (r : SR K So Bs τ μ σ H η) : Hid K So Bs τ μ σ H η m [] So Bs :=
  ⟨r, fun _ h => h, fun _ h => .inl h, fun k h => absurd h (Nat.not_lt_zero _), fun k h => absurd h (Nat.not_lt_zero _), fun k l h => absurd h (Nat.not_lt_zero _), fun _ _ h => h, fun k h => absurd h (Nat.not_lt_zero _), r.so, fun n c e => (by cases e), fun n c e => (by cases e)⟩
/-- a hidden cell as it stands -/
theorem Hid.at (h : Hid K So Bs τ μ σ H η m cs So' Bs') {c : Cel} (e : cs[n]? = some c) : ∃ o, H (m n) = some o ∧ CelO K (vis So' μ η H) m o c := by
  obtain ⟨o, e1, e2⟩ := h.cell n c e
  exact ⟨o, (h.sr.base _ _ e1).1, e2⟩
/-- the state went on beside it -/
theorem Hid.on {μ2 : Mu} {σ2 : Sg} (h : Hid K So Bs τ μ σ H η m cs So' Bs') (r : SR K So' (mx μ η H) τ μ2 σ2 H2 η2) : Hid K So Bs τ μ2 σ2 H2 η2 m cs So' Bs' :=
  ⟨h.sr.backS r, h.sub, h.only, h.hid, h.no, h.inj, h.bs, h.bn, h.so, fun n c e => by
    obtain ⟨o, e1, e2⟩ := h.cell n c e
    exact ⟨o, e1, e2.same (SR.grown r)⟩, h.lt⟩
theorem celLt_mono {N M : Nat} (h : N ≤ M) {c : Cel} (hc : celLt N c = true) : celLt M c = true := by
  cases c with
  | l ws => exact wdsLt_mono h ws hc
  | k kvs => exact List.all_eq_true.mpr fun p hp => wdLt_mono h _ (List.all_eq_true.mp hc p hp)
  | i C fs => exact List.all_eq_true.mpr fun p hp => wdLt_mono h _ (List.all_eq_true.mp hc p hp)
/-- a new cell -/
theorem Hid.new (h : Hid K So Bs τ μ σ H η m cs So' Bs') (hp : H p = none) {u : HO} {c : Cel} (hc : CelO K (vis So' μ η H) m u c) (hl : celLt cs.length c = true) :
    Hid K So Bs τ μ σ (upd H p u) η (mext m cs.length p) (cs ++ [c]) (plus So' p) (upd Bs' p u) := by
  have np : ∀ k, k < cs.length → m k ≠ p := fun k hk e => by
    obtain ⟨c, hc⟩ : ∃ c, cs[k]? = some c := ⟨_, List.getElem?_eq_getElem hk⟩
    obtain ⟨o, e1, _⟩ := h.at hc
    rw [e, hp] at e1
    cases e1
  have hso : ¬ So p := fun z => h.sr.so_ne hp (h.sub p z)
  have sm : Same (vis So' μ η H) (vis (plus So' p) μ η (upd H p u)) := vis_same fun a w h1 h2 h3 => ⟨(upd_ne (ne_of_none h1 hp)).trans h1, h2, fun z => z.elim h3 (ne_of_none h1 hp)⟩
  have len : (cs ++ [c]).length = cs.length + 1 := by rw [List.length_append]; rfl
  have cases' : ∀ k, k < (cs ++ [c]).length → k < cs.length ∨ k = cs.length := fun k hk => by rw [len] at hk; omega
  have bp : Bs' p = none := h.sr.fresh hp
  have bpp : Bs p = none := by
    cases e : Bs p with
    | none => rfl
    | some w => rw [h.bs p w e] at bp; cases bp
  refine ⟨h.sr.hide hp hc.mut, fun a z => .inl (h.sub a z), fun a z => ?_, fun k hk => ?_, fun k hk => ?_, fun k l hk hl e => ?_, fun a w e => ?_, fun k hk => ?_, h.so, fun n d e => ?_, fun n d e => ?_⟩
  · rcases z with z | z
    · rcases h.only a z with z | ⟨k, hk, e⟩
      · exact .inl z
      · exact .inr ⟨k, by omega, by rw [mext_lt k hk]; exact e⟩
    · exact .inr ⟨cs.length, by omega, by rw [mext_at]; exact z.symm⟩
  · rcases cases' k hk with hk | rfl
    · rw [mext_lt k hk]
      exact .inl (h.hid k hk)
    · rw [mext_at]
      exact .inr rfl
  · rcases cases' k hk with hk | rfl
    · rw [mext_lt k hk]
      exact h.no k hk
    · rw [mext_at]
      exact hso
  · rcases cases' k hk with hk | rfl
    · rw [mext_lt k hk] at e
      rcases cases' l hl with hl | rfl
      · rw [mext_lt l hl] at e
        exact h.inj k l hk hl e
      · rw [mext_at] at e
        exact (np k hk e).elim
    · rw [mext_at] at e
      rcases cases' l hl with hl | rfl
      · rw [mext_lt l hl] at e
        exact (np l hl e.symm).elim
      · rfl
  · rw [upd_ne (ne_of_none e bpp)]
    exact h.bs a w e
  · rcases cases' k hk with hk | rfl
    · rw [mext_lt k hk]
      exact h.bn k hk
    · rw [mext_at]
      exact bpp
  · rcases Nat.lt_or_ge n cs.length with hn | hn
    · rw [List.getElem?_append_left hn] at e
      obtain ⟨o, e1, e2⟩ := h.cell n d e
      refine ⟨o, by rw [mext_lt n hn, upd_ne (np n hn)]; exact e1, e2.mono sm mext_lt (h.lt n d e)⟩
    · rw [List.getElem?_append_right hn] at e
      have hn0 : n - cs.length = 0 := by
        have := (List.getElem?_eq_some_iff.mp e).1
        simp at this
        omega
      rw [hn0] at e
      cases e
      have : n = cs.length := by omega
      subst this
      exact ⟨u, by rw [mext_at, upd_same], hc.mono sm mext_lt hl⟩
  · rcases Nat.lt_or_ge n cs.length with hn | hn
    · rw [List.getElem?_append_left hn] at e
      exact celLt_mono (by omega) (h.lt n d e)
    · rw [List.getElem?_append_right hn] at e
      have hn0 : n - cs.length = 0 := by
        have := (List.getElem?_eq_some_iff.mp e).1
        simp at this
        omega
      rw [hn0] at e
      cases e
      exact celLt_mono (by omega) hl
/-- a hidden cell is written -/
theorem Hid.set (h : Hid K So Bs τ μ σ H η m cs So' Bs') (hn : n < cs.length) {u : HO} {c : Cel} (hc : CelO K (vis So' μ η H) m u c) (hl : celLt cs.length c = true) :
    Hid K So Bs τ μ σ (upd H (m n) u) η m (cs.set n c) So' (upd Bs' (m n) u) := by
  obtain ⟨c0, e0⟩ : ∃ c, cs[n]? = some c := ⟨_, List.getElem?_eq_getElem hn⟩
  obtain ⟨o0, b0, _⟩ := h.cell n c0 e0
  have now : ¬ Ow μ η (m n) := (h.sr.base _ _ b0).2
  have len : (cs.set n c).length = cs.length := List.length_set
  have sm : Same (vis So' μ η H) (vis So' μ η (upd H (m n) u)) := vis_same fun a w h1 h2 h3 => ⟨(upd_ne fun e => h3 (by rw [e]; exact h.hid n hn)).trans h1, h2, h3⟩
  have sr : SR K So' (upd Bs' (m n) u) τ μ σ (upd H (m n) u) η := by
    refine ⟨h.sr.len, fun i s e => ?_, h.sr.inj, fun a w e => ?_, fun a z => ?_⟩
    · obtain ⟨v, ev, hs⟩ := h.sr.sl i s e
      exact ⟨v, ev, hs.mono sm fun k w hk hw => (upd_ne fun z => now ⟨i, s, k, e, hk, z⟩).trans hw⟩
    · by_cases z : a = m n
      · subst z
        rw [upd_same] at e
        cases e
        exact ⟨upd_same, now⟩
      · rw [upd_ne z] at e
        obtain ⟨k1, k2⟩ := h.sr.base a w e
        exact ⟨(upd_ne z).trans k1, k2⟩
    · by_cases y : a = m n
      · exact ⟨u, by rw [y, upd_same], hc.mut⟩
      · obtain ⟨w, hw, hm⟩ := h.sr.so a z
        exact ⟨w, by rw [upd_ne y]; exact hw, hm⟩
  refine ⟨sr, h.sub, fun a z => by rw [len]; exact h.only a z, fun k hk => h.hid k (by rw [← len]; exact hk), fun k hk => h.no k (by rw [← len]; exact hk), fun k l hk hl => h.inj k l (by rw [← len]; exact hk) (by rw [← len]; exact hl), fun a w e => ?_, fun k hk => h.bn k (by rw [← len]; exact hk), h.so, fun k d e => ?_, fun k d e => ?_⟩
  · have : a ≠ m n := fun z => by
      have := h.bn n hn
      rw [← z, e] at this
      cases this
    rw [upd_ne this]
    exact h.bs a w e
  · rcases set_get e with ⟨rfl, rfl, _⟩ | ⟨ne, e2⟩
    · exact ⟨u, upd_same, hc.same sm⟩
    · obtain ⟨o, e3, e4⟩ := h.cell k d e2
      have hk : k < cs.length := (List.getElem?_eq_some_iff.mp e2).1
      exact ⟨o, by rw [upd_ne fun z => ne (h.inj k n hk hn z)]; exact e3, e4.same sm⟩
  · rw [len]
    rcases set_get e with ⟨rfl, rfl, _⟩ | ⟨ne, e2⟩
    · exact hl
    · exact h.lt k d e2
/-- it lands in a slot -/
theorem Hid.land (h : Hid K So Bs τ μ σ H η m cs So' Bs') {root : Nat} (hr : root < cs.length) : SR K So Bs τ (mset μ i m) (σ.set i (some (.ref (m root)))) H (η.set i (some (.r 0 root cs))) :=
  h.sr.setG (s := .r 0 root cs) h.sub h.only h.hid h.no h.inj h.bs h.bn h.so ⟨⟨rfl, hr⟩, fun n c e => ⟨h.lt n c e, h.at e⟩, fun z => (z rfl).elim⟩
/-- cells of slot i -/
def Ci (μ : Mu) (i : Nat) (cs : List Cel) (a : Addr) : Prop := ∃ n, n < cs.length ∧ μ i n = a
open Classical in
noncomputable def BsC (Bs : Hp) (μ : Mu) (i : Nat) (cs : List Cel) (H : Hp) : Hp := fun a => if Ci μ i cs a then H a else Bs a
/-- a slot's region set aside: its cells stand as they are -/
theorem SR.aside (r : SR K So Bs τ μ σ H η) {t root : Nat} (e : η[i]? = some (some (.r t root cs))) :
    SR K (fun a => So a ∨ Ci μ i cs a) (BsC Bs μ i cs H) τ μ σ H (η.set i none) ∧ Same (vis So μ η H) (vis (fun a => So a ∨ Ci μ i cs a) μ (η.set i none) H) := by
  have ow : ∀ a, Ow μ (η.set i none) a → Ow μ η a ∧ ¬ Ci μ i cs a := by
    rintro a ⟨j, s, k, e1, hk, ea⟩
    rcases set_get e1 with ⟨_, y, _⟩ | ⟨ne, e2⟩
    · cases y
    · refine ⟨⟨j, s, k, e2, hk, ea⟩, fun ⟨n, hn, en⟩ => ne ?_⟩
      exact (r.inj j i s _ k n e2 e hk hn (ea.trans en.symm)).1
  have ci : ∀ a, Ci μ i cs a → Ow μ η a := fun a ⟨n, hn, en⟩ => ⟨i, _, n, e, hn, en⟩
  have hs : Same (vis So μ η H) (vis (fun a => So a ∨ Ci μ i cs a) μ (η.set i none) H) := vis_same fun a w h1 h2 h3 => ⟨h1, fun z => h2 (ow a z).1, fun z => z.elim h3 fun z => h2 (ci a z)⟩
  refine ⟨⟨by rw [List.length_set]; exact r.len, fun j s e1 => ?_, fun j k s t l q g1 g2 g3 g4 g5 => ?_, fun a w h => ?_, fun a z => ?_⟩, hs⟩
  · rcases set_get e1 with ⟨_, y, _⟩ | ⟨ne, e2⟩
    · cases y
    · obtain ⟨v, ev, h1⟩ := r.sl j s e2
      exact ⟨v, ev, h1.mono hs fun _ _ _ h => h⟩
  · rcases set_get g1 with ⟨_, y, _⟩ | ⟨_, e2⟩
    · cases y
    rcases set_get g2 with ⟨_, y, _⟩ | ⟨_, e3⟩
    · cases y
    exact r.inj j k s t l q e2 e3 g3 g4 g5
  · unfold BsC at h
    split at h
    · next hc => exact ⟨h, fun z => (ow a z).2 hc⟩
    · obtain ⟨h1, h2⟩ := r.base a w h
      exact ⟨h1, fun z => h2 (ow a z).1⟩
  · unfold BsC
    by_cases hc : Ci μ i cs a
    · rw [if_pos hc]
      exact r.ow (ci a hc)
    · rw [if_neg hc]
      exact r.so a (z.resolve_right hc)
/-- and taken back -/
theorem SR.takeBack {μ2 : Mu} (r : SR K So Bs τ μ σ H η) {t root : Nat} (e : η[i]? = some (some (.r t root cs))) (r2 : SR K (fun a => So a ∨ Ci μ i cs a) (mx μ (η.set i none) H) τ μ2 σ H2 η2) (e2 : η2[i]? = some none) :
    SR K So Bs τ (mset μ2 i (μ i)) σ H2 (η2.set i (some (.r t root cs))) ∧ Same (vis So μ η H) (vis So (mset μ2 i (μ i)) (η2.set i (some (.r t root cs))) H2) ∧ Same (vis (fun a => So a ∨ Ci μ i cs a) μ2 η2 H2) (vis So (mset μ2 i (μ i)) (η2.set i (some (.r t root cs))) H2) := by
  obtain ⟨r1, s1⟩ := r.aside e
  have hi : i < η2.length := (List.getElem?_eq_some_iff.mp e2).1
  have ci1 : ∀ a, Ci μ i cs a → ∃ o, H a = some o ∧ H2 a = some o ∧ ¬ Ow μ2 η2 a := fun a hc => by
    obtain ⟨o, ho, _⟩ := r.ow ⟨i, _, hc.choose, e, hc.choose_spec.1, hc.choose_spec.2⟩
    have b : mx μ (η.set i none) H a = some o := mx_iff.mpr ⟨ho, (r1.so_H (.inr hc)).2⟩
    exact ⟨o, ho, r2.base a o b⟩
  have grow := SR.grown r2
  have own' : ∀ {j : Nat} {s : Sl}, (η2.set i (some (.r t root cs)))[j]? = some (some s) → (j = i ∧ s = .r t root cs) ∨ (j ≠ i ∧ η2[j]? = some (some s)) := fun {j s} e => by
    rcases set_get e with ⟨h1, h2, _⟩ | h
    · cases h2
      exact .inl ⟨h1, rfl⟩
    · exact .inr h
  have ow : ∀ a, Ow (mset μ2 i (μ i)) (η2.set i (some (.r t root cs))) a → Ow μ2 η2 a ∨ Ci μ i cs a := by
    rintro a ⟨j, s, k, e1, hk, ea⟩
    rcases own' e1 with ⟨rfl, rfl⟩ | ⟨ne, e3⟩
    · rw [mset_at] at ea
      exact .inr ⟨k, hk, ea⟩
    · rw [mset_ne ne] at ea
      exact .inl ⟨j, s, k, e3, hk, ea⟩
  have hs2 : Same (vis (fun a => So a ∨ Ci μ i cs a) μ2 η2 H2) (vis So (mset μ2 i (μ i)) (η2.set i (some (.r t root cs))) H2) := vis_same fun a w h1 h2 h3 =>
    ⟨h1, fun z => (ow a z).elim h2 fun z => h3 (.inr z), fun z => h3 (.inl z)⟩
  have hs : Same (vis So μ η H) (vis So (mset μ2 i (μ i)) (η2.set i (some (.r t root cs))) H2) := (s1.trans grow).trans hs2
  refine ⟨⟨by rw [List.length_set]; exact r2.len, fun j s e1 => ?_, fun j k s t' l q g1 g2 g3 g4 g5 => ?_, fun a w h => ?_, r.so⟩, hs, hs2⟩
  · rcases own' e1 with ⟨rfl, rfl⟩ | ⟨ne, e3⟩
    · obtain ⟨v, ev, h0⟩ := r.sl j _ e
      refine ⟨v, ev, ?_⟩
      rw [mset_at]
      refine h0.mono hs fun n w hn hw => ?_
      obtain ⟨o, h1, h2, _⟩ := ci1 (μ j n) ⟨n, hn, rfl⟩
      rw [h1] at hw
      cases hw
      exact h2
    · obtain ⟨v, ev, h0⟩ := r2.sl j s e3
      refine ⟨v, ev, ?_⟩
      rw [mset_ne ne]
      exact h0.mono hs2 fun _ _ _ h => h
  · rcases own' g1 with ⟨rfl, rfl⟩ | ⟨n1, e1⟩
    · rw [mset_at] at g5
      rcases own' g2 with ⟨rfl, rfl⟩ | ⟨n2, e3⟩
      · rw [mset_at] at g5
        exact r.inj _ _ _ _ l q e e g3 g4 g5
      · rw [mset_ne n2] at g5
        exact ((ci1 _ ⟨l, g3, rfl⟩).choose_spec.2.2 ⟨k, t', q, e3, g4, g5.symm⟩).elim
    · rw [mset_ne n1] at g5
      rcases own' g2 with ⟨rfl, rfl⟩ | ⟨n2, e3⟩
      · rw [mset_at] at g5
        exact ((ci1 _ ⟨q, g4, rfl⟩).choose_spec.2.2 ⟨j, s, l, e1, g3, g5⟩).elim
      · rw [mset_ne n2] at g5
        exact r2.inj j k s t' l q e1 e3 g3 g4 g5
  · obtain ⟨h1, h2⟩ := r.base a w h
    have nc : ¬ Ci μ i cs a := fun ⟨n, hn, en⟩ => h2 ⟨i, _, n, e, hn, en⟩
    have now : ¬ Ow μ (η.set i none) a := fun ⟨j, s, k, e1, hk, ea⟩ => by
      rcases set_get e1 with ⟨_, y, _⟩ | ⟨ne, e3⟩
      · cases y
      · exact h2 ⟨j, s, k, e3, hk, ea⟩
    obtain ⟨k1, k2⟩ := r2.base a w (mx_iff.mpr ⟨h1, now⟩)
    exact ⟨k1, fun z => (ow a z).elim k2 nc⟩
end
end DA

/-! repr of data -/
namespace XR
open PySem PySem.Spec PyProof.Rows L2
/-- repr(x), x a list or a tuple of data -/
def rReprR (K : PySem.W.Frag) : List V → Hp → VK → Prop := fun vs H Q => ∃ (a : Addr) (d : PyData), vs = [.ref a] ∧ Dp K H (.ref a) d ∧ d.showable = true ∧ d.hasDict = false ∧ d.depth ≤ 64 ∧ d.shown.length ≤ sizeLine ∧ Q (.str d.shown) H
theorem cr_reprR {X : Cx} (hu : X.A.units + 100 < cLine) (hg : X.A.guards = some []) : CallR X (.builtin "repr") (rReprR X.K) := by
  intro pins s σ H vs us Q I r h
  obtain ⟨a, d, rfl, hd, hs, hn, hdep, hz, q⟩ := h
  obtain ⟨u, rfl, ru⟩ := vals1 r
  obtain rfl : u = Value.ref a := ru
  obtain ⟨as, rd⟩ := Dp.reads I d _ _ hd rfl
  refine repr_of_reads' (prog := X.prog) (w := X.w) rd hs (fun e => by rw [hn] at e; cases e) hg (by omega) (fun _ _ e => e) (fun h' u tk hk => ?_) hz
  exact ⟨.str d.shown, H, I.kept hk, ⟨_, rfl⟩, q⟩
end XR

/-! an exception out of a comprehension's element -/
namespace XR
open PySem PySem.Spec PyProof.Rows L2
section
variable {B B' h : Heap} {l : List Env} {a L : Addr} {Z : Obj → Prop} {fl : Value}
theorem none_less (k : ∀ b o, B'.get? b = some o → B.get? b = some o) {b : Addr} (e : B.get? b = none) : B'.get? b = none := by
  cases q : B'.get? b with
  | none => rfl
  | some o =>
    have z := k b o q
    rw [e] at z
    cases z
theorem frames_less (k : ∀ b o, B'.get? b = some o → B.get? b = some o) : ∀ {l : List Env}, h.FunFrames B l → h.FunFrames B' l
  | [], _ => trivial
  | env :: l, x => by
    obtain ⟨hk, ⟨L, o, hf, hn, ho, hd⟩, hr⟩ := x
    exact ⟨hk, ⟨L, o, hf, none_less k hn, ho, hd⟩, frames_less k hr⟩
theorem traced_less (k : ∀ b o, B'.get? b = some o → B.get? b = some o) (x : HandSPX.TracedZ h B a Z fl) : HandSPX.TracedZ h B' a Z fl := by
  obtain ⟨oe, vs, T, oT, ts, x1, x2, x3, x4, x5, r⟩ := x
  exact ⟨oe, vs, T, oT, ts, x1, x2, x3, x4, none_less k x5, r⟩
theorem flying_less (k : ∀ b o, B'.get? b = some o → B.get? b = some o) (x : HandSPX.FlyingZ B l a Z h) : HandSPX.FlyingZ B' l a Z h :=
  ⟨fun b o e => x.1 b o (k b o e), none_less k x.2.1, frames_less k x.2.2.1, traced_less k x.2.2.2⟩
theorem held_less (k : ∀ b o, B'.get? b = some o → B.get? b = some o) (x : HandSPX.HeldZ B l a Z L h) : HandSPX.HeldZ B' l a Z L h :=
  ⟨fun b o e => x.1 b o (k b o e), none_less k x.2.1, frames_less k x.2.2.1, traced_less k x.2.2.2⟩
/-- the block's own dict is let go -/
theorem held_but {C : Addr} {h2 : Heap} {m m2 : Str → Option Value} (hB : B.get? C = none) (hn : h.Ns C m) (hn2 : h2.Ns C m2) (hs : Heap.SameBut C h h2) (x : HandSPX.HeldZ B l a Z L h) : HandSPX.HeldZ B l a Z L h2 := by
  obtain ⟨b1, b0, f1, oe, vs, T, oT, ts, he, hz, hd, h1, hT0, hTe, hT, hdT, h3⟩ := x
  obtain ⟨oC, es, ep, hoC, hdC, _⟩ := hn
  have ne : ∀ b o, h.get? b = some o → (∃ vs, o.data = .fields vs) → b ≠ C := fun b o e ⟨vs, z⟩ q => by
    rw [q, hoC] at e
    cases e
    rw [hdC] at z
    cases z
  refine ⟨fun b o e => (hs.2 b fun q => by rw [q, hB] at e; cases e).trans (b1 b o e), b0, Heap.FunFrames.sameBut hs hn2 f1, oe, vs, T, oT, ts, (hs.2 a (ne a oe he ⟨_, hd⟩)).trans he, hz, hd, h1, hT0, hTe, (hs.2 T (ne T oT hT ⟨_, hdT⟩)).trans hT, hdT, h3⟩
/-- noted by the def's frame: new, or in flight -/
theorem air_held {M : Model} {A : Around} {E₁ : Value → Shared → Prop} {env cenv : Env} {outer : List Env} {s : Shared} {Q : Unit → Shared → Prop} (hZ : HandSPX.Steady Z) (hfr : A.frames = some (env :: outer)) (hf : env.frame = some L) (hce : cenv.frame = env.frame)
    (x : (B.StaysIn s.heap ∧ B.get? a = none ∧ s.heap.FunFrames B (env :: outer) ∧ ∃ oe vs, s.heap.get? a = some oe ∧ Z oe ∧ oe.data = .fields vs ∧ vs[1]? = some .none) ∨ HandSPX.FlyingZ B (env :: outer) a Z s.heap)
    (hQ : ∀ h', HandSPX.HeldZ B (env :: outer) a Z L h' → s.heap.UpToSlots h' → Q () { s with heap := h' }) : wpAny M A (noteFrame (.ref a) cenv) Q E₁ s := by
  rw [noteFrame_env _ hce]
  rcases x with ⟨hB, hn, hl, oe, vs, he, hz, hd, h1⟩ | fl
  · exact HandSPX.look_newZ hZ hfr hl hf he hB hn hd h1 hz hQ
  · exact HandSPX.looks_onZ hZ hfr hf fl hQ
/-- noted by the frame L, held till now by another -/
theorem looks_far {M : Model} {A : Around} {E₁ : Value → Shared → Prop} {env : Env} {outer : List Env} {s : Shared} {Q : Unit → Shared → Prop} (hZ : HandSPX.Steady Z) (hfr : A.frames = some (env :: outer)) (hf : env.frame = some L) (far : (fl == rawInt L) = false)
    (st : B.StaysIn s.heap) (b0 : B.get? a = none) (ff : s.heap.FunFrames B (env :: outer)) (tr : HandSPX.TracedZ s.heap B a Z fl)
    (hQ : ∀ h', HandSPX.HeldZ B (env :: outer) a Z L h' → s.heap.UpToSlots h' → Q () { s with heap := h' }) : wpAny M A (noteFrame (.ref a) env) Q E₁ s := by
  obtain ⟨oe, vs, T, oT, ts, ga, za, da, v1, nT, Ta, gT, dT, v3⟩ := tr
  unfold noteFrame
  simp only [hf]
  refine wpAny_bind (wpAny_field ga da v1 ?_)
  have e1 : (Value.ref T != Value.none) = true := by simp
  rw [e1, if_pos rfl]
  refine wpAny_bind (wpAny_field gT dT v3 ?_)
  rw [far, if_neg (by simp)]
  have u3 : 3 < ts.size := (Array.getElem?_eq_some_iff.mp v3).1
  have u1 : 1 < vs.size := (Array.getElem?_eq_some_iff.mp v1).1
  refine wpAny_bind (wpAny_setField gT dT u3 ?_)
  have g : ∀ b, b ≠ T → (s.heap.update T (Obj.mapFields (·.setIfInBounds 3 Value.none))).get? b = s.heap.get? b := fun b hb => Heap.get?_update_other _ _ (Ne.symm hb)
  have nr : ∀ b o, s.heap.get? b = some o → (∀ vs, o.data ≠ .fields vs) → b ≠ T := fun b o hb hn q => by
    rw [q, gT] at hb
    cases hb
    exact hn ts dT
  have ff' := ff.of_keeps (h' := s.heap.update T (Obj.mapFields (·.setIfInBounds 3 Value.none))) fun b o hb hn => ⟨o, (g b (nr b o hb hn)).trans hb, rfl⟩
  have st' : B.StaysIn (s.heap.update T (Obj.mapFields (·.setIfInBounds 3 Value.none))) := fun b o hb => (g b fun q => by rw [q, nT] at hb; cases hb).trans (st b o hb)
  refine HandSPX.wpAny_entryZ hZ hfr ff' hf ((g a (Ne.symm Ta)).trans ga) st' b0 da u1 za fun h' ⟨y1, y2, y3, y4⟩ => ?_
  exact hQ h' ⟨y1, b0, y2, y3⟩ fun b o hb hn => y4 b o ((g b (nr b o hb hn)).trans hb) hn
/-- whatever is in the air of a block (noted at C at most), noted by the def's frame -/
theorem sky_held {M : Model} {A : Around} {E₁ : Value → Shared → Prop} {env cenv : Env} {outer : List Env} {s : Shared} {Q : Unit → Shared → Prop} {C : Addr} (hZ : HandSPX.Steady Z) (hfr : A.frames = some (env :: outer)) (hf : env.frame = some L) (hce : cenv.frame = env.frame) (hC : C ≠ L)
    (x : Sky B (env :: outer) a Z C s.heap) (hQ : ∀ h', HandSPX.HeldZ B (env :: outer) a Z L h' → s.heap.UpToSlots h' → Q () { s with heap := h' }) : wpAny M A (noteFrame (.ref a) cenv) Q E₁ s := by
  rcases x with x | x | x
  · exact air_held hZ hfr hf hce (.inl x) hQ
  · exact air_held hZ hfr hf hce (.inr x) hQ
  · obtain ⟨b1, b0, ff, tr⟩ := x
    rw [noteFrame_env _ hce]
    refine looks_far hZ hfr hf ?_ b1 b0 ff tr hQ
    simp only [rawInt, beq_eq_false_iff_ne, ne_eq, Value.int.injEq, and_true]
    intro e
    exact hC (Int.ofNat.inj e)
/-- and out of it: passed on, held by the def's frame -/
theorem pass_held {α : Type} {M : Model} {A : Around} {E : Value → Shared → Prop} {cenv : Env} {s : Shared} {Q : α → Shared → Prop} {what : String} (hf : cenv.frame = some L) (x : HandSPX.HeldZ B l a Z L s.heap)
    (hQ : ∀ h', HandSPX.HeldZ B l a Z L h' → s.heap.UpToSlots h' → E (.ref a) { s with heap := h' }) : wpAny M A (PySem.passOn what (.ref a) cenv : Sem α) Q E s := by
  have y := x
  obtain ⟨_, _, _, oe, vs, T, oT, ts, he, hz, hd, h1, r⟩ := x
  unfold PySem.passOn
  refine wpAny_bind (wpAny_field he hd h1 ?_)
  rw [if_neg (show ¬ ((Value.ref T == Value.none) = true) from by simp)]
  rw [hf]
  exact wpAny_bind (HandSPX.setFlight_onZ y fun h' z up => wpAny_throw (hQ h' z up))
end
end XR

/-! a comprehension whose element may raise -/
namespace XR
open PySem PySem.Spec PyProof.Rows L2
/-- the wish of an exception, whatever the slots -/
abbrev wxE (E : XK) : WX := fun c d _ H => E c d H
theorem inv_xe {X : Cx} {pins : List (Addr × Obj)} {σ : L2.St} {H : Hp} {s : Shared} (z : Value → Shared → Prop) (I : Inv X pins σ H s) : Inv { X with xe := z } pins σ H s :=
  ⟨⟨I.ok.mod, I.ok.kind, I.ok.glob, I.ok.blt, I.ok.above, I.ok.inj, I.ok.has, I.ok.cab, I.ok.hd, I.ok.frames, I.ok.stk, I.ok.exf, I.ok.bs, I.ok.bsz, I.ok.noex, I.ok.exfs, I.ok.funs, I.ok.frf⟩, I.os, I.bare, I.base, I.loc, I.cell, I.free, I.freeC, I.pin, I.hok, I.len⟩
/-- the context of a block, exceptions in its air told by E -/
abbrev blkE (X : Cx) (E : XK) (s : Shared) (H : Hp) (scope : Scope) (cenv : Env) (fp : List Addr) : Cx := { X.blk s H scope cenv fp with xe := XE (X.blk s H scope cenv fp) (wxE E) }
theorem takesB {X : Cx} {E : XK} {s : Shared} {H : Hp} {scope : Scope} {cenv : Env} {fp : List Addr} : Takes (blkE X E s H scope cenv fp) (wxE E) := fun u s' ⟨a, B, sI, pins, σ, H1, cls, d, e, I, r⟩ =>
  ⟨a, B, sI, pins, σ, H1, cls, d, e, inv_xe (fun _ _ => False) I, r⟩
section
variable {X : Cx} {pins : List (Addr × Obj)} {σ : L2.St} {H : Hp} {s : Shared}
/-- out of the block: noted by the def's frame, its names let go, on in the def's own air -/
theorem block_out {E : XK} {H3 : Hp} {s3 s' : Shared} {scope : Scope} {ce : Env} {fp : List Addr} {u : Value} {use : Option (Value → Sem Unit)} {Qf : Value → Shared → Prop} {acc : Value}
    (tk : Takes X (wxE E)) (hst : X.stack = X.env :: X.outer) (hfr : X.env.frame = some X.env.locals) (hce : ce.frame = X.env.frame) (hC : FpOk X pins H3 ce.locals) (I3 : Inv X pins σ H3 s3)
    (f3 : ∀ b ∈ fp, FpOk X pins H3 b) (x : XE (X.blk s3 H3 scope ce fp) (wxE E) u s') : notedBy (model X.prog X.w) X.A ce (fun e s' => compEnds (model X.prog X.w) X.A X.xe use Qf acc ce (.error e) s') u s' := by
  obtain ⟨a, B, sI, pins', σ', H', cls, d, rfl, I, nb, up, sky, na, os, ag, hw⟩ := x
  have Xs : (X.blk s3 H3 scope ce fp).stack = X.env :: X.outer := hst
  rw [Xs] at sky
  show wpAny _ _ (noteFrame (.ref a) ce) _ _ s'
  have hne : ce.locals ≠ X.env.locals := hC.2.1
  refine sky_held (Z := Zc cls d) Zc.steady ((I3.ok.frames).trans (congrArg some hst)) hfr hce hne sky fun h1 held up1 => ?_
  obtain ⟨m, hn, _⟩ := I.loc
  have hn : sI.heap.Ns ce.locals m := hn
  have up01 : sI.heap.UpToSlots h1 := up.trans up1
  have hn1 : h1.Ns ce.locals m := hn.upToSlots up01
  have lf : X.env.locals ∈ frs X.stack := by rw [hst]; exact List.mem_filterMap.mpr ⟨X.env, List.mem_cons_self, hfr⟩
  refine (show CompFails _ _ _ ce (.ref a) _ from ⟨m, hn1, fun h2 m2 hn2 sb => ?_⟩)
  -- the smaller ground
  obtain ⟨B', b1, b2⟩ := restrict B fun b => !decide (b = ce.locals)
  have bC : B'.get? ce.locals = none := b2 _ (by simp)
  have less : ∀ b o, B'.get? b = some o → B.get? b = some o := fun b o e => by
    by_cases q : b = ce.locals
    · rw [q, bC] at e; cases e
    · rw [b1 b (by simp [q])] at e; exact e
  have held2 := held_but bC hn1 hn2 sb (held_less less held)
  refine pass_held (hce.trans hfr) held2 fun h3 held3 up3 => ?_
  -- the state without it, its block hidden
  obtain ⟨G, g1, g2⟩ := restrict sI.heap fun b => !decide (b = ce.locals)
  have gk : ∀ b o, b ≠ ce.locals → sI.heap.get? b = some o → G.get? b = some o := fun b o q e => by rw [g1 b (by simp [q])]; exact e
  have gC : G.get? ce.locals = none := g2 _ (by simp)
  have go : ∀ b o, G.get? b = some o → b ≠ ce.locals ∧ sI.heap.get? b = some o := fun b o e => by
    by_cases q : b = ce.locals
    · rw [q, gC] at e; cases e
    · rw [g1 b (by simp [q])] at e; exact ⟨q, e⟩
  have I7 : Inv X pins σ H' sI := I3.call' (ch := fp) I.os I.base I.hok I.bare fun b hb => ⟨(f3 b hb).2.2.2.1, (f3 b hb).2.1, (f3 b hb).2.2.2.2.1, (f3 b hb).2.2.2.2.2⟩
  have nC : H' ce.locals = none := I.free
  have I8 : Inv X pins σ H' { sI with heap := G, toks := sI.toks } := I7.turned (fun b o q e => gk b o q e) nC hne hC.2.2.2.1 hC.2.2.2.2.1 hC.2.2.2.2.2
  refine tk _ _ ⟨a, B', _, pins, σ, H', cls, d, rfl, I8, fun b o e hb => ?_, fun b o e hnf => ?_, .inr (.inr (by rw [hst]; exact held3)), na, os, ag, hw⟩
  · obtain ⟨q, e⟩ := go b o e
    rw [b1 b (by simp [q])]
    exact nb b o e hb
  · obtain ⟨q, e⟩ := go b o e
    obtain ⟨sl, e1⟩ := up01 b o e hnf
    have e2 := (sb.2 b q).trans e1
    obtain ⟨sl2, e3⟩ := up3 b { o with slots := sl } e2 hnf
    exact ⟨sl2, e3⟩
end
section
variable {X : Cx}
/-- the block's contexts -/
abbrev BlkE (X : Cx) (E : XK) (scope : Scope) (P : Cx → Prop) : Prop := ∀ (s : Shared) (H : Hp) (C : Addr) (cl : List (Str × Addr)) (fp : List Addr), P (blkE X E s H scope (compEnvC scope cl C X.env) fp)
theorem lc_coreE {E : XK} {pins : List (Addr × Obj)} {s : Shared} {σ : L2.St} {H : Hp} {Q : VK} {elt tg iter : Expr} {ifs : List Expr} {scope : Scope} {own : List (Str × Nat)} {pos pos' : Pos} {wi : TI} {g : TG} {tt : TT} {te : TE} {use : Option (Value → Sem Unit)} {Qf : Value → Shared → Prop}
    (tk : Takes X (wxE E)) (hst : X.stack = X.env :: X.outer) (hfr : X.env.frame = some X.env.locals) (hc : X.calm = true) (hN : X.N.Nodup) (I : Inv X pins σ H s) (hi : PI X tg iter wi) (ok : BlkOk X.N X.env.scope scope own)
    (hg : BlkE X E scope fun Y => PG Y tg g) (ht : BlkE X E scope fun Y => PTs Y ifs tt) (he : BlkE X E scope fun Y => PE Y elt te) (hs : ∀ x, foldedSetIterable iter X.env x = pure x)
    (h : tLc wi g tt te (own.map (·.2)) σ H Q)
    (hRR : ∀ D ce s' m H', Inv X pins σ H' s' → Q (.ref D) H' → s'.heap.Ns ce.locals m → FpOk X pins H' ce.locals → compEnds (model X.prog X.w) X.A X.xe use Qf (.ref D) ce (.ok .next) s') :
    wpAny (model X.prog X.w) X.A (comprehension (.ListComp elt [⟨tg, iter, ifs, 0⟩] scope pos) scope X.env pos' (newList []) false (eval iter X.env) use) Qf X.xe s := by
  have hfree : ∀ y ∈ scope.names, y.2 = .free → ∃ c, X.env.cells.lookup y.1 = some c := fun y hy e => by
    rcases ok.free y hy e with k | k
    · exact I.ok.has _ (.inl k)
    · exact I.ok.has _ (.inr k)
  refine comprehension_at (use := use) rfl hs (closure_ok hfree) ok.kind (fun y hy e => by rw [ok.uniq y hy, e])
    (thn (hi.run pins s σ H _ I h) fun xv s1 hx => thn hx fun itv s2 h2 => ?_)
  obtain ⟨it, fp, tn, J, H2, e, I2, T, st2, f2, q⟩ := h2
  subst e
  refine wpAny_newObj_type (newEnv_comp ?_) (by show 0 ≤ sizeLine; decide)
  generalize hD : s2.heap.objs.size = D
  have hDn : H2 D = none := I2.hok.fresh (Nat.le_of_eq hD)
  obtain ⟨W, ⟨m0, w0⟩, turn⟩ := q D hDn
  generalize hs3 : ({ s2 with heap := s2.heap.push { cls := .type "list", data := .seq ([] : List Value).toArray } } : Shared) = s3
  have I3 : Inv X pins σ (upd H2 D (.lst [])) s3 := by
    rw [← hs3]
    refine I2.laid (t' := s2.toks) (fun b o e => Heap.get?_push_of_some _ e) (Nat.le_of_eq hD) ⟨Nat.zero_le _, [], 0, .nil, ?_⟩
    rw [← hD]
    exact Heap.get?_push_size _ rfl
  have h3 : s3.heap = s2.heap.push { cls := .type "list", data := .seq ([] : List Value).toArray } := by rw [← hs3]
  have f3 : ∀ b ∈ fp, FpOk X pins (upd H2 D (.lst [])) b ∧ b < s3.heap.objs.size := fun b hb => by
    obtain ⟨o, e, _⟩ := T.obj _ _ st2 b hb
    have hlt := Heap.lt_size e
    refine ⟨⟨?_, (f2 b hb).2⟩, by rw [h3, Heap.size_push]; exact Nat.lt_succ_of_lt hlt⟩
    rw [upd_ne (by rw [← hD]; exact Nat.ne_of_lt hlt)]
    exact (f2 b hb).1
  have st3 : tn 0 s3.heap := T.keep _ _ _ st2 fun b _ o e => by rw [h3]; exact Heap.get?_push_of_some _ e
  have I4 := inv_xe (XE (X.blk s3 (upd H2 D (.lst [])) scope (compEnvC scope (cellsFrom (s3.heap.objs.size + 1) scope.names (cloFrom X.env.cells scope.names [])) s3.heap.objs.size X.env) fp) (wxE E)) (block_start I3 ok hN f3)
  have pg := hg s3 (upd H2 D (.lst [])) s3.heap.objs.size (cellsFrom (s3.heap.objs.size + 1) scope.names (cloFrom X.env.cells scope.names [])) fp
  have pt := ht s3 (upd H2 D (.lst [])) s3.heap.objs.size (cellsFrom (s3.heap.objs.size + 1) scope.names (cloFrom X.env.cells scope.names [])) fp
  have pe := he s3 (upd H2 D (.lst [])) s3.heap.objs.size (cellsFrom (s3.heap.objs.size + 1) scope.names (cloFrom X.env.cells scope.names [])) fp
  show codeAny _ _ (.compStart (.ListComp elt [⟨tg, iter, ifs, 0⟩] scope pos) 0 (.ref it) (.ref D) (compEnvC scope (cellsFrom (s3.heap.objs.size + 1) scope.names (cloFrom X.env.cells scope.names [])) s3.heap.objs.size X.env)) (compEnds (model X.prog X.w) X.A X.xe use Qf (.ref D) (compEnvC scope (cellsFrom (s3.heap.objs.size + 1) scope.names (cloFrom X.env.cells scope.names [])) s3.heap.objs.size X.env)) { s3 with heap := pushCells (s3.heap.push { cls := .type "dict", data := .dict #[] }) scope.names }
  have nfp : ∀ b ∈ fp, (upd H2 D (.lst [])) b = none := fun b hb => (f3 b hb).1.1
  generalize hce : compEnvC scope (cellsFrom (s3.heap.objs.size + 1) scope.names (cloFrom X.env.cells scope.names [])) s3.heap.objs.size X.env = ce at I4 pg pt pe ⊢
  have cL : ce.locals = s3.heap.objs.size := by subst hce; rfl
  have cF : ce.frame = X.env.frame := by subst hce; rfl
  generalize hH3 : upd H2 D (.lst []) = H3 at I3 I4 pg pt pe w0 nfp f3
  have hC3 : FpOk X pins H3 ce.locals := by rw [cL]; exact I3.fpOk (Nat.le_refl _) (I3.hok.fresh (Nat.le_refl _))
  have noted : ∀ u s', XE (X.blk s3 H3 scope ce fp) (wxE E) u s' → notedBy (model X.prog X.w) X.A ce (fun e s' => compEnds (model X.prog X.w) X.A X.xe use Qf (.ref D) ce (.error e) s') u s' := fun u s' x => block_out tk hst hfr cF hC3 I3 (fun b hb => (f3 b hb).1) x
  generalize hs4 : ({ s3 with heap := pushCells (s3.heap.push { cls := .type "dict", data := .dict #[] }) scope.names } : Shared) = s4 at I4 ⊢
  have st4 : tn 0 s4.heap := T.keep _ _ _ st3 fun b _ o e => by rw [← hs4]; exact pushCells_keeps _ _ _ _ (Heap.get?_push_of_some _ e)
  have stat : ∀ {σ' : L2.St} {H' : Hp} {s' : Shared}, Inv (blkE X E s3 H3 scope ce fp) [] σ' H' s' → (∀ b ∈ fp, H' b = none) → ∀ b ∈ fp, FpOk (blkE X E s3 H3 scope ce fp) [] H' b := fun {σ' H' s'} I' hn b hb =>
    ⟨hn b hb, (I'.ok.exf b hb).1, I'.ok.exfs b hb, .inl hb, fun x c e => (I'.ok.exf b hb).2 x c e, fun p hp => absurd (show p ∈ ([] : List (Addr × Obj)) ++ [] from hp) (by simp)⟩
  have loop : codeAny (model X.prog X.w) X.A (.compLoop (.ListComp elt [⟨tg, iter, ifs, 0⟩] scope pos) 0 (.ref it) (.ref D) ce) (compEnds (model X.prog X.w) X.A X.xe use Qf (.ref D) ce) s4 := by
    refine compLoop_any (fun n s' => ∃ i H', Inv (blkE X E s3 H3 scope ce fp) [] (wipe σ (own.map (·.2))) H' s' ∧ tn i s'.heap ∧ (∀ b ∈ fp, H' b = none) ∧ W i n H') ?_ m0 ⟨0, H3, I4, st4, nfp, w0⟩
    rintro n s5 ⟨i, H5, I5, st5, n5, w5⟩
    rcases turn i n H5 w5 with ⟨stop, qq⟩ | ⟨go, Nx, hNx, step⟩
    · have td := T.done (blkE X E s3 H3 scope ce fp) rfl rfl rfl hc i [] s5 _ H5 (fun _ _ => False) I5 (stat I5 n5) st5 stop
      refine thnF td fun r s6 ⟨hr, I6⟩ => ?_
      subst hr
      have I7 : Inv X pins σ H5 s6 := I3.call' (ch := fp) I6.os I6.base I6.hok I6.bare fun b hb => ⟨(f3 b hb).1.2.2.2.1, (f3 b hb).1.2.1, (f3 b hb).1.2.2.2.2.1, (f3 b hb).1.2.2.2.2.2⟩
      have nC : H5 ce.locals = none := I6.free
      obtain ⟨m, hn, _⟩ := I6.loc
      have hn : s6.heap.Ns ce.locals m := hn
      exact hRR D ce s6 m H5 I7 qq hn ⟨nC, hC3.2⟩
    · have ti := T.item (blkE X E s3 H3 scope ce fp) rfl rfl rfl hc i [] s5 _ H5 (fun _ _ => False) I5 (stat I5 n5) st5 go
      refine thnF ti fun r s6 ⟨u, hr, h6⟩ => ?_
      subst hr
      refine thnF h6 fun _ s7 ⟨x, H7, I7, r7, y7, st7, n7⟩ => ?_
      have I7' := I7.pinned (stat I7 n7) (T.obj _ _ st7)
      refine wpAny_mono (pg.run _ s7 _ H7 x u _ I7' r7 (step x H7 y7)) (fun _ s8 ⟨σ8, H8, I8, hw8, q8⟩ => ?_) noted
      refine wpAny_mono (pt.run _ s8 σ8 H8 _ I8 q8) (fun b s9 ⟨H9, I9, q9⟩ => ?_) noted
      have fin : ∀ {s' : Shared} {H' : Hp}, Inv (blkE X E s3 H3 scope ce fp) ([] ++ pinsAt fp s7.heap) σ8 H' s' → Nx H' → ∃ m, m < n ∧ ∃ i H', Inv (blkE X E s3 H3 scope ce fp) [] (wipe σ (own.map (·.2))) H' s' ∧ tn i s'.heap ∧ (∀ b ∈ fp, H' b = none) ∧ W i m H' := fun {s' H'} I' nx => by
        obtain ⟨m', hm, w'⟩ := hNx H' nx
        have pin' : ∀ b ∈ fp, ∀ o, s7.heap.get? b = some o → s'.heap.get? b = some o ∧ H' b = none := fun b hb o e =>
          let z := I'.pin (b, o) (List.mem_append_right _ (List.mem_append_right _ (mem_pinsAt hb e)))
          ⟨z.1, z.2.1⟩
        have hl : (wipe σ (own.map (·.2))).length = σ8.length := by rw [← hw8, wipe_length]
        refine ⟨m', hm, i + 1, H', (I'.unpinned (pins := [])).weak hl (fun j v e => ?_), T.keep _ _ _ st7 fun b hb o e => (pin' b hb o e).1, fun b hb => ?_, w'⟩
        · rw [← hw8] at e
          exact (wipe_some e).1
        · obtain ⟨o, e, _⟩ := T.obj _ _ st7 b hb
          exact (pin' b hb o e).2
      cases b with
      | false =>
        simp only [Bool.false_eq_true, if_false] at q9 ⊢
        exact fin I9 q9
      | true =>
        simp only [if_true] at q9 ⊢
        refine wpAny_mono (pe.run _ s9 σ8 H9 _ I9 q9) (fun z s10 ⟨yv, H10, I10, r10, acc, hD10, hz10, nx⟩ => ?_) noted
        exact app_ok (X := blkE X E s3 H3 scope ce fp) I10 hD10 hz10 r10 fun s11 I11 => fin I11 nx
  exact codeAny_compStart_list loop (T.self X.A 0 _ _ _ st4 loop)
/-- as a value -/
theorem pe_lcE {E : XK} {elt tg iter : Expr} {ifs : List Expr} {scope : Scope} {own : List (Str × Nat)} {pos : Pos} {wi : TI} {g : TG} {tt : TT} {te : TE} (tk : Takes X (wxE E)) (hst : X.stack = X.env :: X.outer) (hfr : X.env.frame = some X.env.locals) (hc : X.calm = true) (hN : X.N.Nodup) (hi : PI X tg iter wi) (ok : BlkOk X.N X.env.scope scope own)
    (hg : BlkE X E scope fun Y => PG Y tg g) (ht : BlkE X E scope fun Y => PTs Y ifs tt) (he : BlkE X E scope fun Y => PE Y elt te) (hs : ∀ x, foldedSetIterable iter X.env x = pure x := by intro _; rfl) :
    PE X (.ListComp elt [⟨tg, iter, ifs, 0⟩] scope pos) (tLc wi g tt te (own.map (·.2))) := by
  refine ⟨fun pins s σ H Q I h => ?_⟩
  rw [eval_ListComp]
  refine lc_coreE tk hst hfr hc hN I hi ok hg ht he hs h fun D ce s' m H' I' q hn f => ⟨m, hn, fun h'' sb => ?_⟩
  obtain ⟨f0, f1, f2, f3, f4, f5⟩ := f
  exact ⟨.ref D, H', I'.turned (t' := s'.toks) (fun b o hb e => (sb.2 b hb).trans e) f0 f1 f3 f4 f5, rfl, q⟩
/-- name = [..] on one line, the name a local -/
theorem ps_setLcE {E : XK} {i : Nat} {y : Str} {py : Pos} {elt tg iter : Expr} {ifs : List Expr} {scope : Scope} {own : List (Str × Nat)} {pos spos : Pos} {wi : TI} {g : TG} {tt : TT} {te : TE} (tk : Takes X (wxE E)) (hst : X.stack = X.env :: X.outer) (hfr : X.env.frame = some X.env.locals) (hc : X.calm = true) (hN : X.N.Nodup) (hy : X.N[i]? = some y) (hyl : X.env.scope.names.lookup y = some .local)
    (hsw : swapsWith (.ListComp elt [⟨tg, iter, ifs, 0⟩] scope pos) (some (.Name y py)) spos.line X.env = pure true) (hi : PI X tg iter wi) (ok : BlkOk X.N X.env.scope scope own)
    (hg : BlkE X E scope fun Y => PG Y tg g) (ht : BlkE X E scope fun Y => PTs Y ifs tt) (he : BlkE X E scope fun Y => PE Y elt te) (hs : ∀ x, foldedSetIterable iter X.env x = pure x := by intro _; rfl) :
    PS X (.Assign [.Name y py] (.ListComp elt [⟨tg, iter, ifs, 0⟩] scope pos) spos) (tAsg (tLc wi g tt te (own.map (·.2))) (gName i)) := by
  refine ⟨fun pins s σ H D I h => ?_⟩
  rw [exec_Assign_Name_used _ _ _ _ hsw]
  refine wpAny_bind (wpAny_standAt (wpAny_bind ?_))
  show wpAny _ X.A (do let _ ← comprehension (.ListComp elt [⟨tg, iter, ifs, 0⟩] scope pos) scope X.env (firstIterPos [⟨tg, iter, ifs, 0⟩] pos) (newList []) false (eval iter X.env) (some (assign (.Name y py) X.env))) _ _ s
  have h : tLc wi g tt te (own.map (·.2)) σ H (fun x H1 => gName i x σ H1 D.nx) := h
  refine wpAny_bind (thn (lc_coreE (Qf := fun _ s' => SP X pins D .next s') tk hst hfr hc hN I hi ok hg ht he hs h fun L ce s' m H' I' q hn f => ?_) fun _ s' hq => wpAny_pure (wpAny_pure hq))
  show wpAny _ _ (assign (.Name y py) X.env (.ref L)) _ _ _
  refine wpAny_assign_Name (store_ok2 (v := V.ref L) I' hN hy (.inl hyl) rfl (fun s2 I2 ⟨a, sb, ha⟩ => ?_) (.inr hyl))
  obtain ⟨f0, f1, f2, f3, f4, f5⟩ := f
  have haC : ce.locals ≠ a := by
    rcases ha with z | z
    · rw [z]; exact f1
    · exact fun e => f4 y a z e.symm
  refine ⟨m, hn.sameBut sb haC, fun h3 sb3 => ?_⟩
  exact ⟨_, H', I2.turned (t' := s2.toks) (fun b o hb e => (sb3.2 b hb).trans e) f0 f1 f3 f4 f5, q⟩
end
end XR

/-! comprehensions whose element may raise, over data -/
namespace DA
open PySem PySem.Spec PyProof.Rows L2 XR
section
variable {X : Cx} {EX : Exs} {E : XK} {a b c e : Expr} {es : List Expr} {ga gb gc : En → Rs PyData} {gt gu : En → Rs Bool} {gl gn : En → Rs (List PyData)} {pos : Pos}
variable {So : Addr → Prop} {Bs : Hp} {τ : Pin} {μ : Mu} {σ : Sg} {H : Hp} {η : En} {D : Ends}
def lcX (vs : List Nat) (g : PyData → En → Option En) (gt : En → Rs Bool) (ge : En → Rs PyData) : List PyData → List PyData → En → Rs (List PyData)
  | [], acc, η => .ok acc η
  | x :: xs, acc, η => match g x (wipeE η vs) with
    | none => .no
    | some η1 => match gt η1 with
      | .ok true η2 => match ge η2 with
        | .ok y η3 => if acc.length < sizeLine then lcX vs g gt ge xs (acc ++ [y]) (wipeE η3 vs) else .no
        | .ex n as η3 => .ex n as (wipeE η3 vs)
        | .no => .no
      | .ok false η2 => lcX vs g gt ge xs acc (wipeE η2 vs)
      | .ex n as η2 => .ex n as (wipeE η2 vs)
      | .no => .no
def eLcX (vs : List Nat) (gi : En → Rs (List PyData)) (g : PyData → En → Option En) (gt : En → Rs Bool) (ge : En → Rs PyData) (η : En) : Rs (List PyData) := (gi η).bind fun ds η1 => lcX vs g gt ge ds [] η1
def DTsX (X : Cx) (EX : Exs) (W : WX) (ifs : List Expr) (g : En → Rs Bool) : Prop := ∀ So Bs τ {μ : Mu} σ H η Q, SR X.K So Bs τ μ σ H η → Post X.K So Bs τ σ EX W (g η) (fun b η' μ' H' => Q b H') → ∃ t, PTs X ifs t ∧ t σ H Q
theorem dtsX_nil {W : WX} : DTsX X EX W [] gYes := by
  intro So Bs τ μ σ H η Q sr h
  exact ⟨_, pts_nil, h H sr⟩
theorem dtsX_one {W : WX} (hc : DT X EX W c gt) : DTsX X EX W [c] gt := by
  intro So Bs τ μ σ H η Q sr h
  exact ⟨_, pts_one wt, hc So Bs τ σ H η Q sr h⟩
def blkEX (X : Cx) (E : XK) (scope : Scope) (e : Expr) : TE := fun σ H Q => BlkE X E scope fun X' => We X' e σ H Q
def blkTX (X : Cx) (E : XK) (scope : Scope) (ifs : List Expr) : TT := fun σ H Q => BlkE X E scope fun X' => Wts X' ifs σ H Q
def blkGX (X : Cx) (E : XK) (scope : Scope) (tg : Expr) : TG := fun v σ H Q => BlkE X E scope fun X' => Wg X' tg v σ H Q
/-- the reading of a comprehension, out of its parts over data -/
theorem lc_okX {tg iter : Expr} {ifs : List Expr} {scope : Scope} {vs : List Nat} {ts : List Nat} {gi : En → Rs (List PyData)} {g : PyData → En → Option En} {Q : VK} (hi : DI X EX (wxE E) tg iter gi) (hts : ∀ i ∈ ts, i ∈ vs)
    (hg : BlkE X E scope fun X' => DG X' tg ts g) (ht : BlkE X E scope fun X' => DTsX X' EX (wxE E) ifs gt) (he : BlkE X E scope fun X' => DE X' EX (wxE E) e ga) (sr : SR X.K So Bs τ μ σ H η) (hpost : PostN X.K So Bs τ σ EX (wxE E) (eLcX vs gi g gt ga η) Q) :
    tLc (Wi X tg iter) (blkGX X E scope tg) (blkTX X E scope ifs) (blkEX X E scope e) vs σ H Q := by
  refine hi So (mx μ η H) τ σ H η _ sr.max ?_
  unfold eLcX at hpost
  cases hr : gi η with
  | no => rw [hr] at hpost; exact hpost
  | ex n as η1 => rw [hr] at hpost; exact fun H1 cls dd sr1 hx => hpost H1 cls dd (sr.back sr1) hx
  | ok ds η1 =>
    rw [hr] at hpost
    replace hpost : PostN X.K So Bs τ σ EX (wxE E) (lcX vs g gt ga ds [] η1) Q := hpost
    intro μ1 H1 sr1' J hwk D hD
    obtain ⟨G, Y, w, hG, hY⟩ := hwk
    have sr1 := sr.back sr1'
    have hso : ¬ So D := sr1.so_ne hD
    have hbs : mx μ1 η1 H1 D = none := by
      cases q : mx μ1 η1 H1 D with
      | none => rfl
      | some u => rw [(mx_iff.mp q).1] at hD; cases hD
    have out : ∀ {μ2 : Mu} {η2 : En} {H2 : Hp} {as : List V}, SR X.K (plus So D) (upd (mx μ1 η1 H1) D (.lst as)) τ μ2 σ H2 η2 → SR X.K So Bs τ μ2 σ H2 η2 := fun sr2 => sr1.back (sr2.unhide hbs (fun a z => by
      exact sr1.max.so a z))
    refine lc_it w (fun i H2 => ∃ (μ2 : Mu) (η2 : En) (acc : List PyData) (as : List V), SR X.K (plus So D) (upd (mx μ1 η1 H1) D (.lst as)) τ μ2 σ H2 η2 ∧ DqAll X.K (vis (plus So D) μ2 η2 H2) as acc ∧ PostN X.K So Bs τ σ EX (wxE E) (lcX vs g gt ga (ds.drop i) acc η2) Q) ?_ ?_ ?_ ?_
    · exact ⟨μ1, η1, [], [], sr1.max.hide hD, .nil, hpost⟩
    · rintro i H2 hi ⟨μ2, η2, acc, as, sr2, _⟩
      refine hG H2 fun b u hb => ?_
      obtain ⟨k1, k2, k3⟩ := vis_iff.mp hb
      exact (sr2.base b u (by rw [upd_ne (ne_of_none k1 hD)]; exact mx_iff.mpr ⟨k1, k2⟩)).1
    · rintro i x H2 H3 hi ⟨μ2, η2, acc, as, sr2, has, q2⟩ y
      have gr : Same (vis So μ1 η1 H1) (vis (plus So D) μ2 η2 H2) := fun b u hb => by
        obtain ⟨k1, k2, k3⟩ := vis_iff.mp hb
        obtain ⟨k4, k5⟩ := sr2.base b u (by rw [upd_ne (ne_of_none k1 hD)]; exact mx_iff.mpr ⟨k1, k2⟩)
        exact vis_iff.mpr ⟨k4, k5, fun z => z.elim k3 (ne_of_none k1 hD)⟩
      obtain ⟨d, hd, hy⟩ := hY i H2 x H3 (gr.trans same_vis) y hi
      have hdrop : ds.drop i = d :: ds.drop (i + 1) := by
        rw [List.drop_eq_getElem_cons hi]
        have := List.getElem?_eq_some_iff.mp hd
        rw [this.2]
      rw [hdrop] at q2
      obtain ⟨sr3, hx, has3⟩ : SR X.K (plus So D) (upd (mx μ1 η1 H1) D (.lst as)) τ μ2 σ H3 η2 ∧ Dq X.K (vis (plus So D) μ2 η2 H3) x d ∧ DqAll X.K (vis (plus So D) μ2 η2 H3) as acc := by
        rcases hy with ⟨rfl, hx⟩ | ⟨T, wss, es, rfl, hT, rfl, hx, rfl⟩
        · exact ⟨sr2, Dq.mono gr _ _ hx, has⟩
        · exact ⟨sr2.new hT, .tup (SqT.of (sr2.vis_at hT)) (DqAll.mono (gr.trans (vis_new hT)) _ _ hx), DqAll.mono (vis_new hT) _ _ has⟩
      have sr4 := sr3.wipe vs
      have sm4 : Same (vis (plus So D) μ2 η2 H3) (vis (plus So D) μ2 (wipeE η2 vs) H3) := forget_same vs
      unfold lcX at q2
      split at q2
      · exact q2.elim
      · next η5 e5 =>
        intro s0 H0 C cl fp
        refine hg s0 H0 C cl fp _ _ τ _ H3 _ x d η5 _ e5 sr4 (Dq.mono sm4 _ _ hx) fun σ5 sr5 s5 l5 k5 => ?_
        have l5' : σ5.length = σ.length := l5.trans (wipe_length σ vs)
        have k5' : ∀ j, j ∉ vs → σ5[j]? = σ[j]? := fun j hj => (k5 j fun z => hj (hts j z)).trans (wipe_get hj)
        refine ⟨wipe_eq l5' k5', fun s0 H0 C cl fp => ?_⟩
        have has5 := DqAll.mono (sm4.trans s5) _ _ has3
        refine ht s0 H0 C cl fp _ (mx μ2 η5 H3) τ σ5 H3 η5 _ sr5.max ?_
        cases hr6 : gt η5 with
        | no => rw [hr6] at q2; exact q2
        | ex n as η6 => rw [hr6] at q2; exact fun H6 cls dd sr6' hx => q2 H6 cls dd (out ((sr5.back sr6').unwipe l5' k5')) (EX.mono ((forget_same vs).trans vis_plus) hx)
        | ok b η6 =>
          rw [hr6] at q2
          intro μ6 H6 sr6'
          have sr6 := sr5.back sr6'
          have has6 := DqAll.mono (SR.grown sr6') _ _ has5
          cases b with
          | false =>
            refine iteF ⟨μ6, wipeE η6 vs, acc, as, sr6.unwipe l5' k5', DqAll.mono (forget_same vs) _ _ has6, q2⟩
          | true =>
            simp only at q2
            refine iteT fun s0 H0 C cl fp => ?_
            refine he s0 H0 C cl fp _ (mx μ6 η6 H6) τ σ5 H6 η6 _ sr6.max ?_
            cases hr7 : ga η6 with
            | no => rw [hr7] at q2; exact q2
            | ex n as η7 => rw [hr7] at q2; exact fun H7 cls dd sr7' hx => q2 H7 cls dd (out ((sr6.back sr7').unwipe l5' k5')) (EX.mono ((forget_same vs).trans vis_plus) hx)
            | ok yv η7 =>
              rw [hr7] at q2
              simp only at q2
              split at q2
              · next hz =>
                intro μ7 H7 sr7' v7 hv7
                have sr7 := sr6.back sr7'
                have has7 := DqAll.mono (SR.grown sr7') _ _ has6
                refine ⟨as, (sr7.base D _ upd_same).1, by rw [has7.len]; exact hz, μ7, wipeE η7 vs, acc ++ [yv], as ++ [v7], (sr7.unwipe l5' k5').put hso, ?_, q2⟩
                have hs : Same (vis (plus So D) μ7 η7 H7) (vis (plus So D) μ7 (wipeE η7 vs) (upd H7 D (.lst (as ++ [v7])))) := (forget_same vs).trans (vis_same fun b u k1 k2 k3 => ⟨(upd_ne fun z => k3 (.inr z)).trans k1, k2, k3⟩)
                exact (DqAll.mono hs _ _ has7).append (.cons (Dq.mono hs _ _ hv7) .nil)
              · exact q2.elim
    · rintro H2 ⟨μ2, η2, acc, as, sr2, has, q2⟩
      rw [List.drop_length] at q2
      refine q2 D as H2 ?_ hso (sr1.fresh hD) has
      refine sr2.base_mono (fun b u hb => ?_) fun b hb => ?_
      · by_cases e : b = D
        · subst e
          rw [upd_same] at hb ⊢
          exact hb
        · rw [upd_ne e] at hb ⊢
          exact mx_iff.mpr (sr1.base b u hb)
      · by_cases e : b = D
        · exact ⟨_, by rw [e]; exact upd_same, rfl⟩
        · rcases hb with hb | hb
          · obtain ⟨u, hu, hm⟩ := sr.so b hb
            exact ⟨u, (upd_ne e).trans hu, hm⟩
          · exact (e hb).elim
theorem blkEX_pe {scope : Scope} : BlkE X E scope fun X' => PE X' e (blkEX X E scope e) := fun s0 H0 C cl fp => ⟨fun pins s σ H Q I h => we.run pins s σ H Q I (h s0 H0 C cl fp)⟩
theorem blkTX_pe {scope : Scope} {ifs : List Expr} : BlkE X E scope fun X' => PTs X' ifs (blkTX X E scope ifs) := fun s0 H0 C cl fp => ⟨fun pins s σ H Q I h => wts.run pins s σ H Q I (h s0 H0 C cl fp)⟩
theorem blkGX_pe {scope : Scope} {tg : Expr} : BlkE X E scope fun X' => PG X' tg (blkGX X E scope tg) := fun s0 H0 C cl fp => ⟨fun pins s σ H v u Q I r h => wg.run pins s σ H v u Q I r (h s0 H0 C cl fp)⟩
/-- [elt for target in iter if ..] -/
theorem dn_lcX {tg iter : Expr} {ifs : List Expr} {scope : Scope} {own : List (Str × Nat)} {ts : List Nat} {gi : En → Rs (List PyData)} {g : PyData → En → Option En} (tk : Takes X (wxE E)) (hst : X.stack = X.env :: X.outer) (hfr : X.env.frame = some X.env.locals) (hc : X.calm = true) (hN : X.N.Nodup) (hi : DI X EX (wxE E) tg iter gi) (ok : BlkOk X.N X.env.scope scope own) (hts : ∀ i ∈ ts, i ∈ own.map (·.2))
    (hg : BlkE X E scope fun X' => DG X' tg ts g) (ht : BlkE X E scope fun X' => DTsX X' EX (wxE E) ifs gt) (he : BlkE X E scope fun X' => DE X' EX (wxE E) e ga) (hs : ∀ x, foldedSetIterable iter X.env x = pure x := by intro _; rfl) :
    DN X EX (wxE E) (.ListComp e [⟨tg, iter, ifs, 0⟩] scope pos) (eLcX (own.map (·.2)) gi g gt ga) := by
  intro So Bs τ μ σ H η Q sr h
  exact ⟨_, pe_lcE tk hst hfr hc hN wi ok blkGX_pe blkTX_pe blkEX_pe hs, lc_okX hi hts hg ht he sr h⟩
/-- name = [..], as data or as the slot's own -/
theorem ds_setLcX {i : Nat} {y : Str} {py spos : Pos} {tg iter : Expr} {ifs : List Expr} {scope : Scope} {own : List (Str × Nat)} {ts : List Nat} {gi : En → Rs (List PyData)} {g : PyData → En → Option En} (tk : Takes X (wxE E)) (hst : X.stack = X.env :: X.outer) (hfr : X.env.frame = some X.env.locals) (hc : X.calm = true) (hN : X.N.Nodup) (hy : X.N[i]? = some y) (hyl : X.env.scope.names.lookup y = some .local)
    (hsw : swapsWith (.ListComp e [⟨tg, iter, ifs, 0⟩] scope pos) (some (.Name y py)) spos.line X.env = pure true) (hi : DI X EX (wxE E) tg iter gi) (ok : BlkOk X.N X.env.scope scope own) (hts : ∀ i ∈ ts, i ∈ own.map (·.2))
    (hg : BlkE X E scope fun X' => DG X' tg ts g) (ht : BlkE X E scope fun X' => DTsX X' EX (wxE E) ifs gt) (he : BlkE X E scope fun X' => DE X' EX (wxE E) e ga) (hs : ∀ x, foldedSetIterable iter X.env x = pure x := by intro _; rfl) :
    DS X EX (wxE E) (.Assign [.Name y py] (.ListComp e [⟨tg, iter, ifs, 0⟩] scope pos) spos) (oSet i (eNew (eLcX (own.map (·.2)) gi g gt ga))) := by
  intro So Bs τ μ σ H η D sr hp
  refine ⟨_, ps_setLcE tk hst hfr hc hN hy hyl hsw wi ok blkGX_pe blkTX_pe blkEX_pe hs, ?_⟩
  refine lc_okX (E := E) hi hts hg ht he sr ?_
  unfold oSet eNew at hp
  cases hr : eLcX (own.map (·.2)) gi g gt ga η with
  | no => rw [hr] at hp; exact hp
  | ex n as η1 => rw [hr] at hp; exact fun H1 cls dd sr1 hx => hp σ H1 cls dd sr1 hx
  | ok ds η1 =>
    rw [hr] at hp
    intro μ1 p vs H1 sr1 hn hb hd
    obtain ⟨h1, h2⟩ := hidden_cell sr1
    exact hp _ H1 ((sr1.unhide hb sr.so).setD (.lst (vis_iff.mpr ⟨h1, h2, hn⟩) (DqAll.mono vis_plus _ _ hd)))
theorem ds_setLcNX {i : Nat} {y : Str} {py spos : Pos} {tg iter : Expr} {ifs : List Expr} {scope : Scope} {own : List (Str × Nat)} {ts : List Nat} {gi : En → Rs (List PyData)} {g : PyData → En → Option En} (tk : Takes X (wxE E)) (hst : X.stack = X.env :: X.outer) (hfr : X.env.frame = some X.env.locals) (hc : X.calm = true) (hN : X.N.Nodup) (hy : X.N[i]? = some y) (hyl : X.env.scope.names.lookup y = some .local)
    (hsw : swapsWith (.ListComp e [⟨tg, iter, ifs, 0⟩] scope pos) (some (.Name y py)) spos.line X.env = pure true) (hi : DI X EX (wxE E) tg iter gi) (ok : BlkOk X.N X.env.scope scope own) (hts : ∀ i ∈ ts, i ∈ own.map (·.2))
    (hg : BlkE X E scope fun X' => DG X' tg ts g) (ht : BlkE X E scope fun X' => DTsX X' EX (wxE E) ifs gt) (he : BlkE X E scope fun X' => DE X' EX (wxE E) e ga) (hs : ∀ x, foldedSetIterable iter X.env x = pure x := by intro _; rfl) :
    DS X EX (wxE E) (.Assign [.Name y py] (.ListComp e [⟨tg, iter, ifs, 0⟩] scope pos) spos) (oNew i (eLcX (own.map (·.2)) gi g gt ga)) := by
  intro So Bs τ μ σ H η D sr hp
  refine ⟨_, ps_setLcE tk hst hfr hc hN hy hyl hsw wi ok blkGX_pe blkTX_pe blkEX_pe hs, ?_⟩
  refine lc_okX (E := E) hi hts hg ht he sr ?_
  unfold oNew at hp
  cases hr : eLcX (own.map (·.2)) gi g gt ga η with
  | no => rw [hr] at hp; exact hp
  | ex n as η1 => rw [hr] at hp; exact fun H1 cls dd sr1 hx => hp σ H1 cls dd sr1 hx
  | ok ds η1 =>
    rw [hr] at hp
    intro μ1 p vs H1 sr1 hn hb hd
    obtain ⟨h1, h2⟩ := hidden_cell sr1
    exact hp _ H1 (sr1.setO (s := .l 0 ds) hn hb sr.so rfl ⟨vs, rfl, h1, hd, fun z => (z rfl).elim⟩)
end
end DA

namespace XR
open PySem PySem.Spec PyProof.Rows L2
section
variable {X : Cx} {e : Expr} {es : List Expr} {te : TE} {t : TA} {p : Pos}
/-- *e among the items, e a tuple -/
def tStar (K : PySem.W.Frag) (te : TE) (t : TA) : TA := fun σ H Q => te σ H fun x H1 => ∃ a xs, x = .ref a ∧ SqT K H1 a xs ∧ t σ H1 fun ys H2 => Q (xs ++ ys) H2
theorem pa_star (he : PE X e te) (hr : PA X es t) (hs : starEach (.Starred e p :: es) X.env = (true, eval e X.env) :: starEach es X.env := by rfl) : PA X (.Starred e p :: es) (tStar X.K te t) := by
  refine ⟨fun pos pins s σ H Q I h => ?_⟩
  rw [hs]
  show wpAny _ _ (spliced ((true, (do let v ← eval e X.env; standAt pos; pure v)) :: backTo pos (starEach es X.env))) _ _ s
  refine PySem.W.ks_spliced (thn (he.run pins s σ H _ I h) fun u s1 ⟨x, H1, I1, r1, a, xs, ex, hq, q1⟩ => ?_)
  subst ex
  cases r1
  refine star_tup I1 hq fun us s2 I2 rv => ?_
  exact thn (hr.run pos pins s2 σ H1 _ I2 q1) fun ws s3 ⟨ys, H2, I3, r2, q2⟩ => ⟨xs ++ ys, H2, I3, rv.append r2, q2⟩
theorem rv_star {K : PySem.W.Frag} {σ : L2.St} {H : Hp} {QA : List V → Hp → Prop} (q : te σ H fun x H1 => ∃ a xs, x = .ref a ∧ SqT K H1 a xs ∧ t σ H1 fun ys H2 => QA (xs ++ ys) H2) : tStar K te t σ H QA := q
end
end XR

/-! more operations, built-ins -/
namespace DA
open PySem PySem.Spec PyProof.Rows L2 XR
section
variable {X : Cx} {EX : Exs} {W : WX} {a b c e : Expr} {es : List Expr} {ga gb gc gd : En → Rs PyData} {gl : En → Rs (List PyData)} {x : Str} {p q p2 pos : Pos} {T : String}
variable {So : Addr → Prop} {Bs : Hp} {τ : Pin} {μ : Mu} {σ : Sg} {H : Hp} {η : En}
def oIs (x y : PyData) : Option PyData := match y with
  | .none => some (.bool (isNo x))
  | .bool b => match x with
    | .bool a => some (.bool (decide (a = b)))
    | _ => none
  | _ => none
def oNis (x y : PyData) : Option PyData := match y with
  | .none => some (.bool (!isNo x))
  | .bool b => match x with
    | .bool a => some (.bool (!decide (a = b)))
    | _ => none
  | _ => none
theorem do_is : DO X (compareOp .Is) oIs := by
  intro So Bs τ μ σ η H vx vy x y z Q ez sr hx hy q
  unfold oIs at ez
  split at ez
  · cases ez
    exact ⟨_, op_isN, dq_non hy, by rw [isNo_iff hx]; exact q _ H sr (.bl _)⟩
  · split at ez
    · cases ez
      exact ⟨_, op_isBl, _, _, dq_bl hx, dq_bl hy, q _ H sr (.bl _)⟩
    · cases ez
  · cases ez
theorem do_nis : DO X (compareOp .IsNot) oNis := by
  intro So Bs τ μ σ η H vx vy x y z Q ez sr hx hy q
  unfold oNis at ez
  split at ez
  · cases ez
    exact ⟨_, op_notN, dq_non hy, by rw [isNo_iff hx]; exact q _ H sr (.bl _)⟩
  · split at ez
    · cases ez
      exact ⟨_, op_notBl, _, _, dq_bl hx, dq_bl hy, q _ H sr (.bl _)⟩
    · cases ez
  · cases ez
/-! ### max, min, str -/
theorem fmax_ge : ∀ (ns : List Int) (n : Int), n ≤ ns.foldl max n ∧ ∀ y ∈ ns, y ≤ ns.foldl max n
  | [], n => ⟨Int.le_refl _, fun y h => by cases h⟩
  | m :: ns, n => by
    obtain ⟨h1, h2⟩ := fmax_ge ns (max n m)
    refine ⟨by show n ≤ ns.foldl max (max n m); omega, fun y h => ?_⟩
    rcases List.mem_cons.mp h with rfl | h
    · show y ≤ ns.foldl max (max n y); omega
    · exact h2 y h
theorem fmax_mem : ∀ (ns : List Int) (n : Int), ns.foldl max n = n ∨ ns.foldl max n ∈ ns
  | [], n => .inl rfl
  | m :: ns, n => by
    rcases fmax_mem ns (max n m) with h | h
    · by_cases hm : m ≤ n
      · rw [Int.max_eq_left hm] at h
        exact .inl (by show ns.foldl max (max n m) = n; rw [Int.max_eq_left hm]; exact h)
      · rw [Int.max_eq_right (by omega)] at h
        exact .inr (by show ns.foldl max (max n m) ∈ m :: ns; rw [Int.max_eq_right (by omega), h]; exact List.mem_cons_self)
    · exact .inr (List.mem_cons_of_mem _ h)
theorem fmin_le : ∀ (ns : List Int) (n : Int), ns.foldl min n ≤ n ∧ ∀ y ∈ ns, ns.foldl min n ≤ y
  | [], n => ⟨Int.le_refl _, fun y h => by cases h⟩
  | m :: ns, n => by
    obtain ⟨h1, h2⟩ := fmin_le ns (min n m)
    refine ⟨by show ns.foldl min (min n m) ≤ n; omega, fun y h => ?_⟩
    rcases List.mem_cons.mp h with rfl | h
    · show ns.foldl min (min n y) ≤ y; omega
    · exact h2 y h
theorem fmin_mem : ∀ (ns : List Int) (n : Int), ns.foldl min n = n ∨ ns.foldl min n ∈ ns
  | [], n => .inl rfl
  | m :: ns, n => by
    rcases fmin_mem ns (min n m) with h | h
    · by_cases hm : n ≤ m
      · rw [Int.min_eq_left hm] at h
        exact .inl (by show ns.foldl min (min n m) = n; rw [Int.min_eq_left hm]; exact h)
      · rw [Int.min_eq_right (by omega)] at h
        exact .inr (by show ns.foldl min (min n m) ∈ m :: ns; rw [Int.min_eq_right (by omega), h]; exact List.mem_cons_self)
    · exact .inr (List.mem_cons_of_mem _ h)
def oMax (ds : List PyData) : Option PyData := match ds with
  | [.int i, .int j] => some (.int (if j > i then j else i))
  | [.list xs] => match intsOf xs with
    | some (n :: ns) => some (.int (ns.foldl max n))
    | _ => none
  | _ => none
def oMin (ds : List PyData) : Option PyData := match ds with
  | [.int i, .int j] => some (.int (if j < i then j else i))
  | [.list xs] => match intsOf xs with
    | some (n :: ns) => some (.int (ns.foldl min n))
    | _ => none
  | _ => none
theorem dc_max (hc : X.calm = true) : DCl X (.builtin "max") oMax := by
  intro So Bs τ μ σ η H vs ds z Q ez sr h q
  unfold oMax at ez
  split at ez
  · cases ez
    obtain ⟨v, w, rfl, hv, hw⟩ := dq2 h
    rw [dq_int hv, dq_int hw]
    exact ⟨_, call_max2 hc, _, _, rfl, q _ H sr (.int _)⟩
  · split at ez
    · next n ns e =>
      cases ez
      obtain ⟨v, rfl, hv⟩ := dq1 h
      obtain ⟨l, ws, rfl, h1, h2⟩ := dq_lst hv
      have := ints_all e h2
      subst this
      refine ⟨_, cr_max hc, l, n :: ns, rfl, SqL.of (same_vis _ _ h1), Nat.succ_pos _, fun m hm hall => ?_⟩
      have e1 : ns.foldl max n ∈ n :: ns := by
        rcases fmax_mem ns n with h | h
        · rw [h]; exact List.mem_cons_self
        · exact List.mem_cons_of_mem _ h
      have e2 : m ≤ ns.foldl max n := by
        rcases List.mem_cons.mp hm with rfl | h
        · exact (fmax_ge ns _).1
        · exact (fmax_ge ns n).2 m h
      have e3 : m = ns.foldl max n := Int.le_antisymm e2 (hall _ e1)
      rw [e3]
      exact q _ H sr (.int _)
    · cases ez
  · cases ez
theorem dc_min (hc : X.calm = true) : DCl X (.builtin "min") oMin := by
  intro So Bs τ μ σ η H vs ds z Q ez sr h q
  unfold oMin at ez
  split at ez
  · cases ez
    obtain ⟨v, w, rfl, hv, hw⟩ := dq2 h
    rw [dq_int hv, dq_int hw]
    exact ⟨_, call_min2 hc, _, _, rfl, q _ H sr (.int _)⟩
  · split at ez
    · next n ns e =>
      cases ez
      obtain ⟨v, rfl, hv⟩ := dq1 h
      obtain ⟨l, ws, rfl, h1, h2⟩ := dq_lst hv
      have := ints_all e h2
      subst this
      refine ⟨_, cr_min hc, l, n :: ns, rfl, SqL.of (same_vis _ _ h1), Nat.succ_pos _, fun m hm hall => ?_⟩
      have e1 : ns.foldl min n ∈ n :: ns := by
        rcases fmin_mem ns n with h | h
        · rw [h]; exact List.mem_cons_self
        · exact List.mem_cons_of_mem _ h
      have e2 : ns.foldl min n ≤ m := by
        rcases List.mem_cons.mp hm with rfl | h
        · exact (fmin_le ns _).1
        · exact (fmin_le ns n).2 m h
      have e3 : m = ns.foldl min n := Int.le_antisymm (hall _ e1) e2
      rw [e3]
      exact q _ H sr (.int _)
    · cases ez
  · cases ez
def oStr (ds : List PyData) : Option PyData := match ds with
  | [.int i] => if i.natAbs.log2 < 1920 then some (.str (toString i)) else none
  | [.str a] => some (.str a)
  | _ => none
theorem dc_str : DCl X (.type "str") oStr := by
  intro So Bs τ μ σ η H vs ds z Q ez sr h q
  unfold oStr at ez
  split at ez
  · split at ez
    · next hz =>
      cases ez
      obtain ⟨v, rfl, hv⟩ := dq1 h
      rw [dq_int hv]
      exact ⟨_, call_str_int, _, rfl, hz, q _ H sr (.str _)⟩
    · cases ez
  · cases ez
    obtain ⟨v, rfl, hv⟩ := dq1 h
    rw [dq_str hv]
    exact ⟨_, SkE.call_str_str, _, rfl, q _ H sr (.str _)⟩
  · cases ez
/-! ### isinstance of a built-in class; type(x) is T -/
def tyN : PyData → Option String
  | .none => some "NoneType"
  | .bool _ => some "bool"
  | .int _ => some "int"
  | .str _ => some "str"
  | .list _ => some "list"
  | .tuple _ => some "tuple"
  | .dict _ => none
theorem ty_of {K : PySem.W.Frag} {v : V} {d : PyData} (h : Dq K H v d) (e : tyN d = some T) : TyX K H v (.type T) ∧ TyB K H v T := by
  cases h with
  | non => cases e; exact ⟨.base .non, .non⟩
  | bl b => cases e; exact ⟨.base (.bl b), .bl b⟩
  | int b => cases e; exact ⟨.base (.int b), .int b⟩
  | str b => cases e; exact ⟨.base (.str b), .str b⟩
  | lst h1 _ => cases e; exact ⟨.base (.lst h1), .lst (SqL.of h1)⟩
  | tup h1 _ =>
    cases e
    refine ⟨?_, .tup h1⟩
    rcases h1 with (h1 | ⟨o, h1⟩) | h1
    · exact .base (.tup h1)
    · exact .fTuple h1
    · obtain ⟨o, its, n, h2, h3, _⟩ := h1
      exact .kTuple h2 h3
  | dic _ _ => cases e
  | ins _ _ _ _ => cases e
  | exc _ _ _ => cases e
  | exb _ => cases e
  | scr _ _ => cases e
/-- isinstance(e, T), T built-in -/
def eIsi (T : String) (ga : En → Rs PyData) (η : En) : Rs PyData := (ga η).bind fun x η1 => ofO ((tyN x).bind fun n => (kitB n T).map PyData.bool) η1
theorem de_isi (hI : Gl X "isinstance") (mI : X.mg "isinstance" = none) (hT : Gl X x) (mT : X.mg x = none) (hv : bootBuiltins x = some (.type T)) (ha : DE X EX W e ga) (hn : x ≠ "__name__" := by decide) (hd : (x == ("__debug__" : Str)) = false := by decide)
    (he : starEach [e, .Name x q] X.env = (false, eval e X.env) :: starEach [.Name x q] X.env := by rfl) (hpl : (backTo pos (starEach [.Name x q] X.env)).any (·.1) = false := by rfl)
    (hs : starEach [.Name x q] X.env = (false, eval (.Name x q) X.env) :: starEach [] X.env := by rfl) :
    DE X EX W (.Call (.Name "isinstance" p) [e, .Name x q] [] pos) (eIsi T ga) := by
  intro So Bs τ μ σ H η Q sr h
  refine ⟨_, pe_callB call_isi hI mI (by decide +kernel) (pa_cons we (pa_cons (pe_bltn hT mT hv (v := .ty T) rfl hn hd) pa_nil hs) he) (by decide) (by decide) he hpl, ?_⟩
  refine ha.seq sr h fun y η1 H1 v sr1 s1 hx h1 => ?_
  obtain ⟨z, ez, hq⟩ := post_ofO h1
  cases e1 : tyN y with
  | none => rw [e1] at ez; cases ez
  | some n =>
    rw [e1] at ez
    cases e2 : kitB n T with
    | none => simp only [Option.bind_some, e2] at ez; cases ez
    | some b =>
      simp only [Option.bind_some, e2] at ez
      cases ez
      exact ⟨v, .ty T, .type n, .type T, b, rfl, .ty T, (ty_of (Dq.mono same_vis _ _ hx) e1).1, kit_ty e2, hq H1 sr1 _ (.bl b)⟩
/-- type(e) is T, T built-in -/
def eTyIs (T : String) (ga : En → Rs PyData) (η : En) : Rs PyData := (ga η).bind fun x η1 => ofO ((tyN x).map fun n => PyData.bool (decide (n = T))) η1
theorem de_tyIs (hI : Gl X "type") (mI : X.mg "type" = none) (hT : Gl X x) (mT : X.mg x = none) (hv : bootBuiltins x = some (.type T)) (ha : DE X EX W e ga) (hm : behindInMarks .Is (.Name x q) = false := by rfl) (hn : x ≠ "__name__" := by decide) (hd : (x == ("__debug__" : Str)) = false := by decide)
    (he : starEach [e] X.env = (false, eval e X.env) :: starEach [] X.env := by rfl) (hpl : (backTo p2 (starEach [] X.env)).any (·.1) = false := by rfl) :
    DE X EX W (.Compare (.Call (.Name "type" p) [e] [] p2) [.Is] [.Name x q] pos) (eTyIs T ga) := by
  intro So Bs τ μ σ H η Q sr h
  refine ⟨_, pe_cmpR op_isTyB (pe_callTy call_type1 hI mI (by decide +kernel) (pa_cons we pa_nil he) (by decide) (by decide) he hpl) (pe_bltn hT mT hv (v := .ty T) rfl hn hd) hm, ?_⟩
  refine ha.seq sr h fun y η1 H1 v sr1 s1 hx h1 => ?_
  obtain ⟨z, ez, hq⟩ := post_ofO h1
  cases e1 : tyN y with
  | none => rw [e1] at ez; cases ez
  | some n =>
    rw [e1] at ez
    cases ez
    exact ⟨v, n, rfl, (ty_of (Dq.mono same_vis _ _ hx) e1).2, n, T, rfl, rfl, hq H1 sr1 _ (.bl _)⟩
/-! ### three comparisons in a chain -/
def tChain3 (r r' r'' : R2) (ta tb tc td : TE) : TE := fun σ H Q => ta σ H fun x H1 => tb σ H1 fun y H2 => r x y H2 fun z H3 => ∃ k, z = .bl k ∧
  (if k = true then tc σ H3 fun w' H4 => r' y w' H4 fun z' H5 => ∃ k', z' = .bl k' ∧ (if k' = true then td σ H5 fun u' H6 => r'' w' u' H6 Q else Q (.bl false) H5) else Q (.bl false) H3)
theorem pe_chain3 {d : Expr} {ta tb tc td : TE} {op op' op'' : CmpOp} {r r' r'' : R2} (ho : OpR X (compareOp op) r) (ho' : OpR X (compareOp op') r') (ho'' : OpR X (compareOp op'') r'') (ha : PE X a ta) (hb : PE X b tb) (hc : PE X c tc) (hd : PE X d td)
    (hm : lastMarks [op, op', op''] [b, c, d] = false := by with_unfolding_all rfl) : PE X (.Compare a [op, op', op''] [b, c, d] pos) (tChain3 r r' r'' ta tb tc td) := by
  refine ⟨fun pins s σ H Q I h => ?_⟩
  refine Compare_chain (thn (ha.run pins s σ H _ I h) fun v s1 ⟨x, H1, I1, r1, q1⟩ => chain_link (thn (hb.run pins s1 σ H1 _ I1 q1) fun u s2 ⟨y, H2, I2, r2, q2⟩ =>
    thn (ho pins s2 σ H2 x y v u _ I2 r1 r2 q2) fun d s3 ⟨z, H3, I3, r3, k, e, q3⟩ => ?_)) hm
  subst e
  cases r3
  refine wpAny_truthy_bool ?_
  cases k with
  | false => exact ite_ff ⟨.bl false, H3, I3, rfl, q3⟩
  | true =>
    refine ite_tt (chain_link (thn (hc.run pins s3 σ H3 _ I3 q3) fun w' s4 ⟨z', H4, I4, r4, q4⟩ => thn (ho' pins s4 σ H4 y z' u w' _ I4 r2 r4 q4) fun d2 s5 ⟨z5, H5, I5, r5, k5, e5, q5⟩ => ?_))
    subst e5
    cases r5
    refine wpAny_truthy_bool ?_
    cases k5 with
    | false => exact ite_ff ⟨.bl false, H5, I5, rfl, q5⟩
    | true => exact ite_tt (chain_last (thn (hd.run pins s5 σ H5 _ I5 q5) fun w6 s6 ⟨z6, H6, I6, r6, q6⟩ => ho'' pins s6 σ H6 z' z6 w' w6 Q I6 r4 r6 q6))
def eChain3 (o o' o'' : PyData → PyData → Option PyData) (ga gb gc gd : En → Rs PyData) (η : En) : Rs PyData := (ga η).bind fun x η1 => (gb η1).bind fun y η2 => match o x y with
  | some (.bool true) => (gc η2).bind fun z η3 => match o' y z with
    | some (.bool true) => (gd η3).bind fun u η4 => ofO (o'' z u) η4
    | some (.bool false) => .ok (.bool false) η3
    | _ => .no
  | some (.bool false) => .ok (.bool false) η2
  | _ => .no
theorem de_chain3 {d : Expr} {op op' op'' : CmpOp} {o o' o'' : PyData → PyData → Option PyData} (ho : DO X (compareOp op) o) (ho' : DO X (compareOp op') o') (ho'' : DO X (compareOp op'') o'') (ha : DE X EX W a ga) (hb : DE X EX W b gb) (hc : DE X EX W c gc) (hd : DE X EX W d gd)
    (hm : lastMarks [op, op', op''] [b, c, d] = false := by with_unfolding_all rfl) : DE X EX W (.Compare a [op, op', op''] [b, c, d] pos) (eChain3 o o' o'' ga gb gc gd) := by
  intro So Bs τ μ σ H η Q sr h
  refine ⟨_, pe_chain3 wo wo wo we we we we hm, ?_⟩
  refine ha.seq sr h fun x η1 H1 v sr1 s1 hx h1 => hb.seq sr1 h1 fun {μ2} y η2 H2 u sr2 s2 hy h2 => ?_
  split at h2
  · next eo =>
    refine ho So (mx μ2 η2 H2) τ σ η2 H2 v u x y _ _ eo sr2.max (Dq.mono s2 _ _ hx) hy fun v3 H3 sr3' hv3 => ⟨true, dq_bl hv3, iteT ?_⟩
    have sr3 := sr2.back sr3'
    have hy3 := Dq.mono (SR.grown sr3') _ _ hy
    refine hc.seq sr3 h2 fun {μ4} z η4 H4 w sr4 s4 hz h4 => ?_
    split at h4
    · next eo2 =>
      refine ho' So (mx μ4 η4 H4) τ σ η4 H4 u w y z _ _ eo2 sr4.max (Dq.mono s4 _ _ hy3) hz fun v5 H5 sr5' hv5 => ⟨true, dq_bl hv5, iteT ?_⟩
      have sr5 := sr4.back sr5'
      have hz5 := Dq.mono (SR.grown sr5') _ _ hz
      refine hd.seq sr5 h4 fun u6 η6 H6 w6 sr6 s6 hu h6 => ?_
      obtain ⟨z2, ez, hq⟩ := post_ofO h6
      exact ho'' So Bs τ σ η6 H6 w w6 z u6 z2 Q ez sr6 (Dq.mono s6 _ _ hz5) hu fun v H' s r => hq H' s v r
    · next eo2 =>
      exact ho' So Bs τ σ η4 H4 u w y z _ _ eo2 sr4 (Dq.mono s4 _ _ hy3) hz fun v5 H5 sr5 hv5 => ⟨false, dq_bl hv5, iteF (h4 H5 sr5 _ (.bl _))⟩
    · exact h4.elim
  · next eo =>
    exact ho So Bs τ σ η2 H2 v u x y _ _ eo sr2 (Dq.mono s2 _ _ hx) hy fun v3 H3 sr3 hv3 => ⟨false, dq_bl hv3, iteF (h2 H3 sr3 _ (.bl _))⟩
  · exact h2.elim
/-! ### a star before a tuple -/
theorem dl_star (ha : DE X EX W e ga) (hl : DL X EX W es gl) (hs : starEach (.Starred e p :: es) X.env = (true, eval e X.env) :: starEach es X.env := by rfl) : DL X EX W (.Starred e p :: es) (lStar ga gl) := by
  intro So Bs τ μ σ H η Q sr h
  refine ⟨_, pa_star we wa hs, ?_⟩
  refine ha.seq sr h fun x η1 H1 v sr1 s1 hx h1 => ?_
  split at h1
  · obtain ⟨a, vs, rfl, hq, hd⟩ := dq_tup hx
    refine ⟨a, vs, rfl, same_sqt same_vis hq, ?_⟩
    refine hl.seq sr1 h1 fun y η2 H2 u sr2 s2 hy h2 => ?_
    exact h2 H2 sr2 _ ((DqAll.mono s2 _ _ hd).append hy)
  · exact h1.elim
/-! ### a sum of lists is a new list -/
def nAdd (ga gb : En → Rs PyData) (η : En) : Rs (List PyData) := (ga η).bind fun x η1 => (gb η1).bind fun y η2 => match x, y with
  | .list a, .list b => if a.length + b.length ≤ sizeLine then .ok (a ++ b) η2 else .no
  | _, _ => .no
theorem dn_add (ha : DE X EX W a ga) (hb : DE X EX W b gb) : DN X EX W (.BinOp a .Add b pos) (nAdd ga gb) := by
  intro So Bs τ μ σ H η Q sr h
  refine ⟨_, pe_op op_cat we we, ?_⟩
  unfold nAdd at h
  refine ha So (mx μ η H) τ σ H η _ sr.max ?_
  cases hr : ga η with
  | no => rw [hr] at h; exact h
  | ex n as η1 => rw [hr] at h; exact fun H1 cls dd sr1 hx => h H1 cls dd (sr.back sr1) hx
  | ok x η1 =>
    rw [hr] at h
    intro μ1 H1 sr1' v hv
    have sr1 := sr.back sr1'
    refine hb So (mx μ1 η1 H1) τ σ H1 η1 _ sr1.max ?_
    cases hr2 : gb η1 with
    | no => simp only [Rs.bind, hr2] at h; exact h
    | ex n as η2 => simp only [Rs.bind, hr2] at h; exact fun H2 cls dd sr2 hx => h H2 cls dd (sr1.back sr2) hx
    | ok y η2 =>
      simp only [Rs.bind, hr2] at h
      intro μ2 H2 sr2' u hu
      have sr2 := sr1.back sr2'
      have hv2 := Dq.mono (SR.grown sr2') _ _ hv
      split at h
      · split at h
        · next hz =>
          obtain ⟨l, vs, rfl, h1, h2⟩ := dq_lst hv2
          obtain ⟨m, ws, rfl, h3, h4⟩ := dq_lst hu
          refine ⟨l, m, vs, ws, rfl, rfl, same_vis _ _ h1, same_vis _ _ h3, by rw [h2.len, h4.len]; exact hz, fun p hp => ?_⟩
          refine h p (vs ++ ws) _ (sr2.hide hp) (sr2.so_ne hp) (sr2.fresh hp) (DqAll.mono ?_ _ _ (h2.append h4))
          exact vis_same fun b w k1 k2 k3 => ⟨(upd_ne (ne_of_none k1 hp)).trans k1, k2, fun z => z.elim k3 (ne_of_none k1 hp)⟩
        · exact h.elim
      · exact h.elim
end
end DA

/-! exceptions: raised, caught and kept, asked -/
namespace DA
open PySem PySem.Spec PyProof.Rows L2 XR
/-- sorts of exceptions: the n-th class, its own dict's names (none: it has no dict) -/
def exs (K : PySem.W.Frag) (cs : Nat → Addr) (nms : Nat → Option (List Str)) : Exs where
  R n as cls dd H := cls = .ref (cs n) ∧ match nms n with
    | none => as = [] ∧ dd = none
    | some ns => ∃ d fs, dd = some d ∧ H d = some (.xd fs) ∧ DqFs K H fs ((ns.map PyData.str).zip as)
  mono := fun {n as cls dd H H'} s ⟨e, h⟩ => by
    refine ⟨e, ?_⟩
    revert h
    cases nms n with
    | none => exact fun h => h
    | some ns => exact fun ⟨d, fs, e1, e2, e3⟩ => ⟨d, fs, e1, s _ _ e2, DqFs.mono' s e3⟩
/-- caught: as data -/
def excD (cs : Nat → Addr) (nms : Nat → Option (List Str)) (n : Nat) (as : List PyData) : PyData := match nms n with
  | none => .dict [(.bool false, .int (cs n : Nat))]
  | some ns => .dict ((.bool true, .int (cs n : Nat)) :: (ns.map PyData.str).zip as)
section
variable {X : Cx} {EX : Exs} {W : WX} {a b c e : Expr} {ga gb gc gd : En → Rs PyData} {pos : Pos} {cs : Nat → Addr} {nms : Nat → Option (List Str)}
variable {K : PySem.W.Frag} {So : Addr → Prop} {Bs : Hp} {τ : Pin} {μ : Mu} {σ : Sg} {H : Hp} {η : En}
theorem exc_dq (sr : SR K So Bs τ μ σ H η) {n : Nat} {as : List PyData} {cls : Value} {dd : Option Addr} (h : exs K cs nms n as cls dd (vis So μ η H)) {p : Addr} (hp : H p = none) :
    ∃ C, cls = .ref C ∧ SR K So Bs τ μ σ (upd H p (exl p C dd)) η ∧ Dq K (vis So μ η (upd H p (exl p C dd))) (.ref p) (excD cs nms n as) := by
  obtain ⟨e, h⟩ := h
  refine ⟨_, e, sr.new hp, ?_⟩
  have ea : ExAt (vis So μ η (upd H p (exl p (cs n) dd))) p (cs n) dd := exAt_exl (sr.vis_at hp)
  unfold excD
  revert h
  cases nms n with
  | none =>
    rintro ⟨rfl, rfl⟩
    exact .exb ea
  | some ns =>
    rintro ⟨d, fs, rfl, e2, e3⟩
    exact .exc ea (.inl (vis_new hp _ _ e2)) (DqFs.mono' (vis_new hp) e3)
/-! ### raising -/
def oRaise (n : Nat) (η : En) : Ot := .ex n [] η
theorem ds_raiseB {C : Addr} {n : Nat} (hc : X.calm = true) (tk : Takes X W) (he : PMk X e (fun _ H Q => Q (.ref C) none H)) (hex : ∀ H, EX n [] (.ref C) none H) : DS X EX W (.Raise (some e) none pos) (oRaise n) := by
  intro So Bs τ μ σ H η D sr hp
  exact ⟨_, ps_raise hc tk he, hp σ H (.ref C) none sr (hex _)⟩
/-- an own class of exceptions with nothing of its own, raised with a text -/
structure RaB (K : PySem.W.Frag) (mg : Str → Option Value) (x : Str) (C : Addr) : Prop where
  q : ∃ B nw it bm, ExcBaseFacts B nw it bm ∧ PySem.W.excIn K C bm nw = true
  g : mg x = some (.ref C)
  k : PySem.W.keepIn K (.ref C) = true
  s : PySem.W.subIn K (.ref C) (.type "BaseException") = some true
  t : PySem.W.typeIn K (.ref C) = some (.type "type")
theorem ds_raiseT {x m : Str} {j : Nat} {p p2 pos2 : Pos} {C : Addr} {n : Nat} (R : RaB X.K X.mg x C) (hc : X.calm = true) (tk : Takes X W) (hg : Gl X x) (hex : ∀ H, EX n [] (.ref C) none H) (hdb : (x == ("__debug__" : Str)) = false := by decide) :
    DS X EX W (.Raise (some (.Call (.Name x p) [.Constant (.str m) j p2] [] pos2)) none pos) (oRaise n) := by
  obtain ⟨B, nw, it, bm, F, q⟩ := R.q
  exact ds_raiseB hc tk (pmk_own F q R.g R.k (raises_own R.s R.t) hg hdb) hex
/-! ### try, the exception kept -/
def oTryK (cs : Nat → Addr) (nms : Nat → Option (List Str)) (i j : Nat) (g : En → Ot) (η : En) : Ot := match g η with
  | .ex n as η1 => .nx (((η1.set i (some (.d (excD cs nms n as)))).set j (some (.d (excD cs nms n as)))).set i none)
  | r => r
theorem ds_tryK {x n m : Str} {c : Value} {i j : Nat} {body : List Stmt} {np pos pos' mp np2 ap : Pos} {g : En → Ot} (hs : X.stack = X.env :: X.outer) (hf : X.env.frame = some X.env.locals) (hN : X.N.Nodup) (hi : X.N[i]? = some n) (hj : X.N[j]? = some m) (hij : i ≠ j) (hln : X.env.kindOf n = some .local) (hlm : X.env.kindOf m = some .local) (hx : X.ex = []) (hc : Names X x c) (tk : Takes X W)
    (hexm : ∀ k as cls dd H, exs X.K cs nms k as cls dd H → PySem.W.exmOne X.K cls c = some true)
    (hb : ∀ (W : WX) (pn : List (Addr × Obj)) (xe : Value → Shared → Prop), Takes (X.tr pn xe) W → PassesOwn (model X.prog X.w) X.A X.env xe → DSs (X.tr pn xe) (exs X.K cs nms) W body g)
    (hpn : X.pn = [])
    (hsu : ∀ (a : Addr) (oe : Obj) (pn : List (Addr × Obj)), PSs (X.suite a ((a, oe) :: pn)) [.Assign [.Name m mp] (.Name n np2) ap] (tAsg (tVar i) (gName j))) :
    DS X (exs X.K cs nms) W (.Try body [.ExceptHandler (some (.Name x np)) (some n) [.Assign [.Name m mp] (.Name n np2) ap] pos'] [] [] pos) (oTryK cs nms i j g) := by
  intro So Bs τ μ σ H η D sr hp
  refine ⟨_, ps_try_keep (tb := fun W' D σ H => ∀ pn xe, Takes (X.tr pn xe) W' → PassesOwn (model X.prog X.w) X.A X.env xe → Wss (X.tr pn xe) body D σ H) hs hf hN hi hj hij hln hlm hx hc tk
    (fun W' pn xe tk ps => ⟨fun pins s σ H D I h => wss.run pins s σ H D I (h pn xe tk ps)⟩) hpn hsu, ?_⟩
  intro pn xe tk' ps
  refine hb _ pn xe tk' ps So Bs τ σ H η D sr ?_
  unfold oTryK at hp
  cases hr : g η with
  | ex k as η1 =>
    rw [hr] at hp
    intro μ1 σ1 H1 cls dd sr1 hx1
    refine ⟨true, hexm _ _ _ _ _ hx1, fun _ => ?_, fun z => by cases z⟩
    obtain ⟨C, ec, _⟩ : ∃ C, cls = .ref C ∧ True := ⟨_, hx1.1, trivial⟩
    refine ⟨C, ec, fun p hpn => ?_⟩
    obtain ⟨C', ec', sr2, hd⟩ := exc_dq sr1 hx1 hpn
    rw [ec] at ec'
    cases ec'
    exact hp _ _ (((sr2.setD (n := i) hd).setD (n := j) (Dq.mono same_setD _ _ hd)).drop)
  | nx η1 => rw [hr] at hp; exact hp
  | bk η1 => rw [hr] at hp; exact hp
  | ct η1 => rw [hr] at hp; exact hp
  | rt d η1 => rw [hr] at hp; exact hp
  | no => rw [hr] at hp; exact hp
/-! ### its attributes -/
def getF (f : Str) : List (PyData × PyData) → Option PyData
  | (.str k, d) :: r => if (f == k) = true then some d else getF f r
  | _ => none
theorem DqFs.get {Hv : Hp} {f : Str} {d : PyData} : ∀ {fs : List (Str × V)} {kvs : List (PyData × PyData)}, DqFs K Hv fs kvs → getF f kvs = some d → ∃ v, fs.lookup f = some v ∧ Dq K Hv v d
  | _, _, .nil, h => by cases h
  | _, _, .cons (k := k) hv t, h => by
    unfold getF at h
    rw [List.lookup_cons]
    split at h
    · next e =>
      cases h
      rw [e]
      exact ⟨_, rfl, hv⟩
    · next e =>
      have e' : (f == k) = false := by simpa using e
      rw [e']
      exact DqFs.get t h
theorem kv_nobool {Hv : Hp} : ∀ {ws : List (Key × V)} {kvs : List (PyData × PyData)}, DqKv K Hv ws kvs → ∀ {b : Bool} {d : PyData} {r : List (PyData × PyData)}, kvs = (.bool b, d) :: r → False
  | _, _, .nil, _, _, _, e => by cases e
  | _, _, .cons (k := k) _ _, _, _, _, e => by
    have := (Prod.mk.inj (List.cons.inj e).1).1
    cases k <;> cases this
def eXat (okC : Int → Bool) (f : Str) (ga : En → Rs PyData) (η : En) : Rs PyData := (ga η).bind fun x η1 => match x with
  | .dict ((.bool true, .int C) :: kvs) => if okC C = true then ofO (getF f kvs) η1 else .no
  | _ => .no
theorem de_xat {okC : Int → Bool} {f : Str} (T : ∀ C : Addr, okC (C : Nat) = true → ExcK X.K C ∧ PySem.W.findIn X.K (.ref C) f = some none) (ha : DE X EX W e ga) (hb : attributeBase e f X.env (eval e X.env) = eval e X.env := by rfl) : DE X EX W (.Attribute e f pos) (eXat okC f ga) := by
  intro So Bs τ μ σ H η Q sr h
  refine ⟨_, pe_xfl we hb, ?_⟩
  refine ha.seq sr h fun x η1 H1 v sr1 s1 hx h1 => ?_
  split at h1
  · split at h1
    · next hok =>
      obtain ⟨d, ed, hq⟩ := post_ofO h1
      cases hx with
      | dic g1 g2 => exact (kv_nobool g2 rfl).elim
      | exc h1 h2 h3 =>
        obtain ⟨tc, tf⟩ := T _ hok
        obtain ⟨v, ev, hv⟩ := DqFs.get h3 ed
        exact ⟨_, _, _, _, v, rfl, h1.same same_vis, h2.same same_vis, tc, tf, ev, hq H1 sr1 v hv⟩
    · exact h1.elim
  · exact h1.elim
end
end DA

/-! calls by names -/
namespace DA
open PySem PySem.Spec PyProof.Rows L2 XR
section
variable {X : Cx} {CX : CXT} {k n : Nat} {f : Addr} {fd : FuncData} {ps ks : List Str} {sp : Sp} {E : XK} {x : Str} {p pos kpos : Pos} {kws : List Keyword} {tk : TA} {g : List Value → List Value → List Value} {gV : List V → List V → List V} {nm : Option Str}
variable {EX : Exs} {W : WX} {e : Expr} {ga : En → Rs PyData} {gl : En → Rs (List PyData)}
variable {So : Addr → Prop} {Bs : Hp} {τ : Pin} {μ : Mu} {σ : Sg} {H : Hp} {η : En}
/-- f(k = v, ..) -/
theorem pe_callN0' (F : FnOk X.prog X.w X.K X.mg X.base CX k f fd ps sp) (hr : Room k X.A) (hg : Gl X x) (hm : X.mg x = some (.ref f)) (hk : PySem.W.keepIn X.K (.ref f) = true) (hb : KBn X.K fd ps 0 ks g gV) (hx : Passes CX X E)
    (hkw : PK X kws tk) (hall : (backToKw pos (keywordEach kws X.env)).all (·.1.isSome) = true := by rfl) (hks : (backToKw pos (keywordEach kws X.env)).filterMap (·.1) = ks := by rfl)
    (hdb : (x == ("__debug__" : Str)) = false := by decide)
    (hpl : ((backTo pos (starEach [] X.env)).any (·.1) || (backToKw pos (keywordEach kws X.env)).any (·.1.isNone)) = false := by rfl) :
    PE X (.Call (.Name x p) [] kws pos) (tCallN 0 ks.length sp gV E tNil tk) := by
  refine ⟨fun pins s σ H Q I h => ?_⟩
  refine wpAny_Call_Name_kw (ld_glob I hg hm ?_ hdb)
  refine PySem.W.callWith_KW0 (h₀ := X.base) I.ok.mod.kin hk hall ?_ hpl
  refine thn (hkw.run pos pins s σ H _ I h) fun ws s2 ⟨zs, H2, I2, rz, l1, l2, q2⟩ => ⟨I2.kIn, ?_⟩
  rw [hks]
  exact run_fnN (us := []) F hr hb hx I2 .nil rz l1 l2 q2
def Wkw (X : Cx) (kws : List Keyword) (σ : Sg) (H : Hp) (Q : List V → Hp → Prop) : Prop := ∃ t, PK X kws t ∧ t σ H Q
theorem wkw : PK X kws (Wkw X kws) := ⟨fun pos pins s σ H Q I ⟨t, h, q⟩ => h.run pos pins s σ H Q I q⟩
/-- the values of the keywords -/
def DKw (X : Cx) (EX : Exs) (W : WX) (kws : List Keyword) (g : En → Rs (List PyData)) : Prop := ∀ So Bs τ {μ : Mu} σ H η Q, SR X.K So Bs τ μ σ H η →
  Post X.K So Bs τ σ EX W (g η) (fun ds η' μ' H' => ∀ vs, DqAll X.K (vis So μ' η' H') vs ds → Q vs H') → Wkw X kws σ H Q
theorem dk_nil : DKw X EX W [] lNil := by
  intro So Bs τ μ σ H η Q sr h
  exact ⟨_, pk_nil, h H sr [] .nil⟩
theorem DKw.seq {β : Type} {f : List PyData → En → Rs β} {P : β → En → Mu → Hp → Prop} {Q : List V → Hp → Prop} (ha : DKw X EX W kws gl) (sr : SR X.K So Bs τ μ σ H η) (h : Post X.K So Bs τ σ EX W ((gl η).bind f) P)
    (fin : ∀ {μ1 : Mu} x η1 H1 v, SR X.K So Bs τ μ1 σ H1 η1 → Same (vis So μ η H) (vis So μ1 η1 H1) → DqAll X.K (vis So μ1 η1 H1) v x → Post X.K So Bs τ σ EX W (f x η1) P → Q v H1) : Wkw X kws σ H Q := by
  refine ha So (mx μ η H) τ σ H η Q sr.max ?_
  cases hr : gl η with
  | no => rw [hr] at h; exact h
  | ok x η1 => rw [hr] at h; exact fun H1 sr1 v hv => fin x η1 H1 v (sr.back sr1) sr1.grown hv h
  | ex n as η1 => rw [hr] at h; exact fun H1 cls dd sr1 hx => h H1 cls dd (sr.back sr1) hx
theorem dk_cons (ha : DE X EX W e ga) (hl : DKw X EX W kws gl) : DKw X EX W (⟨nm, e, kpos⟩ :: kws) (lCons ga gl) := by
  intro So Bs τ μ σ H η Q sr h
  refine ⟨_, pk_cons we wkw, ?_⟩
  refine ha.seq sr h fun x η1 H1 v sr1 s1 hx h1 => hl.seq sr1 h1 fun y η2 H2 u sr2 s2 hy h2 => ?_
  exact h2 H2 sr2 _ (.cons (Dq.mono s2 _ _ hx) hy)
/-- a def with its promise, called by names -/
structure DfN (P : Program) (w : World) (K : PySem.W.Frag) (mg : Str → Option Value) (base : Heap) (EX : Exs) (k : Nat) (x : Str) (n : Nat) (ks : List Str) (gD : List PyData → List PyData) (G : List Sl → Rs PyData) : Prop where
  ex : ∃ (f : Addr) (fd : FuncData) (ps : List Str) (g : List Value → List Value → List Value) (gV : List V → List V → List V), mg x = some (.ref f) ∧ PySem.W.keepIn K (.ref f) = true ∧ KBn K fd ps 0 ks g gV ∧ FnOk P w K mg base (L2.CX P w) k f fd ps (spG K EX n G) ∧
    ∀ Hv zs ds, DqAll K Hv zs ds → zs.length = ks.length → DqAll K Hv (gV [] zs) (gD ds)
def eCallN (n m : Nat) (gD : List PyData → List PyData) (G : List Sl → Rs PyData) (gl : En → Rs (List PyData)) (η : En) : Rs PyData := (gl η).bind fun ds η1 => if ds.length = m then (match callO n G ((gD ds).map Ag.d) η1 with
  | .ex _ _ _ => .no
  | r => r) else .no
theorem dq_paired {K : PySem.W.Frag} {Hv : Hp} : ∀ {vs : List V} {ds : List PyData}, DqAll K Hv vs ds → Paired (AgR K Hv σ) vs (ds.map Ag.d)
  | _, _, .nil => .nil
  | _, _, .cons h t => .cons h (dq_paired t)
/-- the values put in the order of the parameters -/
def permI (is : List Nat) (l : List PyData) : List PyData := is.map fun i => l.getD i .none
theorem de_callN {m : Nat} {gD : List PyData → List PyData} {G : List Sl → Rs PyData} (F : DfN X.prog X.w X.K X.mg X.base EX k x n ks gD G) (hkl : ks.length = m) (hr : Room k X.A) (hg : Gl X x) (ha : DKw X EX W kws gl) (hall : (backToKw pos (keywordEach kws X.env)).all (·.1.isSome) = true := by rfl) (hks : (backToKw pos (keywordEach kws X.env)).filterMap (·.1) = ks := by rfl)
    (hdb : (x == ("__debug__" : Str)) = false := by decide) (hpl : ((backTo pos (starEach [] X.env)).any (·.1) || (backToKw pos (keywordEach kws X.env)).any (·.1.isNone)) = false := by rfl) :
    DE X EX W (.Call (.Name x p) [] kws pos) (eCallN n m gD G gl) := by
  subst hkl
  intro So Bs τ μ σ H η Q sr h
  obtain ⟨f, fd, ps, g, gV, hm, hk, hb, hF, hgV⟩ := F.ex
  refine ⟨_, pe_callN0' (E := fun _ _ _ => False) hF hr hg hm hk hb (passes_call (W := fun _ _ _ _ => False) takes0 fun _ _ _ _ h => h) wkw hall hks hdb hpl, ?_⟩
  refine ha.seq sr h fun {μ1} ds η1 H1 vs sr1 s1 hv h1 => ?_
  split at h1
  · next hl =>
    have lv : vs.length = ks.length := hv.len.trans hl
    refine ⟨rfl, lv, ?_⟩
    have hv2 := hgV _ _ _ hv lv
    refine call_sp (W := fun _ _ _ _ => False) sr1 (dq_paired hv2) ?_
    cases hc : callO n G ((gD ds).map Ag.d) η1 with
    | no => rw [hc] at h1; exact h1
    | ok d η2 => rw [hc] at h1; exact h1
    | ex m as η2 => rw [hc] at h1; exact h1.elim
  · exact h1.elim
/-! ### an own list is no None -/
def slNo : Sl → Bool
  | .d x => isNo x
  | _ => false
def eOwnIs (neg : Bool) (i : Nat) (η : En) : Rs PyData := match η[i]? with
  | some (some s) => .ok (.bool (if neg = true then !slNo s else slNo s)) η
  | _ => .no
theorem sl_no {K : PySem.W.Frag} {Hv H : Hp} {m : Nat → Addr} {v : V} {s : Sl} (h : SlR K Hv H τ m v s) : decide (v = .non) = slNo s := by
  cases s with
  | d x => exact isNo_iff h
  | l t xs => obtain ⟨_, rfl, _⟩ := h; rfl
  | k t xs => obtain ⟨_, rfl, _⟩ := h; rfl
  | r t root cs => obtain ⟨⟨rfl, _⟩, _⟩ := h; rfl
theorem de_ownIs {i : Nat} {x : Str} {xp kp : Pos} {j} (hx : PE X (.Name x xp) (tVar i)) (hm : behindInMarks .Is (.Constant .none j kp) = false := by rfl) : DE X EX W (.Compare (.Name x xp) [.Is] [.Constant .none j kp] pos) (eOwnIs false i) := by
  intro So Bs τ μ σ H η Q sr h
  refine ⟨_, pe_cmpR op_isN hx pe_non hm, ?_⟩
  unfold eOwnIs at h
  split at h
  · next s e =>
    obtain ⟨v, ev, hs⟩ := sr.sl i s e
    refine ⟨v, ev, rfl, ?_⟩
    rw [sl_no hs]
    exact h H sr _ (.bl _)
  · exact h.elim
theorem de_ownNo {i : Nat} {x : Str} {xp kp : Pos} {j} (hx : PE X (.Name x xp) (tVar i)) (hm : behindInMarks .IsNot (.Constant .none j kp) = false := by rfl) : DE X EX W (.Compare (.Name x xp) [.IsNot] [.Constant .none j kp] pos) (eOwnIs true i) := by
  intro So Bs τ μ σ H η Q sr h
  refine ⟨_, pe_cmpR op_notN hx pe_non hm, ?_⟩
  unfold eOwnIs at h
  split at h
  · next s e =>
    obtain ⟨v, ev, hs⟩ := sr.sl i s e
    refine ⟨v, ev, rfl, ?_⟩
    rw [sl_no hs]
    exact h H sr _ (.bl _)
  · exact h.elim
theorem dt_ownIs {i : Nat} {x : Str} {xp kp : Pos} {j} (hx : PE X (.Name x xp) (tVar i)) (hm : behindInMarks .Is (.Constant .none j kp) = false := by rfl) : DT X EX W (.Compare (.Name x xp) [.Is] [.Constant .none j kp] pos) (tOf (eOwnIs false i)) := by
  intro So Bs τ μ σ H η Q sr h
  refine ⟨_, pt_cmpR op_isN hx pe_non hm, ?_⟩
  unfold tOf eOwnIs at h
  cases e : η[i]? with
  | none => rw [e] at h; exact h.elim
  | some o =>
    cases o with
    | none => rw [e] at h; exact h.elim
    | some s =>
      rw [e] at h
      obtain ⟨v, ev, hs⟩ := sr.sl i s e
      refine ⟨v, ev, rfl, _, rfl, ?_⟩
      rw [sl_no hs]
      exact h H sr
theorem dt_ownNo {i : Nat} {x : Str} {xp kp : Pos} {j} (hx : PE X (.Name x xp) (tVar i)) (hm : behindInMarks .IsNot (.Constant .none j kp) = false := by rfl) : DT X EX W (.Compare (.Name x xp) [.IsNot] [.Constant .none j kp] pos) (tOf (eOwnIs true i)) := by
  intro So Bs τ μ σ H η Q sr h
  refine ⟨_, pt_cmpR op_notN hx pe_non hm, ?_⟩
  unfold tOf eOwnIs at h
  cases e : η[i]? with
  | none => rw [e] at h; exact h.elim
  | some o =>
    cases o with
    | none => rw [e] at h; exact h.elim
    | some s =>
      rw [e] at h
      obtain ⟨v, ev, hs⟩ := sr.sl i s e
      refine ⟨v, ev, rfl, _, rfl, ?_⟩
      rw [sl_no hs]
      exact h H sr
end
end DA

/-! defs run where no repr is under way; repr of data -/
namespace DA
open PySem PySem.Spec PyProof.Rows L2 XR
/-- a def's promise, where no guard stands -/
structure FnOkG (P : Program) (w : World) (K : PySem.W.Frag) (mg : Str → Option Value) (base : Heap) (CX : CXT) (k : Nat) (f : Addr) (fd : FuncData) (ps : List Str) (sp : Sp) : Prop where
  len : ∀ ws H Q E, sp ws H Q E → ws.length = ps.length
  run : ∀ (A : Around) (outer : List Env) (s : Shared) (H : Hp) (args : Args) (us : List Value) (vs : List V) (Q : VK) (E : XK), A.guards = some [] → Room k A → Env0 P w K mg base A outer s H → BindsTo s fd args (ps.zip us) → Vals vs us → sp vs H Q E →
    codeAny (model P w) A (.call (.ref f) args) (CR CX outer P w H s Q E) s
section
variable {P : Program} {w : World} {K : PySem.W.Frag} {mg : Str → Option Value} {base : Heap} {EX : Exs}
theorem fn_dataG {x qual : Str} {st : Stmt} {f : Addr} {fd : FuncData} {N ps : List Str} {k n m : Nat} {body : En → Ot} (F : Fun K x qual st f fd) (S : FnScope N ps (defScope st)) (hp : ps.length = n) (hm : N.length = m) (hn : n ≤ m)
    (hb : ∀ (cdv : Value) (A : Around) (outer : List Env) (s : Shared) (H : Hp) (E : XK), A.guards = some [] → Room k (A.deeper (envOfC qual (defScope st) s.heap.objs.size f cdv)) →
      DSs (cxOf (L2.CX P w) P w K mg base N qual (defScope st) f cdv A outer s H E) EX (fun cls d _ H' => E cls d H') (defBody st) body) :
    FnOkG P w K mg base (L2.CX P w) (k + 1) f fd ps (spG K EX n (fnOf m body)) := by
  subst hp hm
  -- the promise at one A
  refine ⟨fun vs H Q E h => ?_, fun A outer s H args us vs Q E hg hr e0 hb' r hsp => ?_⟩
  · obtain ⟨_, _, _, _, _, h, _⟩ := h
    exact h
  obtain ⟨oc, od, kV, doc, pm, an, cdv, ct, osl, rfl, lk, hcd⟩ := F.ex
  have hl : vs.length = ps.length := by
    obtain ⟨_, _, _, _, _, h, _⟩ := hsp
    exact h
  have KX : K.In s.heap := e0.mod.kin.keeps fun b o e => (e0.bs b o e).1
  have hkind : ∀ y ∈ ps.zip us, (defScope st).names.lookup y.1 = some .local ∨ ((defScope st).names.lookup y.1 = some .cell ∧ ((cellsFrom (s.heap.objs.size + 1) (defScope st).names []).lookup y.1).isSome = true) := fun ⟨n, v⟩ hy =>
    (S.par n (List.of_mem_zip hy).1).imp id fun q => ⟨q, PySem.W.cellsFrom_some _ _ _ (.inl q)⟩
  refine codeAny_call_function hr.depth (KX _ _ lk) rfl S.co S.gen rfl (PySem.W.codeRec_of KX hcd) (hb' _ _ _ _ ?_)
  refine wpAny_newFunctionEnv_cells S.kind hkind fun env he s1 x => ?_
  subst he
  refine ⟨(e0.mod.nolimit.keeps fun b o e => (e0.bs b o e).1).keeps x.toInCall.keep, codeAny_func ?_⟩
  have body : ∃ t, PSs (cxOf (L2.CX P w) P w K mg base N qual (defScope st) f cdv A outer s H E) (defBody st) t ∧ t { nx := fun _ H' => Q .non H', rt := Q } (start N vs) H := by
    obtain ⟨So, Bs, τ, μ, as, hvl, hal, sr, ht, hG⟩ := hsp
    have hl : vs.length = as.length := by rw [hvl, hal]
    refine hb cdv A outer s H E hg (hr.deeper _) So Bs τ (start N vs) H _ _ (entry_sr (N := N) (by omega) hl sr) ?_
    unfold fnOf at hG
    cases hr : body (as.map some ++ List.replicate (N.length - as.length) none) with
    | no => rw [hr] at hG; exact hG
    | bk η => rw [hr] at hG; exact hG.elim
    | ct η => rw [hr] at hG; exact hG.elim
    | nx η =>
      rw [hr] at hG
      intro μ2 σ2 H2 sr2
      cases he : exits 0 as η with
      | none => simp only [he] at hG
      | some es =>
        simp only [he] at hG
        exact hG _ H2 (exit_sr hl sr ht sr2 he).1 .non
    | rt d η =>
      rw [hr] at hG
      intro μ2 σ2 H2 v sr2 hv
      cases he : exits 0 as η with
      | none => simp only [he] at hG
      | some es =>
        simp only [he] at hG
        obtain ⟨h1, h2⟩ := exit_sr hl sr ht sr2 he
        exact hG _ H2 h1 (Dq.mono h2 _ _ hv)
    | ex n xs η =>
      rw [hr] at hG
      intro μ2 σ2 H2 cls dd sr2 hx
      cases he : exits 0 as η with
      | none => simp only [he] at hG
      | some es =>
        simp only [he] at hG
        exact hG H2 cls dd (exit_sr hl sr ht sr2 he).1 (EX.mono (exit_sr hl sr ht sr2 he).2 hx)
  obtain ⟨t, ht, hq⟩ := body
  have I : Inv (cxOf (L2.CX P w) P w K mg base N qual (defScope st) f cdv A outer s H E) [] (start N vs) H s1 := inv_start S hr.hd e0 hl r x
  refine wpAny_mono (ht.run [] s1 (start N vs) H _ I hq) (fun fl s' hs => ?_) fun e s' hs => hs
  cases fl with
  | ret u => obtain ⟨v, σ', H', J, rv, q⟩ := hs; exact ⟨v, H', J.os, J.bare, J.base, J.hok, rv, q⟩
  | next => obtain ⟨σ', H', J, q⟩ := hs; exact ⟨.non, H', J.os, J.bare, J.base, J.hok, rfl, q⟩
  | brk => obtain ⟨σ', H', J, q⟩ := hs; exact q.elim
  | cont => obtain ⟨σ', H', J, q⟩ := hs; exact q.elim
structure DfG (P : Program) (w : World) (K : PySem.W.Frag) (mg : Str → Option Value) (base : Heap) (EX : Exs) (k : Nat) (x : Str) (n : Nat) (G : List Sl → Rs PyData) : Prop where
  ex : ∃ (f : Addr) (fd : FuncData) (ps : List Str), mg x = some (.ref f) ∧ PySem.W.keepIn K (.ref f) = true ∧ Binds K fd ps [] ∧ ps.length = n ∧ FnOkG P w K mg base (L2.CX P w) k f fd ps (spG K EX n G)
end
section
variable {X : Cx} {EX : Exs} {W : WX} {e : Expr} {es : List Expr} {gs : En → Rs (List Ag)} {ga : En → Rs PyData} {pos : Pos}
theorem pe_callSG {CX : CXT} {k : Nat} {f : Addr} {fd : FuncData} {ps : List Str} {sp : Sp} {E : L2.St → XK} {x : Str} {p : Pos} {t : TA} (F : FnOkG X.prog X.w X.K X.mg X.base CX k f fd ps sp) (hgd : X.A.guards = some []) (hr : Room k X.A) (hg : Gl X x) (hm : X.mg x = some (.ref f)) (hk : PySem.W.keepIn X.K (.ref f) = true) (hb : Binds X.K fd ps []) (hx : ∀ σ, PassesAt CX X σ (E σ))
    (ha : PA X (e :: es) t) (hdb : (x == ("__debug__" : Str)) = false := by decide) (he : starEach (e :: es) X.env = (false, eval e X.env) :: starEach es X.env := by rfl) (hpl : (backTo pos (starEach es X.env)).any (·.1) = false := by rfl) :
    PE X (.Call (.Name x p) (e :: es) [] pos) (fun σ H Q => t σ H fun vs H1 => sp vs H1 Q (E σ)) := by
  refine ⟨fun pins s σ H Q I h => ?_⟩
  refine wpAny_Call_Name_kw (ld_glob I hg hm ?_ hdb)
  refine PySem.W.callWith_K (h₀ := X.base) I.ok.mod.kin hk (thn (ha.run pos pins s σ H _ I h) fun us s1 ⟨vs, H1, I1, r, q⟩ => ⟨I1.kIn, ?_⟩) he hpl
  have hl : us.length = ps.length := by rw [← Paired.length r]; exact F.len _ _ _ _ q
  refine wpAny_call (codeAny_mono (F.run X.A X.stack s1 H1 ⟨us, []⟩ us vs Q (E σ) hgd hr I1.env0 (by have := hb s1 us I1.kIn (by rw [List.append_nil]; exact hl); rw [List.append_nil] at this; exact this) r q) fun rr s' hq => ?_)
  cases rr with
  | error e => exact hx σ pins H1 s1 e s' I1 hq
  | ok fl =>
    cases fl with
    | ret u => exact I1.after hq
    | next => exact False.elim hq
    | brk => exact False.elim hq
    | cont => exact False.elim hq
theorem de_callG {k n : Nat} {x : Str} {p : Pos} {G : List Sl → Rs PyData} (F : DfG X.prog X.w X.K X.mg X.base EX k x n G) (hgd : X.A.guards = some []) (hr : Room k X.A) (hg : Gl X x) (tk : Takes X W) (ha : DAs X EX W (e :: es) gs) (hdb : (x == ("__debug__" : Str)) = false := by decide) (he : starEach (e :: es) X.env = (false, eval e X.env) :: starEach es X.env := by rfl) (hpl : (backTo pos (starEach es X.env)).any (·.1) = false := by rfl) :
    DE X EX W (.Call (.Name x p) (e :: es) [] pos) (eCall n G gs) := by
  intro So Bs τ μ σ H η Q sr h
  obtain ⟨f, fd, ps, hm, hk, hb, hpn, hF⟩ := F.ex
  refine ⟨_, pe_callSG hF hgd hr hg hm hk hb (fun σ => passAt tk σ) wa hdb he hpl, ?_⟩
  refine ha.seq sr h fun {μ1} ags η1 H1 vs sr1 s1 hv h1 => ?_
  exact call_sp sr1 hv h1
/-! ### repr of a list or a tuple -/
def reprOk (d : PyData) : Bool := plainD d && d.showable && !d.hasDict && decide (d.depth ≤ 64) && decide (d.shown.length ≤ sizeLine) && (match d with
  | .list _ => true
  | .tuple _ => true
  | _ => false)
def oRepr (ds : List PyData) : Option PyData := match ds with
  | [d] => if reprOk d = true then some (.str d.shown) else none
  | _ => none
theorem dc_repr (hu : X.A.units + 100 < cLine) (hg : X.A.guards = some []) : DCl X (.builtin "repr") oRepr := by
  intro So Bs τ μ σ η H vs ds z Q ez sr h q
  unfold oRepr at ez
  split at ez
  · next d =>
    split at ez
    · next hok =>
      cases ez
      obtain ⟨v, rfl, hv⟩ := dq1 h
      unfold reprOk at hok
      simp only [Bool.and_eq_true, decide_eq_true_eq, Bool.not_eq_true'] at hok
      obtain ⟨⟨⟨⟨⟨h1, h2⟩, h3⟩, h4⟩, h5⟩, h6⟩ := hok
      have hd := Dq.dp _ _ h1 (Dq.mono same_vis _ _ hv)
      have hr : ∃ a, v = .ref a := by
        cases hv <;> first | exact ⟨_, rfl⟩ | cases h6
      obtain ⟨a, rfl⟩ := hr
      exact ⟨_, cr_reprR hu hg, a, _, rfl, hd, h2, h3, h4, h5, q _ H sr (.str _)⟩
    · cases ez
  · cases ez
end
end DA

/-! words, over data -/
namespace DA
open PySem PySem.Spec PyProof.Rows L2 XR
section
variable {K : PySem.W.Frag} {So : Addr → Prop} {Bs : Hp} {τ : Pin} {μ : Mu} {σ : Sg} {η : En} {H H' : Hp}
/-- all that stood stands -/
theorem vis_grow (s : Same H H') : Same (vis So μ η H) (vis So μ η H') := vis_same fun a w h1 h2 h3 => ⟨s _ _ h1, h2, h3⟩
theorem SR.grow (r : SR K So Bs τ μ σ H η) (s : Same H H') : SR K So Bs τ μ σ H' η :=
  ⟨r.len, fun i t e => by
    obtain ⟨v, ev, h⟩ := r.sl i t e
    exact ⟨v, ev, h.mono (vis_grow s) fun _ _ _ h => s _ _ h⟩, r.inj, fun a u e => ⟨s _ _ (r.base a u e).1, (r.base a u e).2⟩, r.so⟩
/-- what isn't written is in sight -/
theorem SR.sight (r : SR K So Bs τ μ σ H η) {a : Addr} {u : HO} (e : H a = some u) (hm : mutO u = false) : vis So μ η H a = some u :=
  vis_iff.mpr ⟨e, (fun z => by
    obtain ⟨o, h1, h2⟩ := r.ow z
    rw [e] at h1
    cases h1
    rw [hm] at h2
    cases h2), fun z => by
    obtain ⟨o, h1, h2⟩ := r.so_M z
    rw [e] at h1
    cases h1
    rw [hm] at h2
    cases h2⟩
/-- what is new is in sight -/
theorem SR.sightN (r : SR K So Bs τ μ σ H η) (s : Same H H') {a : Addr} {u : HO} (hn : H a = none) (e : H' a = some u) : vis So μ η H' a = some u :=
  vis_iff.mpr ⟨e, r.ow_ne hn, r.so_ne hn⟩
end
end DA
namespace My
open PySem PySem.Spec PyProof.Rows L2 XR SX DA
section
variable {P : Program} {w : World} {K : PySem.W.Frag} {mg : Str → Option Value} {base : Heap}
/-- the words of a text, gone through -/
def scanE (f : List Nat → Option (Str × Nat)) (t : List Nat) : Nat → Nat → Option (List Ent × Option Nat)
  | 0, _ => none
  | n + 1, k => match t[k]? with
    | none => if k = t.length then some ([], none) else none
    | some c => if blank c = true then scanE f t n (k + 1) else match f (t.drop k) with
      | none => some ([], some k)
      | some (s, m) => if 0 < m ∧ k + m ≤ t.length then (scanE f t n (k + m)).map fun r => ((s, (t.drop k).take m, k) :: r.1, r.2) else none
theorem scanE_ok {f : List Nat → Option (Str × Nat)} {t : List Nat} {z : Option Nat} : ∀ {n k : Nat} {es : List Ent}, scanE f t n k = some (es, z) → Scan f t k es z
  | 0, _, _, h => nomatch h
  | n + 1, k, es, h => by
    unfold scanE at h
    cases hc : t[k]? with
    | none =>
      rw [hc] at h
      dsimp only at h
      split at h
      · cases h
        exact .stop (by assumption)
      · cases h
    | some c =>
      rw [hc] at h
      dsimp only at h
      by_cases hb : blank c = true
      · rw [if_pos hb] at h
        exact .blank hc hb (scanE_ok h)
      · rw [if_neg hb] at h
        have hb' : blank c = false := by simpa using hb
        cases hf : f (t.drop k) with
        | none =>
          rw [hf] at h
          cases h
          exact .bad hc hb' hf
        | some sm =>
          obtain ⟨s, m⟩ := sm
          rw [hf] at h
          dsimp only at h
          split at h
          · rename_i hm
            obtain ⟨r, hr, e⟩ := Option.map_eq_some_iff.mp h
            cases e
            exact .word hc hb' hf hm.1 hm.2 (scanE_ok hr)
          · cases h
def codes (x : Str) : List Nat := x.cps.toList
theorem S_codes (x : Str) : S (codes x) = x := by
  show (⟨(x.cps.toList).toArray⟩ : Str) = x
  rw [Array.toArray_toList]
def entD (e : Ent) : PyData := .tuple [.str e.1, .str (S e.2.1), .int (e.2.2 : Nat)]
theorem ents_dq {Hv H : Hp} (vs : ∀ {a u}, H a = some u → mutO u = false → Hv a = some u) : ∀ {xs : List V} {es : List Ent}, Ents H xs es → DqAll K Hv xs (es.map entD)
  | [], [], _ => .nil
  | _ :: _, e :: es, ⟨⟨p, e1, h⟩, r⟩ => by
    subst e1
    exact .cons (.tup (.inl (.inl (vs h rfl))) (.cons (.str _) (.cons (.str _) (.cons (.int _) .nil)))) (ents_dq vs r)
def G_words (as : List Sl) : Rs PyData := match as with
  | [.d (.str x)] => if (codes x).length ≤ 4000 then match scanE stepP (codes x) ((codes x).length + 1) 0 with
      | some (es, none) => .ok (.list (es.map entD)) [none]
      | some (_, some k) => .ex 6 [.int (k : Nat)] [none]
      | none => .no
    else .no
  | _ => .no
theorem words_data {k : Nat} {f cT : Addr} {fd : FuncData} {cs : Nat → Addr} {nms : Nat → Option (List Str)} (F : FnOk P w K mg base (L2.CX P w) k f fd ["text"] (spWords cT)) (h0 : cs 6 = cT) (hn : nms 6 = some [("at" : Str)]) : FnOk P w K mg base (L2.CX P w) k f fd ["text"] (spG K (exs K cs nms) 1 G_words) := by
  refine F.imp fun vs H Q E h => ?_
  obtain ⟨So, Bs, τ, μ, as, hvl, hal, sr, ht, hG⟩ := h
  have as1 : ∃ x, as = [.d (.str x)] := by
    cases hw : G_words as with
    | no => rw [hw] at hG; exact hG.elim
    | ok d es => 
      unfold G_words at hw
      split at hw
      · exact ⟨_, rfl⟩
      · cases hw
    | ex n xs es => 
      unfold G_words at hw
      split at hw
      · exact ⟨_, rfl⟩
      · cases hw
  obtain ⟨x, rfl⟩ := as1
  obtain ⟨v, ev, hv⟩ := sr.sl 0 (.d (.str x)) rfl
  have hv : Dq K (vis So μ _ H) v (.str x) := hv
  have evs : vs = [.str x] := by
    match vs, hvl with
    | [u], _ =>
      have : u = v := Option.some.inj (Option.some.inj ev)
      rw [this, dq_str hv]
  subst evs
  have srn : ∀ {H'}, Same H H' → SR K So Bs τ μ ([V.str x].map some) H' [none] := fun s => (sr.grow s).drop (n := 0) (o := some (.str x))
  by_cases hz : (codes x).length ≤ 4000
  · have eG : G_words [.d (.str x)] = match scanE stepP (codes x) ((codes x).length + 1) 0 with
      | some (es, none) => .ok (.list (es.map entD)) [none]
      | some (_, some k) => .ex 6 [.int (k : Nat)] [none]
      | none => .no := by
      exact if_pos hz
    rw [eG] at hG
    cases e : scanE stepP (codes x) ((codes x).length + 1) 0 with
    | none => rw [e] at hG; exact hG.elim
    | some r =>
      obtain ⟨es, z⟩ := r
      rw [e] at hG
      cases z with
      | none =>
        refine ⟨codes x, es, none, by rw [S_codes], hz, scanE_ok e, fun _ H' a xs sm ha e1 he => ?_, fun k z => nomatch z⟩
        refine hG _ H' (srn sm) (.lst ((sr.drop (n := 0) (o := some (.str x))).sightN sm ha e1) (ents_dq (fun h1 h2 => (srn sm).sight h1 h2) he))
      | some k =>
        refine ⟨codes x, es, some k, by rw [S_codes], hz, scanE_ok e, (fun z => nomatch z), fun k2 z H' d sm e1 => ?_⟩
        cases z
        rw [← h0]
        refine hG H' _ (some d) (srn sm) ⟨rfl, ?_⟩
        rw [hn]
        exact ⟨d, _, rfl, (srn sm).sight e1 rfl, .cons (.int _) .nil⟩
  · have eG : G_words [.d (.str x)] = .no := by
      exact if_neg hz
    rw [eG] at hG
    exact hG.elim
/-- a def that lets nothing out, in the world where others do -/
theorem fn_cx {CX : CXT} {k : Nat} {f : Addr} {fd : FuncData} {ps : List Str} {sp : Sp} (F : FnOk P w K mg base CX0 k f fd ps sp) : FnOk P w K mg base CX k f fd ps sp :=
  ⟨F.len, fun A outer s H args us vs Q E hr he hb hv hs => codeAny_mono (F.run A outer s H args us vs Q E hr he hb hv hs) fun r s' h => by
    cases r with
    | error e => exact False.elim h
    | ok fl => cases fl <;> exact h⟩
def G_only (cs : Nat → Addr) (as : List Sl) : Rs PyData := match as with
  | [.d (.dict ((.bool _, .int C) :: _)), .d (.str y)] => if ((List.range 10).any fun i => decide (C = (cs i : Nat)) && decide (y = n10.getD i "")) = true then .ok (.bool true) [none, none] else .no
  | _ => .no
theorem only_data {k : Nat} {f : Addr} {fd : FuncData} {cs : Nat → Addr} {EX : Exs} (F : FnOk P w K mg base CX0 k f fd ["error", "word"] (spOnly K cs)) : FnOk P w K mg base (L2.CX P w) k f fd ["error", "word"] (spG K EX 2 (G_only cs)) := by
  refine (fn_cx F).imp fun vs H Q E h => ?_
  obtain ⟨So, Bs, τ, μ, as, hvl, hal, sr, ht, hG⟩ := h
  have as1 : ∃ b C r y, as = [.d (.dict ((.bool b, .int C) :: r)), .d (.str y)] ∧ ((List.range 10).any fun i => decide (C = (cs i : Nat)) && decide (y = n10.getD i "")) = true ∧ G_only cs as = .ok (.bool true) [none, none] := by
    cases hw : G_only cs as with
    | no => rw [hw] at hG; exact hG.elim
    | ok d es =>
      unfold G_only at hw
      split at hw
      · split at hw
        · next hc => cases hw; exact ⟨_, _, _, _, rfl, hc, rfl⟩
        · cases hw
      · cases hw
    | ex n xs es =>
      unfold G_only at hw
      split at hw
      · split at hw <;> cases hw
      · cases hw
  obtain ⟨b, C, r, y, rfl, hc, eG⟩ := as1
  rw [eG] at hG
  obtain ⟨i, hi, hc⟩ := List.any_eq_true.mp hc
  rw [Bool.and_eq_true, decide_eq_true_eq, decide_eq_true_eq] at hc
  obtain ⟨rfl, rfl⟩ := hc
  have hi : i < 10 := List.mem_range.mp hi
  obtain ⟨v, ev, hv⟩ := sr.sl 0 _ rfl
  obtain ⟨u, eu, hu⟩ := sr.sl 1 _ rfl
  have hv : Dq K (vis So μ _ H) v (.dict ((.bool b, .int (cs i : Nat)) :: r)) := hv
  have hu : Dq K (vis So μ _ H) u (.str _) := hu
  have evs : vs = [v, u] := by
    match vs, hvl with
    | [a, c], _ =>
      have h1 : a = v := Option.some.inj (Option.some.inj ev)
      have h2 : c = u := Option.some.inj (Option.some.inj eu)
      rw [h1, h2]
  subst evs
  have hx : ∃ a, v = .ref a ∧ ExIn (vis So μ ([Sl.d (.dict ((.bool b, .int (cs i : Nat)) :: r)), .d (.str (n10.getD i ""))].map some) H) a (cs i) := by
    cases hv with
    | dic g1 g2 => exact (kv_nobool g2 rfl).elim
    | exc h1 h2 h3 => exact ⟨_, rfl, .inr ⟨_, _, h1, h2⟩⟩
    | exb h1 => exact ⟨_, rfl, .inl h1⟩
  obtain ⟨a, rfl, hx⟩ := hx
  refine ⟨a, i, hi, by rw [dq_str hu], hx.same same_vis, fun H' sm => ?_⟩
  refine hG (μ := μ) (.bl true) H' ?_ (.bl true)
  have := ((sr.grow sm).drop (n := 0) (o := some (.ref a))).drop (n := 1) (o := some u)
  exact this
end
end My

namespace My
open PySem PySem.Spec PyProof.Rows L2 XR DA
section
variable {P : Program} {w : World} {K : PySem.W.Frag} {mg : Str → Option Value} {base : Heap} {cs : Nat → Addr} {nms : Nat → Option (List Str)} {cL : Addr}
abbrev s_least_stretch : Stmt := top 1
theorem sc_least_stretch : FnScope ["stretches", "first", "_", "last"] ["stretches"] (defScope s_least_stretch) := ⟨rfl, rfl, rfl, by decide +kernel, rfl, by decide +kernel, by decide +kernel⟩
def b_least_stretch : En → Ot := (oRet (eTp (lCons (eB oMin (lCons (eNew (eLc [1, 2] (iSeq (eVar 0)) (gTp 2 (gCn (gNm 1) (gCn (gNm 2) gNl))) gYes (eVar 1))) lNil)) (lCons (eB oMax (lCons (eNew (eLc [2, 3] (iSeq (eVar 0)) (gTp 2 (gCn (gNm 2) (gCn (gNm 3) gNl))) gYes (eVar 3))) lNil)) lNil))))
def G_least_stretch : List Sl → Rs PyData := fnOf 4 (b_least_stretch)
theorem ok_least_stretch {f : Addr} {fd : FuncData} (F : Fun K "least_stretch" "least_stretch" s_least_stretch f fd) (Z : ∀ x ∈ bltN, mg x = none) : FnOk P w K mg base (L2.CX P w) 1 f fd ["stretches"] (spG K (exs K cs nms) 1 (G_least_stretch)) := by
  have sc := sc_least_stretch
  unfold G_least_stretch
  refine fn_data' (body := b_least_stretch) F sc rfl rfl (by decide) fun cdv A outer s H E hr => ?_
  have tk : Takes (cxOf (L2.CX P w) P w K mg base ["stretches", "first", "_", "last"] "least_stretch" (defScope s_least_stretch) f cdv A outer s H E) (fun cls d _ H' => E cls d H') := takes_of rfl rfl rfl rfl
  unfold b_least_stretch
  exact (dss_one (ds_ret (de_tp (dl_cons (de_blt (dc_min rfl) (by rfl) (Z "min" (by decide)) (by decide +kernel) (dl_cons (de_new (dn_lc (own := [("first", 1), ("_", 2)]) (by rfl) sc.nd (di_seq (de_var (pv 0))) (blkOk_by (own := [("first", 1), ("_", 2)]) (by kernel_rfl)) (by decide) (fun _ _ _ _ _ => (dg_tup (by rfl) (dg_cons (dg_name (pg_name (i := 1) sc.nd rfl (.inl rfl))) (dg_cons (dg_name (pg_name (i := 2) sc.nd rfl (.inl rfl))) dg_nil)))) (fun _ _ _ _ _ => dts_nil) (fun _ _ _ _ _ => (de_var (pv 1))))) dl_nil)) (dl_cons (de_blt (dc_max rfl) (by rfl) (Z "max" (by decide)) (by decide +kernel) (dl_cons (de_new (dn_lc (own := [("_", 2), ("last", 3)]) (by rfl) sc.nd (di_seq (de_var (pv 0))) (blkOk_by (own := [("_", 2), ("last", 3)]) (by kernel_rfl)) (by decide) (fun _ _ _ _ _ => (dg_tup (by rfl) (dg_cons (dg_name (pg_name (i := 2) sc.nd rfl (.inl rfl))) (dg_cons (dg_name (pg_name (i := 3) sc.nd rfl (.inl rfl))) dg_nil)))) (fun _ _ _ _ _ => dts_nil) (fun _ _ _ _ _ => (de_var (pv 3))))) dl_nil)) dl_nil)))))
abbrev s_is_whole : Stmt := top 31
theorem sc_is_whole : FnScope ["thing"] ["thing"] (defScope s_is_whole) := ⟨rfl, rfl, rfl, by decide +kernel, rfl, by decide +kernel, by decide +kernel⟩
def b_is_whole : En → Ot := (oRet (eTyIs "int" (eVar 0)))
def G_is_whole : List Sl → Rs PyData := fnOf 1 (b_is_whole)
theorem ok_is_whole {f : Addr} {fd : FuncData} (F : Fun K "is_whole" "is_whole" s_is_whole f fd) (Z : ∀ x ∈ bltN, mg x = none) : FnOk P w K mg base (L2.CX P w) 1 f fd ["thing"] (spG K (exs K cs nms) 1 (G_is_whole)) := by
  have sc := sc_is_whole
  unfold G_is_whole
  refine fn_data' (body := b_is_whole) F sc rfl rfl (by decide) fun cdv A outer s H E hr => ?_
  have tk : Takes (cxOf (L2.CX P w) P w K mg base ["thing"] "is_whole" (defScope s_is_whole) f cdv A outer s H E) (fun cls d _ H' => E cls d H') := takes_of rfl rfl rfl rfl
  unfold b_is_whole
  exact (dss_one (ds_ret (de_tyIs (by rfl) (Z "type" (by decide)) (by rfl) (Z "int" (by decide)) (by decide +kernel) (de_var (pv 0)))))
abbrev s_is_entry : Stmt := top 33
theorem sc_is_entry : FnScope ["thing", "number"] ["thing"] (defScope s_is_entry) := ⟨rfl, rfl, rfl, by decide +kernel, rfl, by decide +kernel, by decide +kernel⟩
def b_is_entry : En → Ot := (oRet (eAnd (eIsi "tuple" (eVar 0)) (eAnd (eBin oEq (eB oLen (lCons (eVar 0) lNil)) (eC (.int 4))) (eB oAll (lCons (eNew (eLc [1] (iSeq (eVar 0)) (gNm 1) gYes (eCall 1 G_is_whole (aCons (eVar 1) aNil)))) lNil)))))
def G_is_entry : List Sl → Rs PyData := fnOf 2 (b_is_entry)
theorem ok_is_entry {f : Addr} {fd : FuncData} (F : Fun K "is_entry" "is_entry" s_is_entry f fd) (Z : ∀ x ∈ bltN, mg x = none) (D_is_whole : Df P w K mg base (exs K cs nms) 1 "is_whole" 1 G_is_whole) : FnOk P w K mg base (L2.CX P w) 2 f fd ["thing"] (spG K (exs K cs nms) 1 (G_is_entry)) := by
  have sc := sc_is_entry
  unfold G_is_entry
  refine fn_data' (body := b_is_entry) F sc rfl rfl (by decide) fun cdv A outer s H E hr => ?_
  have tk : Takes (cxOf (L2.CX P w) P w K mg base ["thing", "number"] "is_entry" (defScope s_is_entry) f cdv A outer s H E) (fun cls d _ H' => E cls d H') := takes_of rfl rfl rfl rfl
  unfold b_is_entry
  exact (dss_one (ds_ret (de_and (de_isi (by rfl) (Z "isinstance" (by decide)) (by rfl) (Z "tuple" (by decide)) (by decide +kernel) (de_var (pv 0))) (de_and (de_cmp (do_eq (ru64 hr)) (de_blt dc_len (by rfl) (Z "len" (by decide)) (by decide +kernel) (dl_cons (de_var (pv 0)) dl_nil)) de_int (nomark _)) (de_one (de_blt (dc_all rfl) (by rfl) (Z "all" (by decide)) (by decide +kernel) (dl_cons (de_new (dn_lc (own := [("number", 1)]) (by rfl) sc.nd (di_seq (de_var (pv 0))) (blkOk_by (own := [("number", 1)]) (by kernel_rfl)) (by decide) (fun _ _ _ _ _ => (dg_name (pg_name (i := 1) sc.nd rfl (.inl rfl)))) (fun _ _ _ _ _ => dts_nil) (fun _ _ _ _ _ => (de_call D_is_whole (hr.mono (by decide)) (by rfl) takes0 (das_cons (de_var (pv 1)) das_nil))))) dl_nil)))))))
abbrev s_is_entry_of : Stmt := top 34
theorem sc_is_entry_of : FnScope ["entry", "row", "size", "begin", "end", "first", "last", "_", "word", "at"] ["entry", "row", "size"] (defScope s_is_entry_of) := ⟨rfl, rfl, rfl, by decide +kernel, rfl, by decide +kernel, by decide +kernel⟩
def b_is_entry_of : En → Ot := (oSeq (oAsg (gTp 4 (gCn (gNm 3) (gCn (gNm 4) (gCn (gNm 5) (gCn (gNm 6) gNl))))) (eVar 0))
    (oSeq (oAsg (gTp 3 (gCn (gNm 7) (gCn (gNm 8) (gCn (gNm 9) gNl)))) (eVar 1))
    (oRet (eAnd (eBin oEq (eVar 3) (eVar 9)) (eAnd (eBin oEq (eVar 4) (eBin oAdd (eVar 9) (eB oLen (lCons (eVar 8) lNil)))) (eChain3 oLe oLe oLe (eC (.int 0)) (eVar 5) (eVar 6) (eVar 2)))))))
def G_is_entry_of : List Sl → Rs PyData := fnOf 10 (b_is_entry_of)
theorem ok_is_entry_of {f : Addr} {fd : FuncData} (F : Fun K "is_entry_of" "is_entry_of" s_is_entry_of f fd) (Z : ∀ x ∈ bltN, mg x = none) : FnOk P w K mg base (L2.CX P w) 1 f fd ["entry", "row", "size"] (spG K (exs K cs nms) 3 (G_is_entry_of)) := by
  have sc := sc_is_entry_of
  unfold G_is_entry_of
  refine fn_data' (body := b_is_entry_of) F sc rfl rfl (by decide) fun cdv A outer s H E hr => ?_
  have tk : Takes (cxOf (L2.CX P w) P w K mg base ["entry", "row", "size", "begin", "end", "first", "last", "_", "word", "at"] "is_entry_of" (defScope s_is_entry_of) f cdv A outer s H E) (fun cls d _ H' => E cls d H') := takes_of rfl rfl rfl rfl
  unfold b_is_entry_of
  exact (dss_cons (ds_asg (de_var (pv 0)) (dg_tup (by rfl) (dg_cons (dg_name (pg_name (i := 3) sc.nd rfl (.inl rfl))) (dg_cons (dg_name (pg_name (i := 4) sc.nd rfl (.inl rfl))) (dg_cons (dg_name (pg_name (i := 5) sc.nd rfl (.inl rfl))) (dg_cons (dg_name (pg_name (i := 6) sc.nd rfl (.inl rfl))) dg_nil))))) (fun he hg => ps_asg he hg))
      (dss_cons (ds_asg (de_var (pv 1)) (dg_tup (by rfl) (dg_cons (dg_name (pg_name (i := 7) sc.nd rfl (.inl rfl))) (dg_cons (dg_name (pg_name (i := 8) sc.nd rfl (.inl rfl))) (dg_cons (dg_name (pg_name (i := 9) sc.nd rfl (.inl rfl))) dg_nil)))) (fun he hg => ps_asg he hg))
      (dss_one (ds_ret (de_and (de_cmp (do_eq (ru64 hr)) (de_var (pv 3)) (de_var (pv 9)) (nomark _)) (de_and (de_cmp (do_eq (ru64 hr)) (de_var (pv 4)) (de_op do_add (de_var (pv 9)) (de_blt dc_len (by rfl) (Z "len" (by decide)) (by decide +kernel) (dl_cons (de_var (pv 8)) dl_nil))) (nomark _)) (de_one (de_chain3 do_le do_le do_le de_int (de_var (pv 5)) (de_var (pv 6)) (de_var (pv 2))))))))))
abbrev s_is_map : Stmt := top 35
theorem sc_is_map : FnScope ["thing", "text", "other", "rows", "entry", "row"] ["thing", "text", "other"] (defScope s_is_map) := ⟨rfl, rfl, rfl, by decide +kernel, rfl, by decide +kernel, by decide +kernel⟩
def b_is_map : En → Ot := (oSeq (oSet 3 (eCall 1 G_words (aCons (eVar 1) aNil)))
    (oSeq (oIf (tOrO (tNot (tOf (eIsi "list" (eVar 0)))) (tOf (eBin oNe (eB oLen (lCons (eVar 0) lNil)) (eB oLen (lCons (eVar 3) lNil))))) (oRet (eC (.bool false))) oNx)
    (oRet (eB oAll (lCons (eNew (eLc [4, 5] (iZp (eVar 0) (eVar 3)) (gTp 2 (gCn (gNm 4) (gCn (gNm 5) gNl))) gYes (eAnd (eCall 1 G_is_entry (aCons (eVar 4) aNil)) (eCall 3 G_is_entry_of (aCons (eVar 4) (aCons (eVar 5) (aCons (eB oLen (lCons (eVar 2) lNil)) aNil))))))) lNil)))))
def G_is_map : List Sl → Rs PyData := fnOf 6 (b_is_map)
theorem ok_is_map {f : Addr} {fd : FuncData} (F : Fun K "is_map" "is_map" s_is_map f fd) (Z : ∀ x ∈ bltN, mg x = none) (D_is_entry : Df P w K mg base (exs K cs nms) 2 "is_entry" 1 G_is_entry) (D_is_entry_of : Df P w K mg base (exs K cs nms) 1 "is_entry_of" 3 G_is_entry_of) (D_words : Df P w K mg base (exs K cs nms) 5 "words" 1 G_words) : FnOk P w K mg base (L2.CX P w) 6 f fd ["thing", "text", "other"] (spG K (exs K cs nms) 3 (G_is_map)) := by
  have sc := sc_is_map
  unfold G_is_map
  refine fn_data' (body := b_is_map) F sc rfl rfl (by decide) fun cdv A outer s H E hr => ?_
  have tk : Takes (cxOf (L2.CX P w) P w K mg base ["thing", "text", "other", "rows", "entry", "row"] "is_map" (defScope s_is_map) f cdv A outer s H E) (fun cls d _ H' => E cls d H') := takes_of rfl rfl rfl rfl
  unfold b_is_map
  exact (dss_cons (ds_set (i := 3) (de_call D_words (hr.mono (by decide)) (by rfl) tk (das_cons (de_var (pv 1)) das_nil)) (fun he => ps_set (i := 3) sc.nd rfl (.inl rfl) he))
      (dss_cons (ds_if (DW.pt (dw_or (dt_nt (dt_val (de_isi (by rfl) (Z "isinstance" (by decide)) (by rfl) (Z "list" (by decide)) (by decide +kernel) (de_var (pv 0))))) (dw_or1 (dt_cmp (do_ne (ru64 hr)) (de_blt dc_len (by rfl) (Z "len" (by decide)) (by decide +kernel) (dl_cons (de_var (pv 0)) dl_nil)) (de_blt dc_len (by rfl) (Z "len" (by decide)) (by decide +kernel) (dl_cons (de_var (pv 3)) dl_nil)) (nomark _))))) (dss_one (ds_ret de_bl)) dss_nil)
      (dss_one (ds_ret (de_blt (dc_all rfl) (by rfl) (Z "all" (by decide)) (by decide +kernel) (dl_cons (de_new (dn_lc (own := [("entry", 4), ("row", 5)]) (by rfl) sc.nd (di_zip (by rfl) (Z "zip" (by decide)) (de_var (pv 0)) (de_var (pv 3))) (blkOk_by (own := [("entry", 4), ("row", 5)]) (by kernel_rfl)) (by decide) (fun _ _ _ _ _ => (dg_tup (by rfl) (dg_cons (dg_name (pg_name (i := 4) sc.nd rfl (.inl rfl))) (dg_cons (dg_name (pg_name (i := 5) sc.nd rfl (.inl rfl))) dg_nil)))) (fun _ _ _ _ _ => dts_nil) (fun _ _ _ _ _ => (de_and (de_call D_is_entry (hr.mono (by decide)) (by rfl) takes0 (das_cons (de_var (pv 4)) das_nil)) (de_one (de_call D_is_entry_of (hr.mono (by decide)) (by rfl) takes0 (das_cons (de_var (pv 4)) (das_cons (de_var (pv 5)) (das_cons (de_blt dc_len (by rfl) (Z "len" (by decide)) (by decide +kernel) (dl_cons (de_var (pv 2)) dl_nil)) das_nil))))))))) dl_nil))))))
abbrev s_lead : Stmt := top 36
theorem sc_lead : FnScope ["entries", "at", "begin", "end", "first", "last"] ["entries", "at"] (defScope s_lead) := ⟨rfl, rfl, rfl, by decide +kernel, rfl, by decide +kernel, by decide +kernel⟩
def b_lead : En → Ot := (oSeq (oFor (iSeq (eVar 0)) (gTp 4 (gCn (gNm 2) (gCn (gNm 3) (gCn (gNm 4) (gCn (gNm 5) gNl))))) (oIf (tAndO (tOf (eCall 1 G_is_whole (aCons (eVar 1) aNil))) (tOf (eChain oLe oLt (eVar 2) (eVar 1) (eVar 3)))) (oRet (eTp (lCons (eVar 4) (lCons (eVar 5) lNil)))) oNx))
    (oRaise 3))
def G_lead : List Sl → Rs PyData := fnOf 6 (b_lead)
theorem ok_lead {f : Addr} {fd : FuncData} (F : Fun K "lead" "lead" s_lead f fd) (Z : ∀ x ∈ bltN, mg x = none) (D_is_whole : Df P w K mg base (exs K cs nms) 1 "is_whole" 1 G_is_whole) (R_NoMap : RaB K mg "NoMap" (cs 3)) (hex_NoMap : ∀ H, exs K cs nms 3 [] (.ref (cs 3)) none H) : FnOk P w K mg base (L2.CX P w) 2 f fd ["entries", "at"] (spG K (exs K cs nms) 2 (G_lead)) := by
  have sc := sc_lead
  unfold G_lead
  refine fn_data' (body := b_lead) F sc rfl rfl (by decide) fun cdv A outer s H E hr => ?_
  have tk : Takes (cxOf (L2.CX P w) P w K mg base ["entries", "at", "begin", "end", "first", "last"] "lead" (defScope s_lead) f cdv A outer s H E) (fun cls d _ H' => E cls d H') := takes_of rfl rfl rfl rfl
  unfold b_lead
  exact (dss_cons (ds_for (passes_of rfl) rfl (di_seq (de_var (pv 0))) (dg_tup (by rfl) (dg_cons (dg_name (pg_name (i := 2) sc.nd rfl (.inl rfl))) (dg_cons (dg_name (pg_name (i := 3) sc.nd rfl (.inl rfl))) (dg_cons (dg_name (pg_name (i := 4) sc.nd rfl (.inl rfl))) (dg_cons (dg_name (pg_name (i := 5) sc.nd rfl (.inl rfl))) dg_nil))))) (dss_one (ds_if (DW.pt (dw_and (dt_val (de_call D_is_whole (hr.mono (by decide)) (by rfl) tk (das_cons (de_var (pv 1)) das_nil))) (dw_and1 (dt_chain do_le do_lt (de_var (pv 2)) (de_var (pv 1)) (de_var (pv 3)))))) (dss_one (ds_ret (de_tp (dl_cons (de_var (pv 4)) (dl_cons (de_var (pv 5)) dl_nil))))) dss_nil)))
      (dss_one (ds_raiseT R_NoMap rfl tk (by rfl) hex_NoMap)))
abbrev s_stretch_of : Stmt := top 37
theorem sc_stretch_of : FnScope ["entries", "first", "last", "met", "entry"] ["entries", "first", "last"] (defScope s_stretch_of) := ⟨rfl, rfl, rfl, by decide +kernel, rfl, by decide +kernel, by decide +kernel⟩
def b_stretch_of : En → Ot := (oSeq (oSet 3 (eNew (eLc [4] (iSeq (eVar 0)) (gNm 4) (tOf (eBin oLt (eB oMax (lCons (eBin oIx (eVar 4) (eC (.int 0))) (lCons (eVar 1) lNil))) (eB oMin (lCons (eBin oIx (eVar 4) (eC (.int 1))) (lCons (eVar 2) lNil))))) (eSl (eVar 4) (pSome (eC (.int 2))) pNo))))
    (oSeq (oIf (tNot (tTru (eVar 3))) (oRaise 3) oNx)
    (oRet (eCall 1 G_least_stretch (aCons (eVar 3) aNil)))))
def G_stretch_of : List Sl → Rs PyData := fnOf 5 (b_stretch_of)
theorem ok_stretch_of {f : Addr} {fd : FuncData} (F : Fun K "stretch_of" "stretch_of" s_stretch_of f fd) (Z : ∀ x ∈ bltN, mg x = none) (D_least_stretch : Df P w K mg base (exs K cs nms) 1 "least_stretch" 1 G_least_stretch) (R_NoMap : RaB K mg "NoMap" (cs 3)) (hex_NoMap : ∀ H, exs K cs nms 3 [] (.ref (cs 3)) none H) : FnOk P w K mg base (L2.CX P w) 2 f fd ["entries", "first", "last"] (spG K (exs K cs nms) 3 (G_stretch_of)) := by
  have sc := sc_stretch_of
  unfold G_stretch_of
  refine fn_data' (body := b_stretch_of) F sc rfl rfl (by decide) fun cdv A outer s H E hr => ?_
  have tk : Takes (cxOf (L2.CX P w) P w K mg base ["entries", "first", "last", "met", "entry"] "stretch_of" (defScope s_stretch_of) f cdv A outer s H E) (fun cls d _ H' => E cls d H') := takes_of rfl rfl rfl rfl
  unfold b_stretch_of
  exact (dss_cons (ds_setLc (i := 3) (own := [("entry", 4)]) (by rfl) sc.nd rfl rfl (sw_true rfl rfl rfl (by decide +kernel)) (di_seq (de_var (pv 0))) (blkOk_by (own := [("entry", 4)]) (by kernel_rfl)) (by decide) (fun _ _ _ _ _ => (dg_name (pg_name (i := 4) sc.nd rfl (.inl rfl)))) (fun _ _ _ _ _ => (dts_one (dt_cmp do_lt (de_blt (dc_max rfl) (by rfl) (Z "max" (by decide)) (by decide +kernel) (dl_cons (de_ix dx_ix (de_var (pv 4)) de_int (fun _ _ => rfl)) (dl_cons (de_var (pv 1)) dl_nil))) (de_blt (dc_min rfl) (by rfl) (Z "min" (by decide)) (by decide +kernel) (dl_cons (de_ix dx_ix (de_var (pv 4)) de_int (fun _ _ => rfl)) (dl_cons (de_var (pv 2)) dl_nil))) (nomark _)))) (fun _ _ _ _ _ => (de_slice (de_var (pv 4)) (dp_some de_int) dp_no)))
      (dss_cons (ds_if (dt_nt (dt_tru (de_var (pv 3)))) (dss_one (ds_raiseT R_NoMap rfl tk (by rfl) hex_NoMap)) dss_nil)
      (dss_one (ds_ret (de_call D_least_stretch (hr.mono (by decide)) (by rfl) tk (das_cons (de_var (pv 3)) das_nil))))))
abbrev s_after : Stmt := top 38
theorem sc_after : FnScope ["entries", "other", "begin", "end", "first", "last"] ["entries", "other"] (defScope s_after) := ⟨rfl, rfl, rfl, by decide +kernel, rfl, by decide +kernel, by decide +kernel⟩
def b_after : En → Ot := (oRet (eNew (eLcX [2, 3, 4, 5] (iSeq (eVar 0)) (gTp 4 (gCn (gNm 2) (gCn (gNm 3) (gCn (gNm 4) (gCn (gNm 5) gNl))))) gYes (eTp (lCons (eVar 2) (lCons (eVar 3) (lStar (eCall 3 G_stretch_of (aCons (eVar 1) (aCons (eVar 4) (aCons (eVar 5) aNil)))) lNil)))))))
def G_after : List Sl → Rs PyData := fnOf 6 (b_after)
theorem ok_after {f : Addr} {fd : FuncData} (F : Fun K "after" "after" s_after f fd) (Z : ∀ x ∈ bltN, mg x = none) (D_stretch_of : Df P w K mg base (exs K cs nms) 2 "stretch_of" 3 G_stretch_of) : FnOk P w K mg base (L2.CX P w) 3 f fd ["entries", "other"] (spG K (exs K cs nms) 2 (G_after)) := by
  have sc := sc_after
  unfold G_after
  refine fn_data' (body := b_after) F sc rfl rfl (by decide) fun cdv A outer s H E hr => ?_
  have tk : Takes (cxOf (L2.CX P w) P w K mg base ["entries", "other", "begin", "end", "first", "last"] "after" (defScope s_after) f cdv A outer s H E) (fun cls d _ H' => E cls d H') := takes_of rfl rfl rfl rfl
  unfold b_after
  exact (dss_one (ds_ret (de_new (dn_lcX (own := [("begin", 2), ("end", 3), ("first", 4), ("last", 5)]) tk rfl rfl (by rfl) sc.nd (di_seq (de_var (pv 0))) (blkOk_by (own := [("begin", 2), ("end", 3), ("first", 4), ("last", 5)]) (by kernel_rfl)) (by decide) (fun _ _ _ _ _ => (dg_tup (by rfl) (dg_cons (dg_name (pg_name (i := 2) sc.nd rfl (.inl rfl))) (dg_cons (dg_name (pg_name (i := 3) sc.nd rfl (.inl rfl))) (dg_cons (dg_name (pg_name (i := 4) sc.nd rfl (.inl rfl))) (dg_cons (dg_name (pg_name (i := 5) sc.nd rfl (.inl rfl))) dg_nil)))))) (fun _ _ _ _ _ => dtsX_nil) (fun _ _ _ _ _ => (de_tp (dl_cons (de_var (pv 2)) (dl_cons (de_var (pv 3)) (dl_star (de_call D_stretch_of (hr.mono (by decide)) (by rfl) takesB (das_cons (de_var (pv 1)) (das_cons (de_var (pv 4)) (das_cons (de_var (pv 5)) das_nil)))) dl_nil)))))))))
abbrev s_law_mixed : Stmt := top 40
theorem sc_law_mixed : FnScope ["cell", "k", "number"] ["cell", "k"] (defScope s_law_mixed) := ⟨rfl, rfl, rfl, by decide +kernel, rfl, by decide +kernel, by decide +kernel⟩
def b_law_mixed : En → Ot := (oSeq (oSet 2 (eBin oMod (eBin oAdd (eBin oAdd (eBin oMul (eBin oMod (eVar 0) (eC (.int 2147483647))) (eC (.int 48271))) (eBin oMul (eVar 1) (eC (.int 69621)))) (eC (.int 1048583))) (eC (.int 2147483629))))
    (oSeq (oSet 2 (eBin oMod (eBin oMul (eVar 2) (eVar 2)) (eC (.int 2147483587))))
    (oRet (eBin oMod (eBin oMul (eVar 2) (eBin oAdd (eVar 2) (eC (.int 2)))) (eC (.int 2147483579))))))
def G_law_mixed : List Sl → Rs PyData := fnOf 3 (b_law_mixed)
theorem ok_law_mixed {f : Addr} {fd : FuncData} (F : Fun K "_law_mixed" "_law_mixed" s_law_mixed f fd) (Z : ∀ x ∈ bltN, mg x = none) : FnOk P w K mg base (L2.CX P w) 1 f fd ["cell", "k"] (spG K (exs K cs nms) 2 (G_law_mixed)) := by
  have sc := sc_law_mixed
  unfold G_law_mixed
  refine fn_data' (body := b_law_mixed) F sc rfl rfl (by decide) fun cdv A outer s H E hr => ?_
  have tk : Takes (cxOf (L2.CX P w) P w K mg base ["cell", "k", "number"] "_law_mixed" (defScope s_law_mixed) f cdv A outer s H E) (fun cls d _ H' => E cls d H') := takes_of rfl rfl rfl rfl
  unfold b_law_mixed
  exact (dss_cons (ds_set (i := 2) (de_op do_mod (de_op do_add (de_op do_add (de_op do_mul (de_op do_mod (de_var (pv 0)) de_int) de_int) (de_op do_mul (de_var (pv 1)) de_int)) de_int) de_int) (fun he => ps_set (i := 2) sc.nd rfl (.inl rfl) he))
      (dss_cons (ds_set (i := 2) (de_op do_mod (de_op do_mul (de_var (pv 2)) (de_var (pv 2))) de_int) (fun he => ps_set (i := 2) sc.nd rfl (.inl rfl) he))
      (dss_one (ds_ret (de_op do_mod (de_op do_mul (de_var (pv 2)) (de_op do_add (de_var (pv 2)) de_int)) de_int)))))
abbrev s_law_cell : Stmt := top 41
theorem sc_law_cell : FnScope ["script", "k", "cell", "found", "j"] ["script", "k"] (defScope s_law_cell) := ⟨rfl, rfl, rfl, by decide +kernel, rfl, by decide +kernel, by decide +kernel⟩
def b_law_cell : En → Ot := (oSeq (oSet 2 (eC (.int 0)))
    (oSeq (oIf (tOf (eBin oLt (eVar 1) (eB oLen (lCons (eVar 0) lNil)))) (oSet 2 (eBin oIx (eVar 0) (eVar 1))) oNx)
    (oSeq (oIf (tOf (eBin oGe (eVar 2) (eBin oPow (eC (.int 10)) (eC (.int 18))))) (oRet (eBin oMod (eBin oSub (eVar 2) (eBin oPow (eC (.int 10)) (eC (.int 18)))) (eBin oMul (eBin oMul (eBin oMul (eBin oPow (eC (.int 10)) (eC (.int 60))) (eBin oPow (eC (.int 10)) (eC (.int 60)))) (eBin oPow (eC (.int 10)) (eC (.int 60)))) (eBin oPow (eC (.int 10)) (eC (.int 60)))))) oNx)
    (oSeq (oSet 3 (eC (.int 0)))
    (oSeq (oFor (iRg1 (eC (.int 24))) (gNm 4) (oSet 3 (eBin oAdd (eBin oMul (eVar 3) (eC (.int 2147483579))) (eCall 2 G_law_mixed (aCons (eVar 2) (aCons (eBin oAdd (eBin oAdd (eBin oMul (eC (.int 7)) (eVar 1)) (eBin oMul (eC (.int 100)) (eVar 4))) (eBin oMul (eVar 4) (eVar 4))) aNil))))))
    (oRet (eVar 3)))))))
def G_law_cell : List Sl → Rs PyData := fnOf 5 (b_law_cell)
theorem ok_law_cell {f : Addr} {fd : FuncData} (F : Fun K "_law_cell" "_law_cell" s_law_cell f fd) (Z : ∀ x ∈ bltN, mg x = none) (D_law_mixed : Df P w K mg base (exs K cs nms) 1 "_law_mixed" 2 G_law_mixed) : FnOk P w K mg base (L2.CX P w) 2 f fd ["script", "k"] (spG K (exs K cs nms) 2 (G_law_cell)) := by
  have sc := sc_law_cell
  unfold G_law_cell
  refine fn_data' (body := b_law_cell) F sc rfl rfl (by decide) fun cdv A outer s H E hr => ?_
  have tk : Takes (cxOf (L2.CX P w) P w K mg base ["script", "k", "cell", "found", "j"] "_law_cell" (defScope s_law_cell) f cdv A outer s H E) (fun cls d _ H' => E cls d H') := takes_of rfl rfl rfl rfl
  unfold b_law_cell
  exact (dss_cons (ds_set (i := 2) de_int (fun he => ps_set (i := 2) sc.nd rfl (.inl rfl) he))
      (dss_cons (ds_if (dt_cmp do_lt (de_var (pv 1)) (de_blt dc_len (by rfl) (Z "len" (by decide)) (by decide +kernel) (dl_cons (de_var (pv 0)) dl_nil)) (nomark _)) (dss_one (ds_set (i := 2) (de_ix dx_ix (de_var (pv 0)) (de_var (pv 1)) (fun _ _ => rfl)) (fun he => ps_set (i := 2) sc.nd rfl (.inl rfl) he))) dss_nil)
      (dss_cons (ds_if (dt_cmp do_ge (de_var (pv 2)) (de_op do_pow de_int de_int) (nomark _)) (dss_one (ds_ret (de_op do_mod (de_op do_sub (de_var (pv 2)) (de_op do_pow de_int de_int)) (de_op do_mul (de_op do_mul (de_op do_mul (de_op do_pow de_int de_int) (de_op do_pow de_int de_int)) (de_op do_pow de_int de_int)) (de_op do_pow de_int de_int))))) dss_nil)
      (dss_cons (ds_set (i := 3) de_int (fun he => ps_set (i := 3) sc.nd rfl (.inl rfl) he))
      (dss_cons (ds_for (passes_of rfl) rfl (di_rng1 (by rfl) (Z "range" (by decide)) de_int) (dg_name (pg_name (i := 4) sc.nd rfl (.inl rfl))) (dss_one (ds_set (i := 3) (de_op do_add (de_op do_mul (de_var (pv 3)) de_int) (de_call D_law_mixed (hr.mono (by decide)) (by rfl) tk (das_cons (de_var (pv 2)) (das_cons (de_op do_add (de_op do_add (de_op do_mul de_int (de_var (pv 1))) (de_op do_mul de_int (de_var (pv 4)))) (de_op do_mul (de_var (pv 4)) (de_var (pv 4)))) das_nil)))) (fun he => ps_set (i := 3) sc.nd rfl (.inl rfl) he))))
      (dss_one (ds_ret (de_var (pv 3)))))))))
abbrev s_law_take : Stmt := top 42
theorem sc_law_take : FnScope ["pile", "size", "digit"] ["pile", "size"] (defScope s_law_take) := ⟨rfl, rfl, rfl, by decide +kernel, rfl, by decide +kernel, by decide +kernel⟩
def b_law_take : En → Ot := (oSeq (oSet 2 (eBin oMod (eIxO 0 (eC (.int 0))) (eVar 1)))
    (oSeq (oStL 0 (eC (.int 0)) (eBin oDiv (eIxO 0 (eC (.int 0))) (eVar 1)))
    (oRet (eVar 2))))
def G_law_take : List Sl → Rs PyData := fnOf 3 (b_law_take)
theorem ok_law_take {f : Addr} {fd : FuncData} (F : Fun K "_law_take" "_law_take" s_law_take f fd) (Z : ∀ x ∈ bltN, mg x = none) : FnOk P w K mg base (L2.CX P w) 1 f fd ["pile", "size"] (spG K (exs K cs nms) 2 (G_law_take)) := by
  have sc := sc_law_take
  unfold G_law_take
  refine fn_data' (body := b_law_take) F sc rfl rfl (by decide) fun cdv A outer s H E hr => ?_
  have tk : Takes (cxOf (L2.CX P w) P w K mg base ["pile", "size", "digit"] "_law_take" (defScope s_law_take) f cdv A outer s H E) (fun cls d _ H' => E cls d H') := takes_of rfl rfl rfl rfl
  unfold b_law_take
  exact (dss_cons (ds_set (i := 2) (de_op do_mod (de_ixO (pv 0) de_int (fun _ _ => rfl)) (de_var (pv 1))) (fun he => ps_set (i := 2) sc.nd rfl (.inl rfl) he))
      (dss_cons (ds_stL (pv 0) de_int (de_op do_div (de_ixO (pv 0) de_int (fun _ _ => rfl)) (de_var (pv 1))) (fun he hg => ps_asg he hg) (fun ho hi ht => pg_sub ho hi ht))
      (dss_one (ds_ret (de_var (pv 2))))))
abbrev s_law_text : Stmt := top 44
theorem sc_law_text : FnScope ["pile", "many", "some", "text_own", "turn"] ["pile", "many"] (defScope s_law_text) := ⟨rfl, rfl, rfl, by decide +kernel, rfl, by decide +kernel, by decide +kernel⟩
def b_law_text : En → Ot := (oSeq (oSet 2 (eNew (nLst (lCons (eC (.str "a")) (lCons (eC (.str "let")) (lCons (eC (.str "bcd")) (lCons (eC (.str "12")) (lCons (eC (.str "(")) (lCons (eC (.str ")")) (lCons (eC (.str "+")) (lCons (eC (.str "==")) (lCons (eC (.str "fn")) (lCons (eC (.str "{")) (lCons (eC (.str "}")) (lCons (eC (.str ";")) (lCons (eC (.str "1e3")) (lCons (eC (.str "while")) (lCons (eC (.str "!")) (lCons (eC (.str "||")) (lCons (eC (.str "x")) (lCons (eC (.str "0")) lNil)))))))))))))))))))))
    (oSeq (oSet 3 (eBin oIx (eNew (nLst (lCons (eC (.str "")) (lCons (eC (.str " ")) (lCons (eC (.str "\n")) lNil))))) (eCall 2 G_law_take (aOwn 0 (aCons (eC (.int 3)) aNil)))))
    (oSeq (oFor (iRg1 (eVar 1)) (gNm 4) (oSet 3 (eBin oAdd (eBin oAdd (eVar 3) (eBin oIx (eVar 2) (eCall 2 G_law_take (aOwn 0 (aCons (eC (.int 18)) aNil))))) (eBin oIx (eNew (nLst (lCons (eC (.str " ")) (lCons (eC (.str "\n")) (lCons (eC (.str "  ")) lNil))))) (eCall 2 G_law_take (aOwn 0 (aCons (eC (.int 3)) aNil)))))))
    (oRet (eVar 3)))))
def G_law_text : List Sl → Rs PyData := fnOf 5 (b_law_text)
theorem ok_law_text {f : Addr} {fd : FuncData} (F : Fun K "_law_text" "_law_text" s_law_text f fd) (Z : ∀ x ∈ bltN, mg x = none) (D_law_take : Df P w K mg base (exs K cs nms) 1 "_law_take" 2 G_law_take) : FnOk P w K mg base (L2.CX P w) 2 f fd ["pile", "many"] (spG K (exs K cs nms) 2 (G_law_text)) := by
  have sc := sc_law_text
  unfold G_law_text
  refine fn_data' (body := b_law_text) F sc rfl rfl (by decide) fun cdv A outer s H E hr => ?_
  have tk : Takes (cxOf (L2.CX P w) P w K mg base ["pile", "many", "some", "text_own", "turn"] "_law_text" (defScope s_law_text) f cdv A outer s H E) (fun cls d _ H' => E cls d H') := takes_of rfl rfl rfl rfl
  unfold b_law_text
  exact (dss_cons (ds_set (i := 2) (de_new (dn_lst (dl_cons de_str (dl_cons de_str (dl_cons de_str (dl_cons de_str (dl_cons de_str (dl_cons de_str (dl_cons de_str (dl_cons de_str (dl_cons de_str (dl_cons de_str (dl_cons de_str (dl_cons de_str (dl_cons de_str (dl_cons de_str (dl_cons de_str (dl_cons de_str (dl_cons de_str (dl_cons de_str dl_nil)))))))))))))))))))) (fun he => ps_set (i := 2) sc.nd rfl (.inl rfl) he))
      (dss_cons (ds_set (i := 3) (de_ix dx_ix (de_new (dn_lst (dl_cons de_str (dl_cons de_str (dl_cons de_str dl_nil))))) (de_call D_law_take (hr.mono (by decide)) (by rfl) tk (das_own (pv 0) (das_cons de_int das_nil))) (fun _ _ => rfl)) (fun he => ps_set (i := 3) sc.nd rfl (.inl rfl) he))
      (dss_cons (ds_for (passes_of rfl) rfl (di_rng1 (by rfl) (Z "range" (by decide)) (de_var (pv 1))) (dg_name (pg_name (i := 4) sc.nd rfl (.inl rfl))) (dss_one (ds_set (i := 3) (de_op do_add (de_op do_add (de_var (pv 3)) (de_ix dx_ix (de_var (pv 2)) (de_call D_law_take (hr.mono (by decide)) (by rfl) tk (das_own (pv 0) (das_cons de_int das_nil))) (fun _ _ => rfl))) (de_ix dx_ix (de_new (dn_lst (dl_cons de_str (dl_cons de_str (dl_cons de_str dl_nil))))) (de_call D_law_take (hr.mono (by decide)) (by rfl) tk (das_own (pv 0) (das_cons de_int das_nil))) (fun _ _ => rfl))) (fun he => ps_set (i := 3) sc.nd rfl (.inl rfl) he))))
      (dss_one (ds_ret (de_var (pv 3)))))))
abbrev s_law_map : Stmt := top 45
theorem sc_law_map : FnScope ["pile", "text_own", "size", "found", "sort", "word", "at_told", "first", "last_own"] ["pile", "text_own", "size"] (defScope s_law_map) := ⟨rfl, rfl, rfl, by decide +kernel, rfl, by decide +kernel, by decide +kernel⟩
def b_law_map : En → Ot := (oSeq (oNew 3 (nLst lNil))
    (oSeq (oFor (iSeq (eCall 1 G_words (aCons (eVar 1) aNil))) (gTp 3 (gCn (gNm 4) (gCn (gNm 5) (gCn (gNm 6) gNl)))) (oSeq (oSet 7 (eCall 2 G_law_take (aOwn 0 (aCons (eBin oAdd (eVar 2) (eC (.int 1))) aNil))))
    (oSeq (oSet 8 (eB oMin (lCons (eVar 2) (lCons (eBin oAdd (eVar 7) (eCall 2 G_law_take (aOwn 0 (aCons (eC (.int 9)) aNil)))) lNil))))
    (oDrop (gdL 3 (oApp 3 (eTp (lCons (eVar 6) (lCons (eBin oAdd (eVar 6) (eB oLen (lCons (eVar 5) lNil))) (lCons (eVar 7) (lCons (eVar 8) lNil)))))))))))
    (oRet (eVar 3))))
def G_law_map : List Sl → Rs PyData := fnOf 9 (b_law_map)
theorem ok_law_map {f : Addr} {fd : FuncData} (F : Fun K "_law_map" "_law_map" s_law_map f fd) (Z : ∀ x ∈ bltN, mg x = none) (D_law_take : Df P w K mg base (exs K cs nms) 1 "_law_take" 2 G_law_take) (D_words : Df P w K mg base (exs K cs nms) 5 "words" 1 G_words) : FnOk P w K mg base (L2.CX P w) 6 f fd ["pile", "text_own", "size"] (spG K (exs K cs nms) 3 (G_law_map)) := by
  have sc := sc_law_map
  unfold G_law_map
  refine fn_data' (body := b_law_map) F sc rfl rfl (by decide) fun cdv A outer s H E hr => ?_
  have tk : Takes (cxOf (L2.CX P w) P w K mg base ["pile", "text_own", "size", "found", "sort", "word", "at_told", "first", "last_own"] "_law_map" (defScope s_law_map) f cdv A outer s H E) (fun cls d _ H' => E cls d H') := takes_of rfl rfl rfl rfl
  unfold b_law_map
  exact (dss_cons (ds_new (i := 3) (dn_lst dl_nil) (fun he => ps_set (i := 3) sc.nd rfl (.inl rfl) he))
      (dss_cons (ds_for (passes_of rfl) rfl (di_seq (de_call D_words (hr.mono (by decide)) (by rfl) tk (das_cons (de_var (pv 1)) das_nil))) (dg_tup (by rfl) (dg_cons (dg_name (pg_name (i := 4) sc.nd rfl (.inl rfl))) (dg_cons (dg_name (pg_name (i := 5) sc.nd rfl (.inl rfl))) (dg_cons (dg_name (pg_name (i := 6) sc.nd rfl (.inl rfl))) dg_nil)))) (dss_cons (ds_set (i := 7) (de_call D_law_take (hr.mono (by decide)) (by rfl) tk (das_own (pv 0) (das_cons (de_op do_add (de_var (pv 2)) de_int) das_nil))) (fun he => ps_set (i := 7) sc.nd rfl (.inl rfl) he))
      (dss_cons (ds_set (i := 8) (de_blt (dc_min rfl) (by rfl) (Z "min" (by decide)) (by decide +kernel) (dl_cons (de_var (pv 2)) (dl_cons (de_op do_add (de_var (pv 7)) (de_call D_law_take (hr.mono (by decide)) (by rfl) tk (das_own (pv 0) (das_cons de_int das_nil)))) dl_nil))) (fun he => ps_set (i := 8) sc.nd rfl (.inl rfl) he))
      (dss_one (ds_expr (de_app (pv 3) (de_tp (dl_cons (de_var (pv 6)) (dl_cons (de_op do_add (de_var (pv 6)) (de_blt dc_len (by rfl) (Z "len" (by decide)) (by decide +kernel) (dl_cons (de_var (pv 5)) dl_nil))) (dl_cons (de_var (pv 7)) (dl_cons (de_var (pv 8)) dl_nil))))) (fun hr ha => pe_bm PySem.F.plainAttrs_list PySem.F.slot_list_append PySem.F.type_list_append hr (pv 3) ha)))))))
      (dss_one (ds_ret (de_var (pv 3))))))
abbrev s_law_asked : Stmt := top 46
theorem sc_law_asked : FnScope ["which", "one", "two", "found", "error", "e"] ["which", "one", "two"] (defScope s_law_asked) := ⟨rfl, rfl, rfl, by decide +kernel, rfl, by decide +kernel, by decide +kernel⟩
def b_law_asked (cs : Nat → Addr) (nms : Nat → Option (List Str)) : En → Ot := (oSeq (oSet 3 (eC .none))
    (oSeq (oSet 4 (eC .none))
    (oSeq (oTryK cs nms 5 4 (oIf (tOf (eBin oEq (eVar 0) (eC (.int 0)))) (oSet 3 (eCall 2 G_lead (aCons (eVar 1) (aCons (eVar 2) aNil)))) (oIf (tOf (eBin oEq (eVar 0) (eC (.int 1)))) (oSet 3 (eCall 2 G_after (aCons (eVar 1) (aCons (eVar 2) aNil)))) (oSet 3 (eCall 3 G_is_map (aCons (eVar 1) (aCons (eVar 2) (aCons (eC (.str "abc")) aNil))))))))
    (oRet (eNew (nLst (lCons (eVar 3) (lCons (eVar 4) lNil))))))))
def G_law_asked (cs : Nat → Addr) (nms : Nat → Option (List Str)) : List Sl → Rs PyData := fnOf 6 (b_law_asked cs nms)
theorem ok_law_asked {f : Addr} {fd : FuncData} (F : Fun K "_law_asked" "_law_asked" s_law_asked f fd) (Z : ∀ x ∈ bltN, mg x = none) (D_after : Df P w K mg base (exs K cs nms) 3 "after" 2 G_after) (D_is_map : Df P w K mg base (exs K cs nms) 6 "is_map" 3 G_is_map) (D_lead : Df P w K mg base (exs K cs nms) 2 "lead" 2 G_lead) (gCatch : mg "LeanError" = some (.ref cL)) (hexm : ∀ k as cls dd H, exs K cs nms k as cls dd H → PySem.W.exmOne K cls (.ref cL) = some true) : FnOk P w K mg base (L2.CX P w) 7 f fd ["which", "one", "two"] (spG K (exs K cs nms) 3 (G_law_asked cs nms)) := by
  have sc := sc_law_asked
  unfold G_law_asked
  refine fn_data' (body := b_law_asked cs nms) F sc rfl rfl (by decide) fun cdv A outer s H E hr => ?_
  have tk : Takes (cxOf (L2.CX P w) P w K mg base ["which", "one", "two", "found", "error", "e"] "_law_asked" (defScope s_law_asked) f cdv A outer s H E) (fun cls d _ H' => E cls d H') := takes_of rfl rfl rfl rfl
  unfold b_law_asked
  exact (dss_cons (ds_set (i := 3) de_non (fun he => ps_set (i := 3) sc.nd rfl (.inl rfl) he))
      (dss_cons (ds_set (i := 4) de_non (fun he => ps_set (i := 4) sc.nd rfl (.inl rfl) he))
      (dss_cons (ds_tryK (i := 5) (j := 4) rfl rfl sc.nd rfl rfl (by decide) rfl rfl rfl ⟨rfl, by decide, .inl gCatch⟩ tk hexm (fun W pn xe tkb psb => (dss_one (ds_if (dt_cmp (do_eq (ru64 hr)) (de_var (pv 0)) de_int (nomark _)) (dss_one (ds_set (i := 3) (de_call D_lead (hr.mono (by decide)) (by rfl) tkb (das_cons (de_var (pv 1)) (das_cons (de_var (pv 2)) das_nil))) (fun he => ps_set (i := 3) sc.nd rfl (.inl rfl) he))) (dss_one (ds_if (dt_cmp (do_eq (ru64 hr)) (de_var (pv 0)) de_int (nomark _)) (dss_one (ds_set (i := 3) (de_call D_after (hr.mono (by decide)) (by rfl) tkb (das_cons (de_var (pv 1)) (das_cons (de_var (pv 2)) das_nil))) (fun he => ps_set (i := 3) sc.nd rfl (.inl rfl) he))) (dss_one (ds_set (i := 3) (de_call D_is_map (hr.mono (by decide)) (by rfl) tkb (das_cons (de_var (pv 1)) (das_cons (de_var (pv 2)) (das_cons de_str das_nil)))) (fun he => ps_set (i := 3) sc.nd rfl (.inl rfl) he)))))))) rfl (fun a oe pn => pss_one (ps_set (i := 4) sc.nd rfl (.inl rfl) (pv 5))))
      (dss_one (ds_ret (de_new (dn_lst (dl_cons (de_var (pv 3)) (dl_cons (de_var (pv 4)) dl_nil)))))))))
abbrev s_law_bent : Stmt := top 47
theorem sc_law_bent : FnScope ["pile", "some", "at_told", "begin", "end", "first", "last_own", "odd", "bent", "one"] ["pile", "some"] (defScope s_law_bent) := ⟨rfl, rfl, rfl, by decide +kernel, rfl, by decide +kernel, by decide +kernel⟩
def b_law_bent : En → Ot := (oSeq (oSet 2 (eCall 2 G_law_take (aOwn 0 (aCons (eB oLen (lCons (eVar 1) lNil)) aNil))))
    (oSeq (oAsg (gTp 4 (gCn (gNm 3) (gCn (gNm 4) (gCn (gNm 5) (gCn (gNm 6) gNl))))) (eBin oIx (eVar 1) (eVar 2)))
    (oSeq (oNew 7 (nLst (lCons (eTp (lCons (eBin oAdd (eVar 3) (eC (.int 1))) (lCons (eVar 4) (lCons (eVar 5) (lCons (eVar 6) lNil))))) (lCons (eTp (lCons (eVar 3) (lCons (eBin oAdd (eVar 4) (eC (.int 1))) (lCons (eVar 5) (lCons (eVar 6) lNil))))) (lCons (eTp (lCons (eVar 3) (lCons (eVar 4) (lCons (eBin oAdd (eVar 6) (eC (.int 1))) (lCons (eVar 6) lNil))))) lNil)))))
    (oSeq (oNew 7 (nAdd (eVar 7) (eNew (nLst (lCons (eTp (lCons (eVar 3) (lCons (eVar 4) (lCons (eVar 5) (lCons (eBin oPow (eC (.int 10)) (eC (.int 4))) lNil))))) (lCons (eTp (lCons (eVar 3) (lCons (eVar 4) (lCons (eBin oSub (eC (.int 0)) (eC (.int 1))) (lCons (eVar 6) lNil))))) (lCons (eTp (lCons (eVar 3) (lCons (eVar 4) (lCons (eVar 5) lNil)))) lNil)))))))
    (oSeq (oDrop (gdL 7 (oApp 7 (eNew (nLst (lCons (eVar 3) (lCons (eVar 4) (lCons (eVar 5) (lCons (eVar 6) lNil)))))))))
    (oSeq (oNew 7 (nAdd (eVar 7) (eNew (nLst (lCons (eTp (lCons (eVar 3) (lCons (eVar 4) (lCons (eVar 5) (lCons (eVar 6) (lCons (eC (.int 0)) lNil)))))) (lCons (eC .none) (lCons (eTp (lCons (eVar 3) (lCons (eVar 4) (lCons (eC .none) (lCons (eVar 6) lNil))))) (lCons (eTp (lCons (eVar 3) (lCons (eVar 4) (lCons (eC (.str "0")) (lCons (eVar 6) lNil))))) lNil))))))))
    (oSeq (oNew 7 (nAdd (eVar 7) (eNew (nLst (lCons (eTp (lCons (eVar 3) (lCons (eVar 4) (lCons (eC (.bool false)) (lCons (eVar 6) lNil))))) (lCons (eTp (lCons (eB oStr (lCons (eVar 3) lNil)) (lCons (eVar 4) (lCons (eVar 5) (lCons (eVar 6) lNil))))) lNil))))))
    (oSeq (oNew 8 (eLc [9] (iSeq (eVar 7)) (gNm 9) gYes (eBin oAdd (eBin oAdd (eSl (eVar 1) pNo (pSome (eVar 2))) (eNew (nLst (lCons (eVar 9) lNil)))) (eSl (eVar 1) (pSome (eBin oAdd (eVar 2) (eC (.int 1)))) pNo))))
    (oSeq (oNew 8 (nAdd (eVar 8) (eNew (nLst (lCons (eBin oAdd (eSl (eVar 1) pNo (pSome (eVar 2))) (eSl (eVar 1) (pSome (eBin oAdd (eVar 2) (eC (.int 1)))) pNo)) (lCons (eBin oAdd (eSl (eVar 1) pNo (pSome (eBin oAdd (eVar 2) (eC (.int 1))))) (eSl (eVar 1) (pSome (eVar 2)) pNo)) (lCons (eB oTup (lCons (eVar 1) lNil)) (lCons (eC .none) (lCons (eC (.int 0)) (lCons (eC (.str "")) lNil))))))))))
    (oSeq (oIf (tOf (eBin oGt (eVar 2) (eC (.int 0)))) (oDrop (gdL 8 (oApp 8 (eBin oAdd (eBin oAdd (eSl (eVar 1) pNo (pSome (eBin oSub (eVar 2) (eC (.int 1))))) (eNew (nLst (lCons (eBin oIx (eVar 1) (eVar 2)) (lCons (eBin oIx (eVar 1) (eBin oSub (eVar 2) (eC (.int 1)))) lNil))))) (eSl (eVar 1) (pSome (eBin oAdd (eVar 2) (eC (.int 1)))) pNo))))) oNx)
    (oRet (eVar 8))))))))))))
def G_law_bent : List Sl → Rs PyData := fnOf 10 (b_law_bent)
theorem ok_law_bent {f : Addr} {fd : FuncData} (F : Fun K "_law_bent" "_law_bent" s_law_bent f fd) (Z : ∀ x ∈ bltN, mg x = none) (D_law_take : Df P w K mg base (exs K cs nms) 1 "_law_take" 2 G_law_take) : FnOk P w K mg base (L2.CX P w) 2 f fd ["pile", "some"] (spG K (exs K cs nms) 2 (G_law_bent)) := by
  have sc := sc_law_bent
  unfold G_law_bent
  refine fn_data' (body := b_law_bent) F sc rfl rfl (by decide) fun cdv A outer s H E hr => ?_
  have tk : Takes (cxOf (L2.CX P w) P w K mg base ["pile", "some", "at_told", "begin", "end", "first", "last_own", "odd", "bent", "one"] "_law_bent" (defScope s_law_bent) f cdv A outer s H E) (fun cls d _ H' => E cls d H') := takes_of rfl rfl rfl rfl
  unfold b_law_bent
  exact (dss_cons (ds_set (i := 2) (de_call D_law_take (hr.mono (by decide)) (by rfl) tk (das_own (pv 0) (das_cons (de_blt dc_len (by rfl) (Z "len" (by decide)) (by decide +kernel) (dl_cons (de_var (pv 1)) dl_nil)) das_nil))) (fun he => ps_set (i := 2) sc.nd rfl (.inr rfl) he))
      (dss_cons (ds_asg (de_ix dx_ix (de_var (pv 1)) (de_var (pv 2)) (fun _ _ => rfl)) (dg_tup (by rfl) (dg_cons (dg_name (pg_name (i := 3) sc.nd rfl (.inl rfl))) (dg_cons (dg_name (pg_name (i := 4) sc.nd rfl (.inl rfl))) (dg_cons (dg_name (pg_name (i := 5) sc.nd rfl (.inl rfl))) (dg_cons (dg_name (pg_name (i := 6) sc.nd rfl (.inl rfl))) dg_nil))))) (fun he hg => ps_asg he hg))
      (dss_cons (ds_new (i := 7) (dn_lst (dl_cons (de_tp (dl_cons (de_op do_add (de_var (pv 3)) de_int) (dl_cons (de_var (pv 4)) (dl_cons (de_var (pv 5)) (dl_cons (de_var (pv 6)) dl_nil))))) (dl_cons (de_tp (dl_cons (de_var (pv 3)) (dl_cons (de_op do_add (de_var (pv 4)) de_int) (dl_cons (de_var (pv 5)) (dl_cons (de_var (pv 6)) dl_nil))))) (dl_cons (de_tp (dl_cons (de_var (pv 3)) (dl_cons (de_var (pv 4)) (dl_cons (de_op do_add (de_var (pv 6)) de_int) (dl_cons (de_var (pv 6)) dl_nil))))) dl_nil)))) (fun he => ps_set (i := 7) sc.nd rfl (.inl rfl) he))
      (dss_cons (ds_new (i := 7) (dn_add (de_var (pv 7)) (de_new (dn_lst (dl_cons (de_tp (dl_cons (de_var (pv 3)) (dl_cons (de_var (pv 4)) (dl_cons (de_var (pv 5)) (dl_cons (de_op do_pow de_int de_int) dl_nil))))) (dl_cons (de_tp (dl_cons (de_var (pv 3)) (dl_cons (de_var (pv 4)) (dl_cons (de_op do_sub de_int de_int) (dl_cons (de_var (pv 6)) dl_nil))))) (dl_cons (de_tp (dl_cons (de_var (pv 3)) (dl_cons (de_var (pv 4)) (dl_cons (de_var (pv 5)) dl_nil)))) dl_nil)))))) (fun he => ps_set (i := 7) sc.nd rfl (.inl rfl) he))
      (dss_cons (ds_expr (de_app (pv 7) (de_new (dn_lst (dl_cons (de_var (pv 3)) (dl_cons (de_var (pv 4)) (dl_cons (de_var (pv 5)) (dl_cons (de_var (pv 6)) dl_nil)))))) (fun hr ha => pe_bm PySem.F.plainAttrs_list PySem.F.slot_list_append PySem.F.type_list_append hr (pv 7) ha)))
      (dss_cons (ds_new (i := 7) (dn_add (de_var (pv 7)) (de_new (dn_lst (dl_cons (de_tp (dl_cons (de_var (pv 3)) (dl_cons (de_var (pv 4)) (dl_cons (de_var (pv 5)) (dl_cons (de_var (pv 6)) (dl_cons de_int dl_nil)))))) (dl_cons de_non (dl_cons (de_tp (dl_cons (de_var (pv 3)) (dl_cons (de_var (pv 4)) (dl_cons de_non (dl_cons (de_var (pv 6)) dl_nil))))) (dl_cons (de_tp (dl_cons (de_var (pv 3)) (dl_cons (de_var (pv 4)) (dl_cons de_str (dl_cons (de_var (pv 6)) dl_nil))))) dl_nil))))))) (fun he => ps_set (i := 7) sc.nd rfl (.inl rfl) he))
      (dss_cons (ds_new (i := 7) (dn_add (de_var (pv 7)) (de_new (dn_lst (dl_cons (de_tp (dl_cons (de_var (pv 3)) (dl_cons (de_var (pv 4)) (dl_cons de_bl (dl_cons (de_var (pv 6)) dl_nil))))) (dl_cons (de_tp (dl_cons (de_bty dc_str (by rfl) (Z "str" (by decide)) (by decide +kernel) (dl_cons (de_var (pv 3)) dl_nil)) (dl_cons (de_var (pv 4)) (dl_cons (de_var (pv 5)) (dl_cons (de_var (pv 6)) dl_nil))))) dl_nil))))) (fun he => ps_set (i := 7) sc.nd rfl (.inl rfl) he))
      (dss_cons (ds_setLcN (i := 8) (own := [("one", 9)]) (by rfl) sc.nd rfl rfl (sw_true rfl rfl rfl (by decide +kernel)) (di_seq (de_var (pv 7))) (blkOk_by (own := [("one", 9)]) (by kernel_rfl)) (by decide) (fun _ _ _ _ _ => (dg_name (pg_name (i := 9) sc.nd rfl (.inl rfl)))) (fun _ _ _ _ _ => dts_nil) (fun _ _ _ _ _ => (de_op do_add (de_op do_add (de_slice (de_var (pv 1)) dp_no (dp_some (de_var (pv 2)))) (de_new (dn_lst (dl_cons (de_var (pv 9)) dl_nil)))) (de_slice (de_var (pv 1)) (dp_some (de_op do_add (de_var (pv 2)) de_int)) dp_no))))
      (dss_cons (ds_new (i := 8) (dn_add (de_var (pv 8)) (de_new (dn_lst (dl_cons (de_op do_add (de_slice (de_var (pv 1)) dp_no (dp_some (de_var (pv 2)))) (de_slice (de_var (pv 1)) (dp_some (de_op do_add (de_var (pv 2)) de_int)) dp_no)) (dl_cons (de_op do_add (de_slice (de_var (pv 1)) dp_no (dp_some (de_op do_add (de_var (pv 2)) de_int))) (de_slice (de_var (pv 1)) (dp_some (de_var (pv 2))) dp_no)) (dl_cons (de_bty dc_tup (by rfl) (Z "tuple" (by decide)) (by decide +kernel) (dl_cons (de_var (pv 1)) dl_nil)) (dl_cons de_non (dl_cons de_int (dl_cons de_str dl_nil))))))))) (fun he => ps_set (i := 8) sc.nd rfl (.inl rfl) he))
      (dss_cons (ds_if (dt_cmp do_gt (de_var (pv 2)) de_int (nomark _)) (dss_one (ds_expr (de_app (pv 8) (de_op do_add (de_op do_add (de_slice (de_var (pv 1)) dp_no (dp_some (de_op do_sub (de_var (pv 2)) de_int))) (de_new (dn_lst (dl_cons (de_ix dx_ix (de_var (pv 1)) (de_var (pv 2)) (fun _ _ => rfl)) (dl_cons (de_ix dx_ix (de_var (pv 1)) (de_op do_sub (de_var (pv 2)) de_int) (fun _ _ => rfl)) dl_nil))))) (de_slice (de_var (pv 1)) (dp_some (de_op do_add (de_var (pv 2)) de_int)) dp_no)) (fun hr ha => pe_bm PySem.F.plainAttrs_list PySem.F.slot_list_append PySem.F.type_list_append hr (pv 8) ha)))) dss_nil)
      (dss_one (ds_ret (de_var (pv 8))))))))))))))
abbrev s_law_map_good : Stmt := top 48
theorem sc_law_map_good : FnScope ["pile", "text_own", "other_text", "some", "one"] ["pile", "text_own", "other_text", "some"] (defScope s_law_map_good) := ⟨rfl, rfl, rfl, by decide +kernel, rfl, by decide +kernel, by decide +kernel⟩
def b_law_map_good : En → Ot := (oSeq (oIf (tOf (eBin oNis (eCall 3 G_is_map (aCons (eVar 3) (aCons (eVar 1) (aCons (eVar 2) aNil)))) (eC (.bool true)))) (oRet (eC (.bool false))) oNx)
    (oSeq (oIf (tOf (eBin oNis (eCallN 3 3 (permI [1, 2, 0]) G_is_map (lCons (eVar 2) (lCons (eVar 3) (lCons (eVar 1) lNil)))) (eC (.bool true)))) (oRet (eC (.bool false))) oNx)
    (oSeq (oIf (tOf (eBin oEq (eVar 3) (eNew (nLst lNil)))) (oRet (eBin oIs (eCall 3 G_is_map (aCons (eNew (nLst (lCons (eTp (lCons (eC (.int 0)) (lCons (eC (.int 1)) (lCons (eC (.int 0)) (lCons (eC (.int 0)) lNil))))) lNil))) (aCons (eVar 1) (aCons (eVar 2) aNil)))) (eC (.bool false)))) oNx)
    (oSeq (oIf (tNot (tOf (eB oAll (lCons (eNew (eLcX [4] (iSeq (eCall 2 G_law_bent (aOwn 0 (aCons (eVar 3) aNil)))) (gNm 4) gYes (eBin oIs (eCall 3 G_is_map (aCons (eVar 4) (aCons (eVar 1) (aCons (eVar 2) aNil)))) (eC (.bool false))))) lNil)))) (oRet (eC (.bool false))) oNx)
    (oRet (eAnd (eBin oIs (eCall 3 G_is_map (aCons (eVar 3) (aCons (eBin oAdd (eVar 1) (eC (.str " a"))) (aCons (eVar 2) aNil)))) (eC (.bool false))) (eBin oIs (eCall 3 G_is_map (aCons (eVar 3) (aCons (eBin oAdd (eC (.str " ")) (eVar 1)) (aCons (eVar 2) aNil)))) (eC (.bool false)))))))))
def G_law_map_good : List Sl → Rs PyData := fnOf 5 (b_law_map_good)
theorem ok_law_map_good {f : Addr} {fd : FuncData} (F : Fun K "_law_map_good" "_law_map_good" s_law_map_good f fd) (Z : ∀ x ∈ bltN, mg x = none) (D_law_bent : Df P w K mg base (exs K cs nms) 2 "_law_bent" 2 G_law_bent) (D_is_map : Df P w K mg base (exs K cs nms) 6 "is_map" 3 G_is_map) (N_is_map_other_thing_text : DfN P w K mg base (exs K cs nms) 6 "is_map" 3 ["other", "thing", "text"] (permI [1, 2, 0]) G_is_map) : FnOk P w K mg base (L2.CX P w) 7 f fd ["pile", "text_own", "other_text", "some"] (spG K (exs K cs nms) 4 (G_law_map_good)) := by
  have sc := sc_law_map_good
  unfold G_law_map_good
  refine fn_data' (body := b_law_map_good) F sc rfl rfl (by decide) fun cdv A outer s H E hr => ?_
  have tk : Takes (cxOf (L2.CX P w) P w K mg base ["pile", "text_own", "other_text", "some", "one"] "_law_map_good" (defScope s_law_map_good) f cdv A outer s H E) (fun cls d _ H' => E cls d H') := takes_of rfl rfl rfl rfl
  unfold b_law_map_good
  exact (dss_cons (ds_if (dt_cmp do_nis (de_call D_is_map (hr.mono (by decide)) (by rfl) tk (das_cons (de_var (pv 3)) (das_cons (de_var (pv 1)) (das_cons (de_var (pv 2)) das_nil)))) de_bl (by rfl)) (dss_one (ds_ret de_bl)) dss_nil)
      (dss_cons (ds_if (dt_cmp do_nis (de_callN N_is_map_other_thing_text rfl (hr.mono (by decide)) (by rfl) (dk_cons (de_var (pv 2)) (dk_cons (de_var (pv 3)) (dk_cons (de_var (pv 1)) dk_nil)))) de_bl (by rfl)) (dss_one (ds_ret de_bl)) dss_nil)
      (dss_cons (ds_if (dt_cmp (do_eq (ru64 hr)) (de_var (pv 3)) (de_new (dn_lst dl_nil)) (nomark _)) (dss_one (ds_ret (de_cmp do_is (de_call D_is_map (hr.mono (by decide)) (by rfl) tk (das_cons (de_new (dn_lst (dl_cons (de_tp (dl_cons de_int (dl_cons de_int (dl_cons de_int (dl_cons de_int dl_nil))))) dl_nil))) (das_cons (de_var (pv 1)) (das_cons (de_var (pv 2)) das_nil)))) de_bl (by rfl)))) dss_nil)
      (dss_cons (ds_if (dt_nt (dt_val (de_blt (dc_all rfl) (by rfl) (Z "all" (by decide)) (by decide +kernel) (dl_cons (de_new (dn_lcX (own := [("one", 4)]) tk rfl rfl (by rfl) sc.nd (di_seq (de_call D_law_bent (hr.mono (by decide)) (by rfl) tk (das_own (pv 0) (das_cons (de_var (pv 3)) das_nil)))) (blkOk_by (own := [("one", 4)]) (by kernel_rfl)) (by decide) (fun _ _ _ _ _ => (dg_name (pg_name (i := 4) sc.nd rfl (.inl rfl)))) (fun _ _ _ _ _ => dtsX_nil) (fun _ _ _ _ _ => (de_cmp do_is (de_call D_is_map (hr.mono (by decide)) (by rfl) takesB (das_cons (de_var (pv 4)) (das_cons (de_var (pv 1)) (das_cons (de_var (pv 2)) das_nil)))) de_bl (by rfl))))) dl_nil)))) (dss_one (ds_ret de_bl)) dss_nil)
      (dss_one (ds_ret (de_and (de_cmp do_is (de_call D_is_map (hr.mono (by decide)) (by rfl) tk (das_cons (de_var (pv 3)) (das_cons (de_op do_add (de_var (pv 1)) de_str) (das_cons (de_var (pv 2)) das_nil)))) de_bl (by rfl)) (de_one (de_cmp do_is (de_call D_is_map (hr.mono (by decide)) (by rfl) tk (das_cons (de_var (pv 3)) (das_cons (de_op do_add de_str (de_var (pv 1))) (das_cons (de_var (pv 2)) das_nil)))) de_bl (by rfl))))))))))
abbrev s_law_led_good : Stmt := top 49
theorem sc_law_led_good : FnScope ["some", "size", "at_told", "due", "entry", "found", "error"] ["some", "size"] (defScope s_law_led_good) := ⟨rfl, rfl, rfl, by decide +kernel, rfl, by decide +kernel, by decide +kernel⟩
def b_law_led_good (cs : Nat → Addr) (nms : Nat → Option (List Str)) : En → Ot := (oSeq (oFor (iRg2 (eBin oSub (eC (.int 0)) (eC (.int 1))) (eBin oAdd (eVar 1) (eC (.int 2)))) (gNm 2) (oSeq (oSet 3 (eNew (eLc [4] (iSeq (eVar 0)) (gNm 4) (tOf (eChain oLe oLt (eBin oIx (eVar 4) (eC (.int 0))) (eVar 2) (eBin oIx (eVar 4) (eC (.int 1))))) (eSl (eVar 4) (pSome (eC (.int 2))) pNo))))
    (oSeq (oAsg (gTp 2 (gCn (gNm 5) (gCn (gNm 6) gNl))) (eCall 3 (G_law_asked cs nms) (aCons (eC (.int 0)) (aCons (eVar 0) (aCons (eVar 2) aNil)))))
    (oSeq (oIf (tAndO (tOf (eBin oNe (eVar 3) (eNew (nLst lNil)))) (tOrO (tOf (eBin oNis (eVar 6) (eC .none))) (tOf (eBin oNe (eVar 5) (eBin oIx (eVar 3) (eC (.int 0))))))) (oRet (eC (.bool false))) oNx)
    (oIf (tAndO (tOf (eBin oEq (eVar 3) (eNew (nLst lNil)))) (tOrO (tOf (eBin oNis (eVar 5) (eC .none))) (tNot (tOf (eCall 2 (G_only cs) (aCons (eVar 6) (aCons (eC (.str "NoMap")) aNil))))))) (oRet (eC (.bool false))) oNx)))))
    (oRet (eC (.bool true))))
def G_law_led_good (cs : Nat → Addr) (nms : Nat → Option (List Str)) : List Sl → Rs PyData := fnOf 7 (b_law_led_good cs nms)
theorem ok_law_led_good {f : Addr} {fd : FuncData} (F : Fun K "_law_led_good" "_law_led_good" s_law_led_good f fd) (Z : ∀ x ∈ bltN, mg x = none) (D_law_asked : Df P w K mg base (exs K cs nms) 7 "_law_asked" 3 (G_law_asked cs nms)) (D_law_only : Df P w K mg base (exs K cs nms) 1 "_law_only" 2 (G_only cs)) : FnOk P w K mg base (L2.CX P w) 8 f fd ["some", "size"] (spG K (exs K cs nms) 2 (G_law_led_good cs nms)) := by
  have sc := sc_law_led_good
  unfold G_law_led_good
  refine fn_data' (body := b_law_led_good cs nms) F sc rfl rfl (by decide) fun cdv A outer s H E hr => ?_
  have tk : Takes (cxOf (L2.CX P w) P w K mg base ["some", "size", "at_told", "due", "entry", "found", "error"] "_law_led_good" (defScope s_law_led_good) f cdv A outer s H E) (fun cls d _ H' => E cls d H') := takes_of rfl rfl rfl rfl
  unfold b_law_led_good
  exact (dss_cons (ds_for (passes_of rfl) rfl (di_rng2 (by rfl) (Z "range" (by decide)) (de_op do_sub de_int de_int) (de_op do_add (de_var (pv 1)) de_int)) (dg_name (pg_name (i := 2) sc.nd rfl (.inr rfl))) (dss_cons (ds_setLc (i := 3) (own := [("entry", 4)]) (by rfl) sc.nd rfl rfl (sw_true rfl rfl rfl (by decide +kernel)) (di_seq (de_var (pv 0))) (blkOk_by (own := [("entry", 4)]) (by kernel_rfl)) (by decide) (fun _ _ _ _ _ => (dg_name (pg_name (i := 4) sc.nd rfl (.inl rfl)))) (fun _ _ _ _ _ => (dts_one (dt_chain do_le do_lt (de_ix dx_ix (de_var (pv 4)) de_int (fun _ _ => rfl)) (de_var (pv 2)) (de_ix dx_ix (de_var (pv 4)) de_int (fun _ _ => rfl))))) (fun _ _ _ _ _ => (de_slice (de_var (pv 4)) (dp_some de_int) dp_no)))
      (dss_cons (ds_asg (de_call D_law_asked (hr.mono (by decide)) (by rfl) tk (das_cons de_int (das_cons (de_var (pv 0)) (das_cons (de_var (pv 2)) das_nil)))) (dg_tup (by rfl) (dg_cons (dg_name (pg_name (i := 5) sc.nd rfl (.inl rfl))) (dg_cons (dg_name (pg_name (i := 6) sc.nd rfl (.inl rfl))) dg_nil))) (fun he hg => ps_asg he hg))
      (dss_cons (ds_if (DW.pt (dw_and (dt_cmp (do_ne (ru64 hr)) (de_var (pv 3)) (de_new (dn_lst dl_nil)) (nomark _)) (dw_and1 (DW.pt (dw_or (dt_cmp do_nis (de_var (pv 6)) de_non (by rfl)) (dw_or1 (dt_cmp (do_ne (ru64 hr)) (de_var (pv 5)) (de_ix dx_ix (de_var (pv 3)) de_int (fun _ _ => rfl)) (nomark _)))))))) (dss_one (ds_ret de_bl)) dss_nil)
      (dss_one (ds_if (DW.pt (dw_and (dt_cmp (do_eq (ru64 hr)) (de_var (pv 3)) (de_new (dn_lst dl_nil)) (nomark _)) (dw_and1 (DW.pt (dw_or (dt_cmp do_nis (de_var (pv 5)) de_non (by rfl)) (dw_or1 (dt_nt (dt_val (de_call D_law_only (hr.mono (by decide)) (by rfl) tk (das_cons (de_var (pv 6)) (das_cons de_str das_nil))))))))))) (dss_one (ds_ret de_bl)) dss_nil))))))
      (dss_one (ds_ret de_bl)))
abbrev s_law_after_good : Stmt := top 50
theorem sc_law_after_good : FnScope ["one", "two", "stood", "due", "begin", "end", "first", "last_own", "met", "entry", "at_told", "some", "found", "error"] ["one", "two"] (defScope s_law_after_good) := ⟨rfl, rfl, rfl, by decide +kernel, rfl, by decide +kernel, by decide +kernel⟩
def b_law_after_good (cs : Nat → Addr) (nms : Nat → Option (List Str)) : En → Ot := (oSeq (oSet 2 (eB oRepr (lCons (eNew (nLst (lCons (eVar 0) (lCons (eVar 1) lNil)))) lNil)))
    (oSeq (oNew 3 (nLst lNil))
    (oSeq (oFor (iSeq (eVar 0)) (gTp 4 (gCn (gNm 4) (gCn (gNm 5) (gCn (gNm 6) (gCn (gNm 7) gNl))))) (oSeq (oNew 8 (nLst lNil))
    (oSeq (oFor (iSeq (eVar 1)) (gNm 9) (oIf (tOf (eBin oNe (eNew (eLc [10] (iRg2 (eVar 6) (eVar 7)) (gNm 10) (tOf (eChain oLe oLt (eBin oIx (eVar 9) (eC (.int 0))) (eVar 10) (eBin oIx (eVar 9) (eC (.int 1))))) (eVar 10))) (eNew (nLst lNil)))) (oDrop (gdL 8 (oApp 8 (eSl (eVar 9) (pSome (eC (.int 2))) pNo)))) oNx))
    (oIf (tAndO (tOf (eBin oNe (eVar 8) (eNew (nLst lNil)))) (tOf (eOwnIs true 3))) (oDrop (gdL 3 (oApp 3 (eTp (lCons (eVar 4) (lCons (eVar 5) (lCons (eB oMin (lCons (eNew (eLc [11] (iSeq (eVar 8)) (gNm 11) gYes (eBin oIx (eVar 11) (eC (.int 0))))) lNil)) (lCons (eB oMax (lCons (eNew (eLc [11] (iSeq (eVar 8)) (gNm 11) gYes (eBin oIx (eVar 11) (eC (.int 1))))) lNil)) lNil)))))))) (oSet 3 (eC .none))))))
    (oSeq (oAsg (gTp 2 (gCn (gNm 12) (gCn (gNm 13) gNl))) (eCall 3 (G_law_asked cs nms) (aCons (eC (.int 1)) (aCons (eVar 0) (aCons (eVar 1) aNil)))))
    (oSeq (oIf (tOf (eOwnIs false 3)) (oRet (eAnd (eBin oIs (eVar 12) (eC .none)) (eCall 2 (G_only cs) (aCons (eVar 13) (aCons (eC (.str "NoMap")) aNil))))) oNx)
    (oRet (eAnd (eBin oIs (eVar 13) (eC .none)) (eAnd (eBin oEq (eVar 12) (eVar 3)) (eBin oEq (eB oRepr (lCons (eNew (nLst (lCons (eVar 0) (lCons (eVar 1) lNil)))) lNil)) (eVar 2))))))))))
def G_law_after_good (cs : Nat → Addr) (nms : Nat → Option (List Str)) : List Sl → Rs PyData := fnOf 14 (b_law_after_good cs nms)
theorem ok_law_after_good {f : Addr} {fd : FuncData} (F : Fun K "_law_after_good" "_law_after_good" s_law_after_good f fd) (Z : ∀ x ∈ bltN, mg x = none) (D_law_asked : Df P w K mg base (exs K cs nms) 7 "_law_asked" 3 (G_law_asked cs nms)) (D_law_only : Df P w K mg base (exs K cs nms) 1 "_law_only" 2 (G_only cs)) : FnOkG P w K mg base (L2.CX P w) 8 f fd ["one", "two"] (spG K (exs K cs nms) 2 (G_law_after_good cs nms)) := by
  have sc := sc_law_after_good
  unfold G_law_after_good
  refine fn_dataG (body := b_law_after_good cs nms) F sc rfl rfl (by decide) fun cdv A outer s H E hgd hr => ?_
  have tk : Takes (cxOf (L2.CX P w) P w K mg base ["one", "two", "stood", "due", "begin", "end", "first", "last_own", "met", "entry", "at_told", "some", "found", "error"] "_law_after_good" (defScope s_law_after_good) f cdv A outer s H E) (fun cls d _ H' => E cls d H') := takes_of rfl rfl rfl rfl
  unfold b_law_after_good
  exact (dss_cons (ds_set (i := 2) (de_blt (dc_repr (ru100 hr) hgd) (by rfl) (Z "repr" (by decide)) (by decide +kernel) (dl_cons (de_new (dn_lst (dl_cons (de_var (pv 0)) (dl_cons (de_var (pv 1)) dl_nil)))) dl_nil)) (fun he => ps_set (i := 2) sc.nd rfl (.inl rfl) he))
      (dss_cons (ds_new (i := 3) (dn_lst dl_nil) (fun he => ps_set (i := 3) sc.nd rfl (.inl rfl) he))
      (dss_cons (ds_for (passes_of rfl) rfl (di_seq (de_var (pv 0))) (dg_tup (by rfl) (dg_cons (dg_name (pg_name (i := 4) sc.nd rfl (.inl rfl))) (dg_cons (dg_name (pg_name (i := 5) sc.nd rfl (.inl rfl))) (dg_cons (dg_name (pg_name (i := 6) sc.nd rfl (.inl rfl))) (dg_cons (dg_name (pg_name (i := 7) sc.nd rfl (.inl rfl))) dg_nil))))) (dss_cons (ds_new (i := 8) (dn_lst dl_nil) (fun he => ps_set (i := 8) sc.nd rfl (.inl rfl) he))
      (dss_cons (ds_for (passes_of rfl) rfl (di_seq (de_var (pv 1))) (dg_name (pg_name (i := 9) sc.nd rfl (.inr rfl))) (dss_one (ds_if (dt_cmp (do_ne (ru64 hr)) (de_new (dn_lc (own := [("at_told", 10)]) (by rfl) sc.nd (di_rng2 (by rfl) (Z "range" (by decide)) (de_var (pv 6)) (de_var (pv 7))) (blkOk_by (own := [("at_told", 10)]) (by kernel_rfl)) (by decide) (fun _ _ _ _ _ => (dg_name (pg_name (i := 10) sc.nd rfl (.inl rfl)))) (fun _ _ _ _ _ => (dts_one (dt_chain do_le do_lt (de_ix dx_ix (de_var (pv 9)) de_int (fun _ _ => rfl)) (de_var (pv 10)) (de_ix dx_ix (de_var (pv 9)) de_int (fun _ _ => rfl))))) (fun _ _ _ _ _ => (de_var (pv 10))))) (de_new (dn_lst dl_nil)) (nomark _)) (dss_one (ds_expr (de_app (pv 8) (de_slice (de_var (pv 9)) (dp_some de_int) dp_no) (fun hr ha => pe_bm PySem.F.plainAttrs_list PySem.F.slot_list_append PySem.F.type_list_append hr (pv 8) ha)))) dss_nil)))
      (dss_one (ds_if (DW.pt (dw_and (dt_cmp (do_ne (ru64 hr)) (de_var (pv 8)) (de_new (dn_lst dl_nil)) (nomark _)) (dw_and1 (dt_ownNo (pv 3))))) (dss_one (ds_expr (de_app (pv 3) (de_tp (dl_cons (de_var (pv 4)) (dl_cons (de_var (pv 5)) (dl_cons (de_blt (dc_min rfl) (by rfl) (Z "min" (by decide)) (by decide +kernel) (dl_cons (de_new (dn_lc (own := [("some", 11)]) (by rfl) sc.nd (di_seq (de_var (pv 8))) (blkOk_by (own := [("some", 11)]) (by kernel_rfl)) (by decide) (fun _ _ _ _ _ => (dg_name (pg_name (i := 11) sc.nd rfl (.inl rfl)))) (fun _ _ _ _ _ => dts_nil) (fun _ _ _ _ _ => (de_ix dx_ix (de_var (pv 11)) de_int (fun _ _ => rfl))))) dl_nil)) (dl_cons (de_blt (dc_max rfl) (by rfl) (Z "max" (by decide)) (by decide +kernel) (dl_cons (de_new (dn_lc (own := [("some", 11)]) (by rfl) sc.nd (di_seq (de_var (pv 8))) (blkOk_by (own := [("some", 11)]) (by kernel_rfl)) (by decide) (fun _ _ _ _ _ => (dg_name (pg_name (i := 11) sc.nd rfl (.inl rfl)))) (fun _ _ _ _ _ => dts_nil) (fun _ _ _ _ _ => (de_ix dx_ix (de_var (pv 11)) de_int (fun _ _ => rfl))))) dl_nil)) dl_nil))))) (fun hr ha => pe_bm PySem.F.plainAttrs_list PySem.F.slot_list_append PySem.F.type_list_append hr (pv 3) ha)))) (dss_one (ds_set (i := 3) de_non (fun he => ps_set (i := 3) sc.nd rfl (.inl rfl) he))))))))
      (dss_cons (ds_asg (de_call D_law_asked (hr.mono (by decide)) (by rfl) tk (das_cons de_int (das_cons (de_var (pv 0)) (das_cons (de_var (pv 1)) das_nil)))) (dg_tup (by rfl) (dg_cons (dg_name (pg_name (i := 12) sc.nd rfl (.inl rfl))) (dg_cons (dg_name (pg_name (i := 13) sc.nd rfl (.inl rfl))) dg_nil))) (fun he hg => ps_asg he hg))
      (dss_cons (ds_if (dt_ownIs (pv 3)) (dss_one (ds_ret (de_and (de_cmp do_is (de_var (pv 12)) de_non (by rfl)) (de_one (de_call D_law_only (hr.mono (by decide)) (by rfl) tk (das_cons (de_var (pv 13)) (das_cons de_str das_nil))))))) dss_nil)
      (dss_one (ds_ret (de_and (de_cmp do_is (de_var (pv 13)) de_non (by rfl)) (de_and (de_cmp (do_eq (ru64 hr)) (de_var (pv 12)) (de_var (pv 3)) (nomark _)) (de_one (de_cmp (do_eq (ru64 hr)) (de_blt (dc_repr (ru100 hr) hgd) (by rfl) (Z "repr" (by decide)) (by decide +kernel) (dl_cons (de_new (dn_lst (dl_cons (de_var (pv 0)) (dl_cons (de_var (pv 1)) dl_nil)))) dl_nil)) (de_var (pv 2)) (nomark _))))))))))))
abbrev s_law : Stmt := top 51
theorem sc_law : FnScope ["script", "k", "pile", "texts", "turn", "one", "two", "whole_one", "entry", "error"] ["script"] (defScope s_law) := ⟨rfl, rfl, rfl, by decide +kernel, rfl, by decide +kernel, by decide +kernel⟩
def b_law (cs : Nat → Addr) (nms : Nat → Option (List Str)) : En → Ot := (oSeq (oFor (iRg1 (eB oMax (lCons (eC (.int 1)) (lCons (eB oMin (lCons (eC (.int 4)) (lCons (eB oLen (lCons (eVar 0) lNil)) lNil))) lNil)))) (gNm 1) (oSeq (oNew 2 (nLst (lCons (eCall 2 G_law_cell (aCons (eVar 0) (aCons (eVar 1) aNil))) lNil)))
    (oSeq (oSet 3 (eNew (eLc [4] (iRg1 (eC (.int 3))) (gNm 4) gYes (eCall 2 G_law_text (aOwn 2 (aCons (eCall 2 G_law_take (aOwn 2 (aCons (eBin oIx (eNew (nLst (lCons (eC (.int 3)) (lCons (eC (.int 13)) lNil)))) (eCall 2 G_law_take (aOwn 2 (aCons (eC (.int 2)) aNil)))) aNil))) aNil))))))
    (oSeq (oSet 5 (eCall 3 G_law_map (aOwn 2 (aCons (eBin oIx (eVar 3) (eC (.int 0))) (aCons (eB oLen (lCons (eBin oIx (eVar 3) (eC (.int 1))) lNil)) aNil)))))
    (oSeq (oSet 6 (eCall 3 G_law_map (aOwn 2 (aCons (eBin oIx (eVar 3) (eC (.int 1))) (aCons (eB oLen (lCons (eBin oIx (eVar 3) (eC (.int 2))) lNil)) aNil)))))
    (oSeq (oIf (tOrO (tNot (tOf (eCall 4 G_law_map_good (aOwn 2 (aCons (eBin oIx (eVar 3) (eC (.int 0))) (aCons (eBin oIx (eVar 3) (eC (.int 1))) (aCons (eVar 5) aNil))))))) (tNot (tOf (eCall 2 (G_law_led_good cs nms) (aCons (eVar 5) (aCons (eB oLen (lCons (eBin oIx (eVar 3) (eC (.int 0))) lNil)) aNil)))))) (oRet (eC (.bool false))) oNx)
    (oSeq (oSet 7 (eNew (eLc [8] (iSeq (eVar 5)) (gNm 8) gYes (eBin oAdd (eSl (eVar 8) pNo (pSome (eC (.int 2)))) (eTp (lCons (eC (.int 0)) (lCons (eB oLen (lCons (eBin oIx (eVar 3) (eC (.int 1))) lNil)) lNil)))))))
    (oSeq (oIf (tOrO (tNot (tOf (eCall 2 (G_law_after_good cs nms) (aCons (eVar 5) (aCons (eVar 6) aNil))))) (tNot (tOf (eCall 2 (G_law_after_good cs nms) (aCons (eVar 7) (aCons (eVar 6) aNil)))))) (oRet (eC (.bool false))) oNx)
    (oSeq (oSet 9 (eBin oIx (eCall 3 (G_law_asked cs nms) (aCons (eC (.int 2)) (aCons (eVar 5) (aCons (eBin oAdd (eBin oIx (eVar 3) (eC (.int 0))) (eC (.str "# a"))) aNil)))) (eC (.int 1))))
    (oIf (tOrO (tNot (tOf (eCall 2 (G_only cs) (aCons (eVar 9) (aCons (eC (.str "NoText")) aNil))))) (tOf (eBin oNe (eXat (fun (C : Int) => decide (C = ((cs 6 : Nat) : Int))) "at" (eVar 9)) (eB oLen (lCons (eBin oIx (eVar 3) (eC (.int 0))) lNil))))) (oRet (eC (.bool false))) oNx))))))))))
    (oRet (eAnd (eBin oEq (eCall 2 G_after (aCons (eNew (nLst lNil)) (aCons (eNew (nLst lNil)) aNil))) (eNew (nLst lNil))) (eAnd (eBin oEq (eCallN 2 2 (permI [1, 0]) G_lead (lCons (eC (.int 2)) (lCons (eNew (nLst (lCons (eTp (lCons (eC (.int 1)) (lCons (eC (.int 3)) (lCons (eC (.int 4)) (lCons (eC (.int 4)) lNil))))) lNil))) lNil))) (eTp (lCons (eC (.int 4)) (lCons (eC (.int 4)) lNil)))) (eBin oEq (eCallN 2 2 (permI [0, 1]) G_after (lCons (eNew (nLst lNil)) (lCons (eNew (nLst lNil)) lNil))) (eNew (nLst lNil)))))))
def G_law (cs : Nat → Addr) (nms : Nat → Option (List Str)) : List Sl → Rs PyData := fnOf 10 (b_law cs nms)
theorem ok_law {f : Addr} {fd : FuncData} (F : Fun K "law" "law" s_law f fd) (Z : ∀ x ∈ bltN, mg x = none) (D_law_after_good : DfG P w K mg base (exs K cs nms) 8 "_law_after_good" 2 (G_law_after_good cs nms)) (D_law_asked : Df P w K mg base (exs K cs nms) 7 "_law_asked" 3 (G_law_asked cs nms)) (D_law_cell : Df P w K mg base (exs K cs nms) 2 "_law_cell" 2 G_law_cell) (D_law_led_good : Df P w K mg base (exs K cs nms) 8 "_law_led_good" 2 (G_law_led_good cs nms)) (D_law_map : Df P w K mg base (exs K cs nms) 6 "_law_map" 3 G_law_map) (D_law_map_good : Df P w K mg base (exs K cs nms) 7 "_law_map_good" 4 G_law_map_good) (D_law_only : Df P w K mg base (exs K cs nms) 1 "_law_only" 2 (G_only cs)) (D_law_take : Df P w K mg base (exs K cs nms) 1 "_law_take" 2 G_law_take) (D_law_text : Df P w K mg base (exs K cs nms) 2 "_law_text" 2 G_law_text) (D_after : Df P w K mg base (exs K cs nms) 3 "after" 2 G_after) (N_after_entries_other : DfN P w K mg base (exs K cs nms) 3 "after" 2 ["entries", "other"] (permI [0, 1]) G_after) (N_lead_at_entries : DfN P w K mg base (exs K cs nms) 2 "lead" 2 ["at", "entries"] (permI [1, 0]) G_lead) (A_at : ∀ C : Addr, (fun (C : Int) => decide (C = ((cs 6 : Nat) : Int))) (C : Nat) = true → ExcK K C ∧ PySem.W.findIn K (.ref C) "at" = some none) : FnOkG P w K mg base (L2.CX P w) 9 f fd ["script"] (spG K (exs K cs nms) 1 (G_law cs nms)) := by
  have sc := sc_law
  unfold G_law
  refine fn_dataG (body := b_law cs nms) F sc rfl rfl (by decide) fun cdv A outer s H E hgd hr => ?_
  have tk : Takes (cxOf (L2.CX P w) P w K mg base ["script", "k", "pile", "texts", "turn", "one", "two", "whole_one", "entry", "error"] "law" (defScope s_law) f cdv A outer s H E) (fun cls d _ H' => E cls d H') := takes_of rfl rfl rfl rfl
  unfold b_law
  exact (dss_cons (ds_for (passes_of rfl) rfl (di_rng1 (by rfl) (Z "range" (by decide)) (de_blt (dc_max rfl) (by rfl) (Z "max" (by decide)) (by decide +kernel) (dl_cons de_int (dl_cons (de_blt (dc_min rfl) (by rfl) (Z "min" (by decide)) (by decide +kernel) (dl_cons de_int (dl_cons (de_blt dc_len (by rfl) (Z "len" (by decide)) (by decide +kernel) (dl_cons (de_var (pv 0)) dl_nil)) dl_nil))) dl_nil)))) (dg_name (pg_name (i := 1) sc.nd rfl (.inl rfl))) (dss_cons (ds_new (i := 2) (dn_lst (dl_cons (de_call D_law_cell (hr.mono (by decide)) (by rfl) tk (das_cons (de_var (pv 0)) (das_cons (de_var (pv 1)) das_nil))) dl_nil)) (fun he => ps_set (i := 2) sc.nd rfl (.inr rfl) he))
      (dss_cons (ds_set (i := 3) (de_new (dn_lc (own := [("turn", 4)]) (by rfl) sc.nd (di_rng1 (by rfl) (Z "range" (by decide)) de_int) (blkOk_by (own := [("turn", 4)]) (by kernel_rfl)) (by decide) (fun _ _ _ _ _ => (dg_name (pg_name (i := 4) sc.nd rfl (.inl rfl)))) (fun _ _ _ _ _ => dts_nil) (fun _ _ _ _ _ => (de_call D_law_text (hr.mono (by decide)) (by rfl) takes0 (das_own (pv 2) (das_cons (de_call D_law_take (hr.mono (by decide)) (by rfl) takes0 (das_own (pv 2) (das_cons (de_ix dx_ix (de_new (dn_lst (dl_cons de_int (dl_cons de_int dl_nil)))) (de_call D_law_take (hr.mono (by decide)) (by rfl) takes0 (das_own (pv 2) (das_cons de_int das_nil))) (fun _ _ => rfl)) das_nil))) das_nil)))))) (fun he => ps_set (i := 3) sc.nd rfl (.inr rfl) he))
      (dss_cons (ds_set (i := 5) (de_call D_law_map (hr.mono (by decide)) (by rfl) tk (das_own (pv 2) (das_cons (de_ix dx_ix (de_var (pv 3)) de_int (fun _ _ => rfl)) (das_cons (de_blt dc_len (by rfl) (Z "len" (by decide)) (by decide +kernel) (dl_cons (de_ix dx_ix (de_var (pv 3)) de_int (fun _ _ => rfl)) dl_nil)) das_nil)))) (fun he => ps_set (i := 5) sc.nd rfl (.inl rfl) he))
      (dss_cons (ds_set (i := 6) (de_call D_law_map (hr.mono (by decide)) (by rfl) tk (das_own (pv 2) (das_cons (de_ix dx_ix (de_var (pv 3)) de_int (fun _ _ => rfl)) (das_cons (de_blt dc_len (by rfl) (Z "len" (by decide)) (by decide +kernel) (dl_cons (de_ix dx_ix (de_var (pv 3)) de_int (fun _ _ => rfl)) dl_nil)) das_nil)))) (fun he => ps_set (i := 6) sc.nd rfl (.inl rfl) he))
      (dss_cons (ds_if (DW.pt (dw_or (dt_nt (dt_val (de_call D_law_map_good (hr.mono (by decide)) (by rfl) tk (das_own (pv 2) (das_cons (de_ix dx_ix (de_var (pv 3)) de_int (fun _ _ => rfl)) (das_cons (de_ix dx_ix (de_var (pv 3)) de_int (fun _ _ => rfl)) (das_cons (de_var (pv 5)) das_nil))))))) (dw_or1 (dt_nt (dt_val (de_call D_law_led_good (hr.mono (by decide)) (by rfl) tk (das_cons (de_var (pv 5)) (das_cons (de_blt dc_len (by rfl) (Z "len" (by decide)) (by decide +kernel) (dl_cons (de_ix dx_ix (de_var (pv 3)) de_int (fun _ _ => rfl)) dl_nil)) das_nil)))))))) (dss_one (ds_ret de_bl)) dss_nil)
      (dss_cons (ds_setLc (i := 7) (own := [("entry", 8)]) (by rfl) sc.nd rfl rfl (sw_true rfl rfl rfl (by decide +kernel)) (di_seq (de_var (pv 5))) (blkOk_by (own := [("entry", 8)]) (by kernel_rfl)) (by decide) (fun _ _ _ _ _ => (dg_name (pg_name (i := 8) sc.nd rfl (.inl rfl)))) (fun _ _ _ _ _ => dts_nil) (fun _ _ _ _ _ => (de_op do_add (de_slice (de_var (pv 8)) dp_no (dp_some de_int)) (de_tp (dl_cons de_int (dl_cons (de_blt dc_len (by rfl) (Z "len" (by decide)) (by decide +kernel) (dl_cons (de_ix dx_ix (de_var (pv 3)) de_int (fun _ _ => rfl)) dl_nil)) dl_nil))))))
      (dss_cons (ds_if (DW.pt (dw_or (dt_nt (dt_val (de_callG D_law_after_good hgd (hr.mono (by decide)) (by rfl) tk (das_cons (de_var (pv 5)) (das_cons (de_var (pv 6)) das_nil))))) (dw_or1 (dt_nt (dt_val (de_callG D_law_after_good hgd (hr.mono (by decide)) (by rfl) tk (das_cons (de_var (pv 7)) (das_cons (de_var (pv 6)) das_nil)))))))) (dss_one (ds_ret de_bl)) dss_nil)
      (dss_cons (ds_set (i := 9) (de_ix dx_ix (de_call D_law_asked (hr.mono (by decide)) (by rfl) tk (das_cons de_int (das_cons (de_var (pv 5)) (das_cons (de_op do_add (de_ix dx_ix (de_var (pv 3)) de_int (fun _ _ => rfl)) de_str) das_nil)))) de_int (fun _ _ => rfl)) (fun he => ps_set (i := 9) sc.nd rfl (.inl rfl) he))
      (dss_one (ds_if (DW.pt (dw_or (dt_nt (dt_val (de_call D_law_only (hr.mono (by decide)) (by rfl) tk (das_cons (de_var (pv 9)) (das_cons de_str das_nil))))) (dw_or1 (dt_cmp (do_ne (ru64 hr)) (de_xat A_at (de_var (pv 9))) (de_blt dc_len (by rfl) (Z "len" (by decide)) (by decide +kernel) (dl_cons (de_ix dx_ix (de_var (pv 3)) de_int (fun _ _ => rfl)) dl_nil)) (nomark _))))) (dss_one (ds_ret de_bl)) dss_nil)))))))))))
      (dss_one (ds_ret (de_and (de_cmp (do_eq (ru64 hr)) (de_call D_after (hr.mono (by decide)) (by rfl) tk (das_cons (de_new (dn_lst dl_nil)) (das_cons (de_new (dn_lst dl_nil)) das_nil))) (de_new (dn_lst dl_nil)) (nomark _)) (de_and (de_cmp (do_eq (ru64 hr)) (de_callN N_lead_at_entries rfl (hr.mono (by decide)) (by rfl) (dk_cons de_int (dk_cons (de_new (dn_lst (dl_cons (de_tp (dl_cons de_int (dl_cons de_int (dl_cons de_int (dl_cons de_int dl_nil))))) dl_nil))) dk_nil))) (de_tp (dl_cons de_int (dl_cons de_int dl_nil))) (nomark _)) (de_one (de_cmp (do_eq (ru64 hr)) (de_callN N_after_entries_other rfl (hr.mono (by decide)) (by rfl) (dk_cons (de_new (dn_lst dl_nil)) (dk_cons (de_new (dn_lst dl_nil)) dk_nil))) (de_new (dn_lst dl_nil)) (nomark _))))))))
end
end My

/-! reckoning with readings -/
namespace DA
open PySem PySem.Spec PyProof.Rows L2 XR
theorem lcO_fm {vs : List Nat} {g : PyData → En → Option En} {gt : En → Rs Bool} {ge : En → Rs PyData} {η0 : En} {p : PyData → Bool} {f : PyData → PyData} (h0 : wipeE η0 vs = η0) : ∀ (xs acc : List PyData), acc.length + xs.length ≤ sizeLine →
    (∀ x ∈ xs, ∃ η1, g x η0 = some η1 ∧ gt η1 = .ok (p x) η1 ∧ (p x = true → ge η1 = .ok (f x) η1) ∧ wipeE η1 vs = η0) → lcO vs g gt ge xs acc η0 = .ok (acc ++ (xs.filter p).map f) η0
  | [], acc, _, _ => by
    show Rs.ok acc η0 = _
    rw [List.filter_nil, List.map_nil, List.append_nil]
  | x :: xs, acc, hz, h => by
    obtain ⟨η1, e1, e2, e3, e4⟩ := h x List.mem_cons_self
    have ih := fun acc hz => lcO_fm h0 xs acc hz fun y hy => h y (List.mem_cons_of_mem _ hy)
    rw [List.length_cons] at hz
    unfold lcO
    rw [h0, e1]
    dsimp only
    rw [e2]
    cases hp : p x with
    | false =>
      dsimp only
      rw [e4, ih acc (by omega), List.filter_cons_of_neg (by rw [hp]; decide)]
    | true =>
      dsimp only
      rw [e3 hp]
      dsimp only
      rw [if_pos (by omega), e4, ih (acc ++ [f x]) (by rw [List.length_append]; simp; omega), List.filter_cons_of_pos hp, List.map_cons, List.append_assoc]
      rfl
/-- every element kept -/
theorem lcO_map {vs : List Nat} {g : PyData → En → Option En} {ge : En → Rs PyData} {η0 : En} {f : PyData → PyData} (h0 : wipeE η0 vs = η0) (xs : List PyData) (hz : xs.length ≤ sizeLine)
    (h : ∀ x ∈ xs, ∃ η1, g x η0 = some η1 ∧ ge η1 = .ok (f x) η1 ∧ wipeE η1 vs = η0) : lcO vs g gYes ge xs [] η0 = .ok (xs.map f) η0 := by
  have := lcO_fm (gt := gYes) (p := fun _ => true) (f := f) (ge := ge) (g := g) h0 xs [] (by simpa using hz) fun x hx => by
    obtain ⟨η1, e1, e2, e3⟩ := h x hx
    exact ⟨η1, e1, rfl, fun _ => e2, e3⟩
  rw [this, List.nil_append]
  congr 1
  rw [List.filter_eq_self.mpr (fun _ _ => rfl)]
/-- an element may raise -/
def mapE (f : PyData → Option PyData) : List PyData → Option (List PyData)
  | [] => some []
  | x :: xs => match f x with
    | none => none
    | some y => (mapE f xs).map (y :: ·)
theorem lcX_fm {vs : List Nat} {g : PyData → En → Option En} {ge : En → Rs PyData} {η0 : En} {f : PyData → Option PyData} {n : Nat} {as : List PyData} (h0 : wipeE η0 vs = η0) : ∀ (xs acc : List PyData), acc.length + xs.length ≤ sizeLine →
    (∀ x ∈ xs, ∃ η1, g x η0 = some η1 ∧ ge η1 = (match f x with
      | some y => .ok y η1
      | none => .ex n as η1) ∧ wipeE η1 vs = η0) → lcX vs g gYes ge xs acc η0 = match mapE f xs with
        | some ys => .ok (acc ++ ys) η0
        | none => .ex n as η0
  | [], acc, _, _ => by
    show Rs.ok acc η0 = Rs.ok (acc ++ []) η0
    rw [List.append_nil]
  | x :: xs, acc, hz, h => by
    obtain ⟨η1, e1, e2, e3⟩ := h x List.mem_cons_self
    have ih := fun acc hz => lcX_fm h0 xs acc hz fun y hy => h y (List.mem_cons_of_mem _ hy)
    rw [List.length_cons] at hz
    unfold lcX mapE
    rw [h0, e1]
    dsimp only [gYes]
    rw [e2]
    cases hf : f x with
    | none =>
      dsimp only
      rw [e3]
    | some y =>
      dsimp only
      rw [if_pos (by omega), e3, ih (acc ++ [y]) (by rw [List.length_append]; simp; omega)]
      cases mapE f xs with
      | none => rfl
      | some ys =>
        show Rs.ok (acc ++ [y] ++ ys) η0 = Rs.ok (acc ++ (y :: ys)) η0
        rw [List.append_assoc]
        rfl
end DA

namespace My
open PySem PySem.Spec PyProof.Rows L2 XR SX DA
theorem sz0 : (0 ≤ sizeLine) = True := eq_true (by decide)
theorem sz1 : (1 ≤ sizeLine) = True := eq_true (by decide)
theorem sz2 : (2 ≤ sizeLine) = True := eq_true (by decide)
theorem sz3 : (3 ≤ sizeLine) = True := eq_true (by decide)
theorem sz4 : (4 ≤ sizeLine) = True := eq_true (by decide)
theorem sz5 : (5 ≤ sizeLine) = True := eq_true (by decide)
theorem sz6 : (6 ≤ sizeLine) = True := eq_true (by decide)
theorem sz7 : (7 ≤ sizeLine) = True := eq_true (by decide)
theorem sz8 : (8 ≤ sizeLine) = True := eq_true (by decide)
theorem sz9 : (9 ≤ sizeLine) = True := eq_true (by decide)
theorem sz10 : (10 ≤ sizeLine) = True := eq_true (by decide)
theorem sz11 : (11 ≤ sizeLine) = True := eq_true (by decide)
theorem sz12 : (12 ≤ sizeLine) = True := eq_true (by decide)
theorem sz13 : (13 ≤ sizeLine) = True := eq_true (by decide)
theorem sz14 : (14 ≤ sizeLine) = True := eq_true (by decide)
theorem sz15 : (15 ≤ sizeLine) = True := eq_true (by decide)
theorem sz16 : (16 ≤ sizeLine) = True := eq_true (by decide)
theorem sz17 : (17 ≤ sizeLine) = True := eq_true (by decide)
theorem sz18 : (18 ≤ sizeLine) = True := eq_true (by decide)
theorem sz19 : (19 ≤ sizeLine) = True := eq_true (by decide)
theorem sz20 : (20 ≤ sizeLine) = True := eq_true (by decide)
local macro_rules | `(tactic| walk_at "ev") => `(tactic| simp (config := {decide := false}) only [fnOf, oSeq, Ot.seq, oSet, Rs.st, Rs.bind, eVar, eC, eBin, eUn, ofO, eAnd, eOr, eNot, eIf, oRet, oRetN, oIf, oNx, oAsg, gTp, gCn, gNm, gNl, lCons, lNil, lStar, eB, eNew, eLc, eLcX, iSeq, eCall, callO, aCons, aNil, mkArgs, putB, apart, eTyIs, eIsi, eChain, eChain3, eTp, tOf, DA.tNot, tAndO, tOrO, DA.tTru, asB, pSome, pNo, eSl, oRaise, nLst,
  List.map_cons, List.map_nil, List.length_cons, List.length_nil, List.replicate_succ, List.replicate_zero, List.cons_append, List.nil_append, List.set_cons_zero, List.set_cons_succ, List.getElem?_cons_zero, List.getElem?_cons_succ, exits, exitAt, Sl.own, Sl.retag, List.headD_cons, List.tail_cons, Option.map_some, Option.bind_some, if_true, if_false, Nat.sub_self, Nat.reduceAdd, Nat.reduceSub, Nat.zero_add, and_self, Bool.false_eq_true, reduceCtorEq, Bool.not_false, Bool.not_true, sz0, sz1, sz2, sz3, sz4, sz5, sz6, sz7, sz8, sz9, sz10, sz11, sz12, sz13, sz14, sz15, sz16, sz17, sz18, sz19, sz20, and_true, true_and, ite_true, ite_false])
theorem g_is_whole {d : PyData} {n : String} (h : tyN d = some n) : G_is_whole [.d d] = .ok (.bool (decide (n = "int"))) [none] := by
  unfold G_is_whole b_is_whole
  walk_at "ev"
  rw [h]
  walk_at "ev"
abbrev E4 : Type := Int × Int × Int × Int
def e4 (e : E4) : PyData := .tuple [.int e.1, .int e.2.1, .int e.2.2.1, .int e.2.2.2]
theorem exits1 {j : Nat} {x : PyData} {η : En} : exits j [.d x] η = some [none] := rfl
theorem exits2 {j : Nat} {x y : PyData} {η : En} : exits j [.d x, .d y] η = some [none, none] := rfl
theorem exits3 {j : Nat} {x y z : PyData} {η : En} : exits j [.d x, .d y, .d z] η = some [none, none, none] := rfl
theorem oLe_int {i j : Int} : oLe (.int i) (.int j) = some (.bool (decide (i ≤ j))) := rfl
theorem oLt_int {i j : Int} : oLt (.int i) (.int j) = some (.bool (decide (i < j))) := rfl
/-- a loop, told by a fold over its state -/
def leadF (p : Int) : List E4 → Option (Int × Int)
  | [] => none
  | e :: es => if e.1 ≤ p ∧ p < e.2.1 then some (e.2.2.1, e.2.2.2) else leadF p es
theorem g_lead (es : List E4) (p : Int) : G_lead [.d (.list (es.map e4)), .d (.int p)] = match leadF p es with
    | some r => .ok (.tuple [.int r.1, .int r.2]) [none, none]
    | none => .ex 3 [] [none, none] := by
  have loop : ∀ (es : List E4) (D a b c d : Option Sl), ∃ η', forO (gTp 4 (gCn (gNm 2) (gCn (gNm 3) (gCn (gNm 4) (gCn (gNm 5) gNl))))) (oIf (tAndO (tOf (eCall 1 G_is_whole (aCons (eVar 1) aNil))) (tOf (eChain oLe oLt (eVar 2) (eVar 1) (eVar 3)))) (oRet (eTp (lCons (eVar 4) (lCons (eVar 5) lNil)))) oNx) (es.map e4) [D, some (.d (.int p)), a, b, c, d] = match leadF p es with
      | some r => .rt (.tuple [.int r.1, .int r.2]) η'
      | none => .nx η' := by
    intro es
    induction es with
    | nil => intro D a b c d; exact ⟨_, rfl⟩
    | cons e es ih =>
      intro D a b c d
      obtain ⟨e1, e2, e3, e4'⟩ := e
      obtain ⟨η', ih⟩ := ih D (some (.d (.int e1))) (some (.d (.int e2))) (some (.d (.int e3))) (some (.d (.int e4')))
      have gw : G_is_whole [.d (.int p)] = .ok (.bool true) [none] := (g_is_whole (n := "int") rfl)
      by_cases h1 : e1 ≤ p
      · by_cases h2 : p < e2
        · refine ⟨[D, some (.d (.int p)), some (.d (.int e1)), some (.d (.int e2)), some (.d (.int e3)), some (.d (.int e4'))], ?_⟩
          rw [List.map_cons]
          unfold forO e4
          walk_at "ev"
          rw [gw]
          walk_at "ev"
          rw [oLe_int, decide_eq_true h1]
          walk_at "ev"
          rw [oLt_int, decide_eq_true h2]
          walk_at "ev"
          unfold leadF
          rw [if_pos (show e1 ≤ p ∧ p < e2 from ⟨h1, h2⟩)]
        · refine ⟨η', ?_⟩
          rw [List.map_cons]
          unfold forO e4
          walk_at "ev"
          rw [gw]
          walk_at "ev"
          rw [oLe_int, decide_eq_true h1]
          walk_at "ev"
          rw [oLt_int, decide_eq_false h2]
          walk_at "ev"
          unfold leadF
          rw [if_neg (fun z => h2 z.2)]
          exact ih
      · refine ⟨η', ?_⟩
        rw [List.map_cons]
        unfold forO e4
        walk_at "ev"
        rw [gw]
        walk_at "ev"
        rw [oLe_int, decide_eq_false h1]
        walk_at "ev"
        unfold leadF
        rw [if_neg (fun z => h1 z.1)]
        exact ih
  obtain ⟨η', e⟩ := loop es (some (.d (.list (es.map e4)))) none none none none
  unfold G_lead b_lead
  walk_at "ev"
  simp only [oFor]
  walk_at "ev"
  rw [e]
  cases leadF p es with
  | none => rfl
  | some r => rfl
end My

namespace My
open PySem PySem.Spec PyProof.Rows L2 XR SX DA
local macro_rules | `(tactic| walk_at "ev") => `(tactic| simp (config := {decide := false}) only [fnOf, oSeq, Ot.seq, oSet, Rs.st, Rs.bind, eVar, eC, eBin, eUn, ofO, eAnd, eOr, eNot, eIf, oRet, oRetN, oIf, oNx, oAsg, gTp, gCn, gNm, gNl, lCons, lNil, lStar, eB, eNew, eLc, eLcX, iSeq, eCall, callO, aCons, aNil, mkArgs, putB, apart, eTyIs, eIsi, eChain, eChain3, eTp, tOf, DA.tNot, tAndO, tOrO, DA.tTru, asB, pSome, pNo, eSl, oRaise, nLst,
  List.map_cons, List.map_nil, List.length_cons, List.length_nil, List.replicate_succ, List.replicate_zero, List.cons_append, List.nil_append, List.set_cons_zero, List.set_cons_succ, List.getElem?_cons_zero, List.getElem?_cons_succ, exits, exitAt, Sl.own, Sl.retag, List.headD_cons, List.tail_cons, Option.map_some, Option.bind_some, if_true, if_false, Nat.sub_self, Nat.reduceAdd, Nat.reduceSub, Nat.zero_add, and_self, Bool.false_eq_true, reduceCtorEq, Bool.not_false, Bool.not_true, sz0, sz1, sz2, sz3, sz4, sz5, sz6, sz7, sz8, sz9, sz10, sz11, sz12, sz13, sz14, sz15, sz16, sz17, sz18, sz19, sz20, and_true, true_and, ite_true, ite_false])
def p2 (r : Int × Int) : PyData := .tuple [.int r.1, .int r.2]
def fstD : PyData → PyData
  | .tuple (x :: _) => x
  | _ => .none
def sndD : PyData → PyData
  | .tuple (_ :: x :: _) => x
  | _ => .none
theorem intsOf_map {α : Type} (f : α → Int) : ∀ xs : List α, intsOf (xs.map fun x => .int (f x)) = some (xs.map f)
  | [] => rfl
  | x :: xs => by
    rw [List.map_cons, List.map_cons]
    show (intsOf (xs.map fun x => .int (f x))).map (f x :: ·) = _
    rw [intsOf_map f xs]
    rfl
def minF : List Int → Int
  | [] => 0
  | n :: ns => ns.foldl min n
def maxF : List Int → Int
  | [] => 0
  | n :: ns => ns.foldl max n
theorem oMin_map {α : Type} (f : α → Int) {xs : List α} (h : xs ≠ []) : oMin [.list (xs.map fun x => .int (f x))] = some (.int (minF (xs.map f))) := by
  cases xs with
  | nil => exact (h rfl).elim
  | cons x xs =>
    unfold oMin
    dsimp only
    rw [intsOf_map f (x :: xs)]
    rfl
theorem oMax_map {α : Type} (f : α → Int) {xs : List α} (h : xs ≠ []) : oMax [.list (xs.map fun x => .int (f x))] = some (.int (maxF (xs.map f))) := by
  cases xs with
  | nil => exact (h rfl).elim
  | cons x xs =>
    unfold oMax
    dsimp only
    rw [intsOf_map f (x :: xs)]
    rfl
theorem g_least {ms : List (Int × Int)} (h : ms ≠ []) (hz : ms.length ≤ sizeLine) : G_least_stretch [.d (.list (ms.map p2))] = .ok (.tuple [.int (minF (ms.map (·.1))), .int (maxF (ms.map (·.2)))]) [none] := by
  have e1 : lcO [1, 2] (gTp 2 (gCn (gNm 1) (gCn (gNm 2) gNl))) gYes (eVar 1) (ms.map p2) [] [some (.d (.list (ms.map p2))), none, none, none] = .ok ((ms.map p2).map fstD) [some (.d (.list (ms.map p2))), none, none, none] := by
    refine lcO_map rfl _ (by rw [List.length_map]; exact hz) fun x hx => ?_
    obtain ⟨r, _, rfl⟩ := List.mem_map.mp hx
    exact ⟨[some (.d (.list (ms.map p2))), some (.d (.int r.1)), some (.d (.int r.2)), none], rfl, rfl, rfl⟩
  have e2 : lcO [2, 3] (gTp 2 (gCn (gNm 2) (gCn (gNm 3) gNl))) gYes (eVar 3) (ms.map p2) [] [some (.d (.list (ms.map p2))), none, none, none] = .ok ((ms.map p2).map sndD) [some (.d (.list (ms.map p2))), none, none, none] := by
    refine lcO_map rfl _ (by rw [List.length_map]; exact hz) fun x hx => ?_
    obtain ⟨r, _, rfl⟩ := List.mem_map.mp hx
    exact ⟨[some (.d (.list (ms.map p2))), none, some (.d (.int r.1)), some (.d (.int r.2))], rfl, rfl, rfl⟩
  have m1 : (ms.map p2).map fstD = ms.map fun r => .int r.1 := by rw [List.map_map]; rfl
  have m2 : (ms.map p2).map sndD = ms.map fun r => .int r.2 := by rw [List.map_map]; rfl
  unfold G_least_stretch b_least_stretch
  walk_at "ev"
  rw [e1]
  walk_at "ev"
  rw [m1, oMin_map (·.1) h]
  walk_at "ev"
  rw [e2]
  walk_at "ev"
  rw [m2, oMax_map (·.2) h]
  walk_at "ev"
def metF (two : List E4) (f l : Int) : List (Int × Int) := (two.filter fun e => decide (max e.1 f < min e.2.1 l)).map fun e => (e.2.2.1, e.2.2.2)
def stretchF (two : List E4) (f l : Int) : Option (Int × Int) := if metF two f l = [] then none else some (minF ((metF two f l).map (·.1)), maxF ((metF two f l).map (·.2)))
def pick {α : Type} (d : α) : Option α → α
  | some x => x
  | none => d
def un4 : PyData → E4
  | .tuple [.int a, .int b, .int c, .int d] => (a, b, c, d)
  | _ => (0, 0, 0, 0)
theorem un_e4 (e : E4) : un4 (e4 e) = e := rfl
theorem mx_int {i j : Int} : (if j > i then j else i) = max i j := by split <;> omega
theorem mn_int {i j : Int} : (if j < i then j else i) = min i j := by split <;> omega
theorem g_stretch (two : List E4) (f l : Int) (hz : two.length ≤ sizeLine) : G_stretch_of [.d (.list (two.map e4)), .d (.int f), .d (.int l)] = match stretchF two f l with
    | some r => .ok (p2 r) [none, none, none]
    | none => .ex 3 [] [none, none, none] := by
  have e1 : lcO [4] (gNm 4) (tOf (eBin oLt (eB oMax (lCons (eBin oIx (eVar 4) (eC (.int 0))) (lCons (eVar 1) lNil))) (eB oMin (lCons (eBin oIx (eVar 4) (eC (.int 1))) (lCons (eVar 2) lNil))))) (eSl (eVar 4) (pSome (eC (.int 2))) pNo) (two.map e4) [] [some (.d (.list (two.map e4))), some (.d (.int f)), some (.d (.int l)), none, none] =
      .ok ([] ++ ((two.map e4).filter fun x => decide (max (un4 x).1 f < min (un4 x).2.1 l)).map fun x => p2 ((un4 x).2.2.1, (un4 x).2.2.2)) [some (.d (.list (two.map e4))), some (.d (.int f)), some (.d (.int l)), none, none] := by
    refine lcO_fm rfl _ _ (by rw [List.length_map]; simpa using hz) fun x hx => ?_
    obtain ⟨e, _, rfl⟩ := List.mem_map.mp hx
    refine ⟨[some (.d (.list (two.map e4))), some (.d (.int f)), some (.d (.int l)), none, some (.d (e4 e))], rfl, ?_, fun _ => rfl, rfl⟩
    have i0 : oIx (e4 e) (.int 0) = some (.int e.1) := rfl
    have i1 : oIx (e4 e) (.int 1) = some (.int e.2.1) := rfl
    have j0 : oMax [.int e.1, .int f] = some (.int (max e.1 f)) := congrArg (fun z => some (PyData.int z)) (mx_int)
    have j1 : oMin [.int e.2.1, .int l] = some (.int (min e.2.1 l)) := congrArg (fun z => some (PyData.int z)) (mn_int)
    walk_at "ev"
    rw [i0]
    walk_at "ev"
    rw [j0]
    walk_at "ev"
    rw [i1]
    walk_at "ev"
    rw [j1]
    walk_at "ev"
    rw [oLt_int]
    walk_at "ev"
    rw [un_e4]
  have m1 : ((two.map e4).filter fun x => decide (max (un4 x).1 f < min (un4 x).2.1 l)).map (fun x => p2 ((un4 x).2.2.1, (un4 x).2.2.2)) = (metF two f l).map p2 := by
    unfold metF
    rw [List.filter_map, List.map_map, List.map_map]
    rfl
  unfold G_stretch_of b_stretch_of
  walk_at "ev"
  rw [e1]
  walk_at "ev"
  rw [m1]
  have tr : truD (.list ((metF two f l).map p2)) = some (!decide (metF two f l = [])) := by
    cases metF two f l <;> rfl
  rw [tr]
  unfold stretchF
  by_cases hm : metF two f l = []
  · rw [if_pos hm, hm]
    rfl
  · rw [if_neg hm, decide_eq_false hm]
    walk_at "ev"
    have hl : (metF two f l).length ≤ sizeLine := by
      unfold metF
      rw [List.length_map]
      exact Nat.le_trans (List.length_filter_le _ _) hz
    rw [g_least hm hl]
    walk_at "ev"
    rfl
end My

namespace My
open PySem PySem.Spec PyProof.Rows L2 XR SX DA
local macro_rules | `(tactic| walk_at "ev") => `(tactic| simp (config := {decide := false}) only [fnOf, oSeq, Ot.seq, oSet, Rs.st, Rs.bind, eVar, eC, eBin, eUn, ofO, eAnd, eOr, eNot, eIf, oRet, oRetN, oIf, oNx, oAsg, gTp, gCn, gNm, gNl, lCons, lNil, lStar, eB, eNew, eLc, eLcX, iSeq, eCall, callO, aCons, aNil, mkArgs, putB, apart, eTyIs, eIsi, eChain, eChain3, eTp, tOf, DA.tNot, tAndO, tOrO, DA.tTru, asB, pSome, pNo, eSl, oRaise, nLst,
  List.map_cons, List.map_nil, List.length_cons, List.length_nil, List.replicate_succ, List.replicate_zero, List.cons_append, List.nil_append, List.set_cons_zero, List.set_cons_succ, List.getElem?_cons_zero, List.getElem?_cons_succ, exits, exitAt, Sl.own, Sl.retag, List.headD_cons, List.tail_cons, Option.map_some, Option.bind_some, if_true, if_false, Nat.sub_self, Nat.reduceAdd, Nat.reduceSub, Nat.zero_add, and_self, Bool.false_eq_true, reduceCtorEq, Bool.not_false, Bool.not_true, sz0, sz1, sz2, sz3, sz4, sz5, sz6, sz7, sz8, sz9, sz10, sz11, sz12, sz13, sz14, sz15, sz16, sz17, sz18, sz19, sz20, and_true, true_and, ite_true, ite_false])
def afterF (two : List E4) : List E4 → Option (List E4)
  | [] => some []
  | e :: es => match stretchF two e.2.2.1 e.2.2.2 with
    | none => none
    | some r => (afterF two es).map ((e.1, e.2.1, r.1, r.2) :: ·)
def aftD (two : List E4) (x : PyData) : Option PyData := (stretchF two (un4 x).2.2.1 (un4 x).2.2.2).map fun r => e4 ((un4 x).1, (un4 x).2.1, r.1, r.2)
theorem mapE_after (two : List E4) : ∀ one : List E4, mapE (aftD two) (one.map e4) = (afterF two one).map (List.map e4)
  | [] => rfl
  | e :: es => by
    rw [List.map_cons]
    unfold mapE afterF
    show (match (stretchF two e.2.2.1 e.2.2.2).map fun r => e4 (e.1, e.2.1, r.1, r.2) with
      | none => none
      | some y => (mapE (aftD two) (es.map e4)).map (y :: ·)) = _
    rw [mapE_after two es]
    cases stretchF two e.2.2.1 e.2.2.2 with
    | none => rfl
    | some r =>
      show ((afterF two es).map (List.map e4)).map _ = ((afterF two es).map _).map _
      cases afterF two es <;> rfl
theorem g_after (one two : List E4) (hz : two.length ≤ sizeLine) (hz1 : one.length ≤ sizeLine) : G_after [.d (.list (one.map e4)), .d (.list (two.map e4))] = match afterF two one with
    | some es => .ok (.list (es.map e4)) [none, none]
    | none => .ex 3 [] [none, none] := by
  have e1 := lcX_fm (vs := [2, 3, 4, 5]) (g := gTp 4 (gCn (gNm 2) (gCn (gNm 3) (gCn (gNm 4) (gCn (gNm 5) gNl))))) (ge := eTp (lCons (eVar 2) (lCons (eVar 3) (lStar (eCall 3 G_stretch_of (aCons (eVar 1) (aCons (eVar 4) (aCons (eVar 5) aNil)))) lNil)))) (η0 := [some (.d (.list (one.map e4))), some (.d (.list (two.map e4))), none, none, none, none]) (f := aftD two) (n := 3) (as := []) rfl (one.map e4) [] (by rw [List.length_map]; simpa using hz1) fun x hx => by
    obtain ⟨e, _, rfl⟩ := List.mem_map.mp hx
    refine ⟨[some (.d (.list (one.map e4))), some (.d (.list (two.map e4))), some (.d (.int e.1)), some (.d (.int e.2.1)), some (.d (.int e.2.2.1)), some (.d (.int e.2.2.2))], rfl, ?_, rfl⟩
    walk_at "ev"
    rw [g_stretch two _ _ hz]
    show _ = match (stretchF two e.2.2.1 e.2.2.2).map fun r => e4 (e.1, e.2.1, r.1, r.2) with
      | some y => Rs.ok y _
      | none => Rs.ex 3 [] _
    cases stretchF two e.2.2.1 e.2.2.2 with
    | none =>
      walk_at "ev"
      rfl
    | some r =>
      unfold p2
      walk_at "ev"
      rfl
  unfold G_after b_after
  walk_at "ev"
  rw [e1, mapE_after]
  cases afterF two one with
  | none => rfl
  | some es => rfl
/-! ### maps -/
def entB : PyData → Bool
  | .tuple xs => decide (xs.length = 4) && xs.all fun x => decide (tyN x = some "int")
  | _ => false
/-- what a thing of a map may be -/
def entOk : PyData → Bool
  | .tuple xs => decide (xs.length ≤ sizeLine) && xs.all fun x => (tyN x).isSome
  | .dict _ => false
  | _ => true
theorem oEq_int {i j : Int} : oEq (.int i) (.int j) = some (.bool (decide (i = j))) := by
  show some (PyData.bool (PyData.eqv (.int i) (.int j))) = _
  rfl
theorem allB (xs : List PyData) : boolsOf (xs.map fun x => .bool (decide (tyN x = some "int"))) = some (xs.map fun x => decide (tyN x = some "int")) := by
  induction xs with
  | nil => rfl
  | cons x xs ih =>
    rw [List.map_cons, List.map_cons]
    show (boolsOf (xs.map fun x => PyData.bool (decide (tyN x = some "int")))).map _ = _
    rw [ih]
    rfl
theorem g_is_entry {d : PyData} (h : entOk d = true) : G_is_entry [.d d] = .ok (.bool (entB d)) [none] := by
  cases d with
  | tuple xs =>
    unfold entOk at h
    rw [Bool.and_eq_true, decide_eq_true_eq] at h
    obtain ⟨hz, h⟩ := h
    have k1 : (tyN (.tuple xs)).bind (fun n => (kitB n "tuple").map PyData.bool) = some (.bool true) := rfl
    have k2 : oLen [.tuple xs] = some (.int xs.length) := rfl
    unfold G_is_entry b_is_entry
    walk_at "ev"
    rw [k1]
    walk_at "ev"
    rw [k2]
    walk_at "ev"
    by_cases h4 : xs.length = 4
    · have k3 : oEq (.int xs.length) (.int 4) = some (.bool true) := by rw [h4]; rfl
      rw [k3]
      walk_at "ev"
      have e1 : lcO [1] (gNm 1) gYes (eCall 1 G_is_whole (aCons (eVar 1) aNil)) xs [] [some (.d (.tuple xs)), none] = .ok (xs.map fun x => .bool (decide (tyN x = some "int"))) [some (.d (.tuple xs)), none] := by
        refine lcO_map rfl _ hz fun x hx => ⟨[some (.d (.tuple xs)), some (.d x)], rfl, ?_, rfl⟩
        obtain ⟨n, hn⟩ := Option.isSome_iff_exists.mp (List.all_eq_true.mp h x hx)
        walk_at "ev"
        rw [g_is_whole hn, hn]
        walk_at "ev"
        simp
      rw [e1]
      walk_at "ev"
      have k4 : oAll [.list (xs.map fun x => .bool (decide (tyN x = some "int")))] = some (.bool (entB (.tuple xs))) := by
        unfold oAll entB
        dsimp only
        rw [allB, h4]
        simp [List.all_map]
        rfl
      rw [k4]
    · have k3 : oEq (.int xs.length) (.int 4) = some (.bool false) := by
        rw [oEq_int]
        rw [decide_eq_false (by omega)]
      rw [k3]
      walk_at "ev"
      have : entB (.tuple xs) = false := by
        show (decide (xs.length = 4) && _) = false
        rw [decide_eq_false h4]
        rfl
      rw [this]
  | dict _ => cases h
  | none => rfl
  | bool b => rfl
  | int i => rfl
  | str z => rfl
  | list xs => rfl
end My

namespace My
open PySem PySem.Spec PyProof.Rows L2 XR SX DA
local macro_rules | `(tactic| walk_at "ev") => `(tactic| simp (config := {decide := false}) only [fnOf, oSeq, Ot.seq, oSet, Rs.st, Rs.bind, eVar, eC, eBin, eUn, ofO, eAnd, eOr, eNot, eIf, oRet, oRetN, oIf, oNx, oAsg, gTp, gCn, gNm, gNl, lCons, lNil, lStar, eB, eNew, eLc, eLcX, iSeq, eCall, callO, aCons, aNil, mkArgs, putB, apart, eTyIs, eIsi, eChain, eChain3, eTp, tOf, DA.tNot, tAndO, tOrO, DA.tTru, asB, pSome, pNo, eSl, oRaise, nLst,
  List.map_cons, List.map_nil, List.length_cons, List.length_nil, List.replicate_succ, List.replicate_zero, List.cons_append, List.nil_append, List.set_cons_zero, List.set_cons_succ, List.getElem?_cons_zero, List.getElem?_cons_succ, exits, exitAt, Sl.own, Sl.retag, List.headD_cons, List.tail_cons, Option.map_some, Option.bind_some, if_true, if_false, Nat.sub_self, Nat.reduceAdd, Nat.reduceSub, Nat.zero_add, and_self, Bool.false_eq_true, reduceCtorEq, Bool.not_false, Bool.not_true, sz0, sz1, sz2, sz3, sz4, sz5, sz6, sz7, sz8, sz9, sz10, sz11, sz12, sz13, sz14, sz15, sz16, sz17, sz18, sz19, sz20, and_true, true_and, ite_true, ite_false])
def entOfB (e : E4) (r : Ent) (n : Nat) : Bool := decide (e.1 = (r.2.2 : Int)) && (decide (e.2.1 = (r.2.2 : Int) + (r.2.1.length : Int)) && (decide (0 ≤ e.2.2.1) && (decide (e.2.2.1 ≤ e.2.2.2) && decide (e.2.2.2 ≤ (n : Int)))))
theorem S_len (w : List Nat) : (S w).length = w.length := List.size_toArray
theorem oLen_S {w : List Nat} (h : w.length ≤ sizeLine) : oLen [.str (S w)] = some (.int w.length) := by
  unfold oLen
  dsimp only
  rw [S_len, if_pos h]
theorem g_is_entry_of (e : E4) (r : Ent) (n : Nat) (hw : r.2.1.length ≤ sizeLine) : G_is_entry_of [.d (e4 e), .d (entD r), .d (.int n)] = .ok (.bool (entOfB e r n)) [none, none, none] := by
  obtain ⟨s, w, k⟩ := r
  obtain ⟨a, b, c, d⟩ := e
  have o : ∀ i j : Int, oAdd (.int i) (.int j) = some (.int (i + j)) := fun _ _ => rfl
  unfold G_is_entry_of b_is_entry_of e4 entD
  walk_at "ev"
  rw [oEq_int]
  unfold entOfB
  dsimp only
  by_cases h1 : a = (k : Int)
  · rw [decide_eq_true h1]
    walk_at "ev"
    rw [oLen_S hw]
    walk_at "ev"
    rw [o, ]
    walk_at "ev"
    rw [oEq_int]
    by_cases h2 : b = (k : Int) + (w.length : Int)
    · rw [decide_eq_true h2]
      walk_at "ev"
      rw [oLe_int]
      by_cases h3 : 0 ≤ c
      · rw [decide_eq_true h3]
        walk_at "ev"
        rw [oLe_int]
        by_cases h4 : c ≤ d
        · rw [decide_eq_true h4]
          walk_at "ev"
          rw [oLe_int]
          rfl
        · rw [decide_eq_false h4]
          walk_at "ev"
          rfl
      · rw [decide_eq_false h3]
        walk_at "ev"
        rfl
    · rw [decide_eq_false h2]
      walk_at "ev"
      rfl
  · rw [decide_eq_false h1]
    walk_at "ev"
    rfl
theorem ent_e4 {x : PyData} (h : entB x = true) : x = e4 (un4 x) := by
  cases x with
  | tuple xs =>
    have h' : (decide (xs.length = 4) && xs.all fun x => decide (tyN x = some "int")) = true := h
    rw [Bool.and_eq_true, decide_eq_true_eq] at h'
    obtain ⟨h4, ha⟩ := h'
    match xs, h4 with
    | [a, b, c, d], _ =>
      have isI : ∀ y ∈ [a, b, c, d], ∃ i, y = PyData.int i := fun y hy => by
        have := of_decide_eq_true (List.all_eq_true.mp ha y hy)
        cases y with
        | int i => exact ⟨i, rfl⟩
        | _ => revert this; simp [tyN]
      obtain ⟨i, rfl⟩ := isI a (by simp)
      obtain ⟨j, rfl⟩ := isI b (by simp)
      obtain ⟨k, rfl⟩ := isI c (by simp)
      obtain ⟨l, rfl⟩ := isI d (by simp)
      rfl
  | _ => cases h
/-- a thing is a map of these rows -/
def mapB (d : PyData) (rows : List Ent) (n : Nat) : Bool := match d with
  | .list xs => decide (xs.length = rows.length) && (xs.zip rows).all fun p => entB p.1 && entOfB (un4 p.1) p.2 n
  | _ => false
def mapOk (d : PyData) : Bool := match d with
  | .list xs => decide (xs.length ≤ sizeLine) && xs.all entOk
  | .dict _ => false
  | _ => true
def unE : PyData → Ent
  | .tuple [.str s, .str w, .int k] => (s, codes w, k.toNat)
  | _ => ("", [], 0)
theorem codes_S (w : List Nat) : codes (S w) = w := by
  show (w.toArray).toList = w
  simp
theorem un_ent (r : Ent) : unE (entD r) = r := by
  obtain ⟨s, w, k⟩ := r
  show (s, codes (S w), ((k : Nat) : Int).toNat) = (s, w, k)
  rw [codes_S]
  rfl
theorem zip_map (xs : List PyData) (rows : List Ent) : zipD xs (rows.map entD) = (xs.zip rows).map fun p => .tuple [p.1, entD p.2] := by
  induction xs generalizing rows with
  | nil => rfl
  | cons x xs ih =>
    cases rows with
    | nil => rfl
    | cons r rows =>
      show PyData.tuple [x, entD r] :: zipD xs (rows.map entD) = _
      rw [ih]
      rfl
def zipB (n : Nat) (x : PyData) : PyData := match x with
  | .tuple [a, b] => .bool (entB a && entOfB (un4 a) (unE b) n)
  | _ => .none
theorem bools_map {α : Type} (f : α → Bool) (xs : List α) : boolsOf (xs.map fun x => .bool (f x)) = some (xs.map f) := by
  induction xs with
  | nil => rfl
  | cons x xs ih =>
    rw [List.map_cons, List.map_cons]
    show (boolsOf (xs.map fun x => PyData.bool (f x))).map _ = _
    rw [ih]
    rfl
theorem g_is_map {d : PyData} {x : Str} {t : List Nat} {rows : List Ent} (hw : G_words [.d (.str x)] = .ok (.list (rows.map entD)) [none]) (hd : mapOk d = true) (ht : t.length ≤ sizeLine) (hr : rows.length ≤ sizeLine) (hrw : ∀ r ∈ rows, r.2.1.length ≤ sizeLine) :
    G_is_map [.d d, .d (.str x), .d (.str (S t))] = .ok (.bool (mapB d rows t.length)) [none, none, none] := by
  unfold G_is_map b_is_map
  walk_at "ev"
  rw [hw]
  walk_at "ev"
  cases d with
  | list xs =>
    have hd' : (decide (xs.length ≤ sizeLine) && xs.all entOk) = true := hd
    rw [Bool.and_eq_true, decide_eq_true_eq] at hd'
    obtain ⟨hz, ha⟩ := hd'
    have k1 : (tyN (.list xs)).bind (fun n => (kitB n "list").map PyData.bool) = some (.bool true) := rfl
    have k2 : oLen [.list xs] = some (.int xs.length) := rfl
    have k3 : oLen [.list (rows.map entD)] = some (.int rows.length) := by
      show some (PyData.int ((rows.map entD).length : Nat)) = _
      rw [List.length_map]
    have k4 : oNe (.int xs.length) (.int rows.length) = some (.bool (!decide ((xs.length : Int) = rows.length))) := rfl
    rw [k1]
    walk_at "ev"
    rw [k2]
    walk_at "ev"
    rw [k3]
    walk_at "ev"
    rw [k4]
    by_cases hl : xs.length = rows.length
    · rw [decide_eq_true (by rw [hl] : (xs.length : Int) = rows.length)]
      walk_at "ev"
      simp only [iZp]
      walk_at "ev"
      rw [zip_map]
      have e1 : lcO [4, 5] (gTp 2 (gCn (gNm 4) (gCn (gNm 5) gNl))) gYes (eAnd (eCall 1 G_is_entry (aCons (eVar 4) aNil)) (eCall 3 G_is_entry_of (aCons (eVar 4) (aCons (eVar 5) (aCons (eB oLen (lCons (eVar 2) lNil)) aNil))))) ((xs.zip rows).map fun p => .tuple [p.1, entD p.2]) [] [some (.d (.list xs)), some (.d (.str x)), some (.d (.str (S t))), some (.d (.list (rows.map entD))), none, none] =
          .ok (((xs.zip rows).map fun p => .tuple [p.1, entD p.2]).map (zipB t.length)) [some (.d (.list xs)), some (.d (.str x)), some (.d (.str (S t))), some (.d (.list (rows.map entD))), none, none] := by
        refine lcO_map rfl _ (by rw [List.length_map, List.length_zip]; omega) fun y hy => ?_
        obtain ⟨⟨a, r⟩, hm, rfl⟩ := List.mem_map.mp hy
        have hm' := List.of_mem_zip hm
        refine ⟨[some (.d (.list xs)), some (.d (.str x)), some (.d (.str (S t))), some (.d (.list (rows.map entD))), some (.d a), some (.d (entD r))], rfl, ?_, rfl⟩
        have ge := g_is_entry (List.all_eq_true.mp ha a hm'.1)
        have zb : zipB t.length (.tuple [a, entD r]) = .bool (entB a && entOfB (un4 a) r t.length) := by
          show PyData.bool (entB a && entOfB (un4 a) (unE (entD r)) t.length) = _
          rw [un_ent]
        rw [zb]
        walk_at "ev"
        rw [ge]
        cases hb : entB a with
        | false =>
          walk_at "ev"
          rfl
        | true =>
          walk_at "ev"
          rw [oLen_S ht]
          have ea := ent_e4 hb
          have := g_is_entry_of (un4 a) r t.length (hrw r hm'.2)
          rw [← ea] at this
          walk_at "ev"
          rw [this]
          rfl
      rw [e1]
      walk_at "ev"
      have k5 : oAll [.list (((xs.zip rows).map fun p => PyData.tuple [p.1, entD p.2]).map (zipB t.length))] = some (.bool (mapB (.list xs) rows t.length)) := by
        have : ((xs.zip rows).map fun p => PyData.tuple [p.1, entD p.2]).map (zipB t.length) = (xs.zip rows).map fun p => .bool (entB p.1 && entOfB (un4 p.1) p.2 t.length) := by
          rw [List.map_map]
          refine List.map_congr_left fun p _ => ?_
          show PyData.bool (entB p.1 && entOfB (un4 p.1) (unE (entD p.2)) t.length) = _
          rw [un_ent]
        unfold oAll
        dsimp only
        rw [this, bools_map]
        show some (PyData.bool _) = some (PyData.bool (decide (xs.length = rows.length) && _))
        rw [decide_eq_true hl, Bool.true_and, List.all_map]
        rfl
      rw [k5]
    · rw [decide_eq_false (by omega : ¬ (xs.length : Int) = rows.length)]
      walk_at "ev"
      show Rs.ok (PyData.bool false) _ = Rs.ok (PyData.bool (decide (xs.length = rows.length) && _)) _
      rw [decide_eq_false hl]
      rfl
  | dict _ => cases hd
  | none => rfl
  | bool b => rfl
  | int i => rfl
  | str z => rfl
  | tuple xs => rfl
end My

namespace My
open PySem PySem.Spec PyProof.Rows L2 XR SX DA
local macro_rules | `(tactic| walk_at "ev") => `(tactic| simp (config := {decide := false}) only [fnOf, oSeq, Ot.seq, oSet, Rs.st, Rs.bind, eVar, eC, eBin, eUn, ofO, eAnd, eOr, eNot, eIf, oRet, oRetN, oIf, oNx, oAsg, gTp, gCn, gNm, gNl, lCons, lNil, lStar, eB, eNew, eLc, eLcX, iSeq, eCall, callO, aCons, aNil, mkArgs, putB, apart, eTyIs, eIsi, eChain, eChain3, eTp, tOf, DA.tNot, tAndO, tOrO, DA.tTru, asB, pSome, pNo, eSl, oRaise, nLst,
  List.map_cons, List.map_nil, List.length_cons, List.length_nil, List.replicate_succ, List.replicate_zero, List.cons_append, List.nil_append, List.set_cons_zero, List.set_cons_succ, List.getElem?_cons_zero, List.getElem?_cons_succ, exits, exitAt, Sl.own, Sl.retag, List.headD_cons, List.tail_cons, Option.map_some, Option.bind_some, if_true, if_false, Nat.sub_self, Nat.reduceAdd, Nat.reduceSub, Nat.zero_add, and_self, Bool.false_eq_true, reduceCtorEq, Bool.not_false, Bool.not_true, sz0, sz1, sz2, sz3, sz4, sz5, sz6, sz7, sz8, sz9, sz10, sz11, sz12, sz13, sz14, sz15, sz16, sz17, sz18, sz19, sz20, and_true, true_and, ite_true, ite_false])
variable {cs : Nat → Addr} {nms : Nat → Option (List Str)}
theorem g_asked0 (es : List E4) (p : Int) : G_law_asked cs nms [.d (.int 0), .d (.list (es.map e4)), .d (.int p)] = .ok (.list (match leadF p es with
    | some r => [p2 r, .none]
    | none => [.none, excD cs nms 3 []])) [none, none, none] := by
  unfold G_law_asked b_law_asked
  walk_at "ev"
  simp only [oTryK]
  walk_at "ev"
  rw [oEq_int, decide_eq_true rfl]
  walk_at "ev"
  rw [g_lead]
  cases leadF p es with
  | none => walk_at "ev"
  | some r =>
    walk_at "ev"
    rfl
theorem g_asked1 (one two : List E4) (hz : two.length ≤ sizeLine) (hz1 : one.length ≤ sizeLine) : G_law_asked cs nms [.d (.int 1), .d (.list (one.map e4)), .d (.list (two.map e4))] = .ok (.list (match afterF two one with
    | some es => [.list (es.map e4), .none]
    | none => [.none, excD cs nms 3 []])) [none, none, none] := by
  unfold G_law_asked b_law_asked
  walk_at "ev"
  simp only [oTryK]
  walk_at "ev"
  rw [oEq_int, decide_eq_false (by decide)]
  walk_at "ev"
  rw [oEq_int, decide_eq_true rfl]
  walk_at "ev"
  rw [g_after one two hz hz1]
  cases afterF two one with
  | none => walk_at "ev"
  | some r => walk_at "ev"
theorem g_asked2 {d : PyData} {x : Str} {k : Nat} (hw : G_words [.d (.str x)] = .ex 6 [.int (k : Nat)] [none]) : G_law_asked cs nms [.d (.int 2), .d d, .d (.str x)] = .ok (.list [.none, excD cs nms 6 [.int (k : Nat)]]) [none, none, none] := by
  have hm : G_is_map [.d d, .d (.str x), .d (.str "abc")] = .ex 6 [.int (k : Nat)] [none, none, none] := by
    unfold G_is_map b_is_map
    walk_at "ev"
    rw [hw]
    walk_at "ev"
  unfold G_law_asked b_law_asked
  walk_at "ev"
  simp only [oTryK]
  walk_at "ev"
  rw [oEq_int, decide_eq_false (by decide)]
  walk_at "ev"
  rw [oEq_int, decide_eq_false (by decide)]
  walk_at "ev"
  rw [hm]
  walk_at "ev"
/-! ### who leads -/
def dueF (p : Int) (es : List E4) : List (Int × Int) := (es.filter fun e => decide (e.1 ≤ p) && decide (p < e.2.1)).map fun e => (e.2.2.1, e.2.2.2)
theorem lead_due (p : Int) : ∀ es : List E4, leadF p es = (dueF p es).head?
  | [] => rfl
  | e :: es => by
    unfold leadF dueF
    by_cases h : e.1 ≤ p ∧ p < e.2.1
    · rw [if_pos h, List.filter_cons_of_pos (by rw [decide_eq_true h.1, decide_eq_true h.2]; rfl)]
      rfl
    · rw [if_neg h, List.filter_cons_of_neg (by rw [Bool.and_eq_true, decide_eq_true_eq, decide_eq_true_eq]; exact h)]
      exact lead_due p es
end My

namespace My
open PySem PySem.Spec PyProof.Rows L2 XR SX DA
local macro_rules | `(tactic| walk_at "ev") => `(tactic| simp (config := {decide := false}) only [fnOf, oSeq, Ot.seq, oSet, Rs.st, Rs.bind, eVar, eC, eBin, eUn, ofO, eAnd, eOr, eNot, eIf, oRet, oRetN, oIf, oNx, oAsg, gTp, gCn, gNm, gNl, lCons, lNil, lStar, eB, eNew, eLc, eLcX, iSeq, eCall, callO, aCons, aNil, mkArgs, putB, apart, eTyIs, eIsi, eChain, eChain3, eTp, tOf, DA.tNot, tAndO, tOrO, DA.tTru, asB, pSome, pNo, eSl, oRaise, nLst,
  List.map_cons, List.map_nil, List.length_cons, List.length_nil, List.replicate_succ, List.replicate_zero, List.cons_append, List.nil_append, List.set_cons_zero, List.set_cons_succ, List.getElem?_cons_zero, List.getElem?_cons_succ, exits, exitAt, Sl.own, Sl.retag, List.headD_cons, List.tail_cons, Option.map_some, Option.bind_some, if_true, if_false, Nat.sub_self, Nat.reduceAdd, Nat.reduceSub, Nat.zero_add, and_self, Bool.false_eq_true, reduceCtorEq, Bool.not_false, Bool.not_true, sz0, sz1, sz2, sz3, sz4, sz5, sz6, sz7, sz8, sz9, sz10, sz11, sz12, sz13, sz14, sz15, sz16, sz17, sz18, sz19, sz20, and_true, true_and, ite_true, ite_false])
variable {cs : Nat → Addr} {nms : Nat → Option (List Str)}
theorem shaped_of' {d : PyData} (h : d.canLay0 = true) (k : d.depth ≤ 64) : SeqAt.shaped d = true := by
  unfold SeqAt.shaped
  rw [h, decide_eq_true k]
  rfl
theorem lay_map {α : Type} (f : α → PyData) (h : ∀ x, (f x).canLay0 = true ∧ (f x).depth ≤ 1) : ∀ xs : List α, PyData.canLayAll0 (xs.map f) = true ∧ PyData.depthAll (xs.map f) ≤ 1
  | [] => ⟨rfl, Nat.zero_le _⟩
  | x :: xs => by
    obtain ⟨h1, h2⟩ := lay_map f h xs
    obtain ⟨g1, g2⟩ := h x
    refine ⟨?_, ?_⟩
    · show (PyData.canLay0 (f x) && PyData.canLayAll0 (xs.map f)) = true
      rw [g1, h1]
      rfl
    · show max (PyData.depth (f x)) (PyData.depthAll (xs.map f)) ≤ 1
      omega
theorem shaped_map {α : Type} (f : α → PyData) (h : ∀ x, (f x).canLay0 = true ∧ (f x).depth ≤ 1) (xs : List α) : SeqAt.shaped (.list (xs.map f)) = true := by
  obtain ⟨h1, h2⟩ := lay_map f h xs
  refine shaped_of' h1 ?_
  show PyData.depthAll (xs.map f) + 1 ≤ 64
  omega
theorem p2_lay (r : Int × Int) : (p2 r).canLay0 = true ∧ (p2 r).depth ≤ 1 := ⟨rfl, Nat.le_refl _⟩
theorem e4_lay (r : E4) : (e4 r).canLay0 = true ∧ (e4 r).depth ≤ 1 := ⟨rfl, Nat.le_refl _⟩
theorem eq_nil {α : Type} (f : α → PyData) (h : ∀ x, (f x).canLay0 = true ∧ (f x).depth ≤ 1) (xs : List α) : oEq (.list (xs.map f)) (.list []) = some (.bool xs.isEmpty) ∧ oNe (.list (xs.map f)) (.list []) = some (.bool (!xs.isEmpty)) := by
  have k : eqOk (.list (xs.map f)) (.list []) = true := by
    unfold eqOk
    rw [shaped_map f h xs, show SeqAt.shaped (.list []) = true from rfl]
    simp
  have e : PyData.eqv (.list (xs.map f)) (.list []) = xs.isEmpty := by cases xs <;> rfl
  unfold oEq oNe
  rw [if_pos k, if_pos k, e]
  exact ⟨rfl, rfl⟩
theorem eq_self {d : PyData} (h : SeqAt.shaped d = true) : oEq d d = some (.bool true) ∧ oNe d d = some (.bool false) := by
  have k : eqOk d d = true := by
    unfold eqOk
    rw [h]
    simp
  have e : PyData.eqv d d = true := SeqAt.eqv_refl d (SeqAt.canLay_of_shaped h)
  unfold oEq oNe
  rw [if_pos k, if_pos k, e]
  exact ⟨rfl, rfl⟩
theorem oIx_at {xs : List PyData} {k : Nat} {x : PyData} (h : xs[k]? = some x) : oIx (.list xs) (.int (k : Nat)) = some x := by
  have hk : k < xs.length := (List.getElem?_eq_some_iff.mp h).1
  show atI xs (k : Nat) = _
  unfold atI ixN
  rw [if_pos (by omega), if_pos (by omega)]
  exact h
theorem exc_bare {n : Nat} (hn : nms n = none) : excD cs nms n [] = .dict [(.bool false, .int (cs n : Nat))] := by
  unfold excD
  rw [hn]
theorem g_only {n : Nat} (hn : n < 10) {b : Bool} {r : List (PyData × PyData)} : G_only cs [.d (.dict ((.bool b, .int (cs n : Nat)) :: r)), .d (.str (n10.getD n ""))] = .ok (.bool true) [none, none] := by
  unfold G_only
  dsimp only
  rw [if_pos]
  refine List.any_eq_true.mpr ⟨n, List.mem_range.mpr hn, ?_⟩
  simp
def ledBody (cs : Nat → Addr) (nms : Nat → Option (List Str)) : En → Ot := (oSeq (oSet 3 (eNew (eLc [4] (iSeq (eVar 0)) (gNm 4) (tOf (eChain oLe oLt (eBin oIx (eVar 4) (eC (.int 0))) (eVar 2) (eBin oIx (eVar 4) (eC (.int 1))))) (eSl (eVar 4) (pSome (eC (.int 2))) pNo))))
    (oSeq (oAsg (gTp 2 (gCn (gNm 5) (gCn (gNm 6) gNl))) (eCall 3 (G_law_asked cs nms) (aCons (eC (.int 0)) (aCons (eVar 0) (aCons (eVar 2) aNil)))))
    (oSeq (oIf (tAndO (tOf (eBin oNe (eVar 3) (eNew (nLst lNil)))) (tOrO (tOf (eBin oNis (eVar 6) (eC .none))) (tOf (eBin oNe (eVar 5) (eBin oIx (eVar 3) (eC (.int 0))))))) (oRet (eC (.bool false))) oNx)
    (oIf (tAndO (tOf (eBin oEq (eVar 3) (eNew (nLst lNil)))) (tOrO (tOf (eBin oNis (eVar 5) (eC .none))) (DA.tNot (tOf (eCall 2 (G_only cs) (aCons (eVar 6) (aCons (eC (.str "NoMap")) aNil))))))) (oRet (eC (.bool false))) oNx))))
theorem led_step (es : List E4) (size : Nat) (hz : es.length ≤ sizeLine) (hn : nms 3 = none) (p : Int) (a c d : Option Sl) : ∃ a' c' d', ledBody cs nms [some (.d (.list (es.map e4))), some (.d (.int size)), some (.d (.int p)), a, none, c, d] = .nx [some (.d (.list (es.map e4))), some (.d (.int size)), some (.d (.int p)), a', none, c', d'] := by
  unfold ledBody
  have e1 : lcO [4] (gNm 4) (tOf (eChain oLe oLt (eBin oIx (eVar 4) (eC (.int 0))) (eVar 2) (eBin oIx (eVar 4) (eC (.int 1))))) (eSl (eVar 4) (pSome (eC (.int 2))) pNo) (es.map e4) [] [some (.d (.list (es.map e4))), some (.d (.int size)), some (.d (.int p)), a, none, c, d] =
      .ok ([] ++ ((es.map e4).filter fun x => decide ((un4 x).1 ≤ p) && decide (p < (un4 x).2.1)).map fun x => p2 ((un4 x).2.2.1, (un4 x).2.2.2)) [some (.d (.list (es.map e4))), some (.d (.int size)), some (.d (.int p)), a, none, c, d] := by
    refine lcO_fm rfl _ _ (by rw [List.length_map]; simpa using hz) fun x hx => ?_
    obtain ⟨e, _, rfl⟩ := List.mem_map.mp hx
    refine ⟨[some (.d (.list (es.map e4))), some (.d (.int size)), some (.d (.int p)), a, some (.d (e4 e)), c, d], rfl, ?_, fun _ => rfl, rfl⟩
    have i0 : oIx (e4 e) (.int 0) = some (.int e.1) := rfl
    have i1 : oIx (e4 e) (.int 1) = some (.int e.2.1) := rfl
    rw [un_e4]
    walk_at "ev"
    rw [i0]
    walk_at "ev"
    rw [oLe_int]
    by_cases h1 : e.1 ≤ p
    · rw [decide_eq_true h1]
      walk_at "ev"
      rw [i1]
      walk_at "ev"
      rw [oLt_int]
      rfl
    · rw [decide_eq_false h1]
      walk_at "ev"
      rfl
  have m1 : ((es.map e4).filter fun x => decide ((un4 x).1 ≤ p) && decide (p < (un4 x).2.1)).map (fun x => p2 ((un4 x).2.2.1, (un4 x).2.2.2)) = (dueF p es).map p2 := by
    unfold dueF
    rw [List.filter_map, List.map_map, List.map_map]
    rfl
  have q := eq_nil p2 p2_lay (dueF p es)
  have ask := g_asked0 (cs := cs) (nms := nms) es p
  rw [lead_due] at ask
  cases hd : dueF p es with
  | nil =>
    rw [hd] at q ask
    dsimp only [List.head?] at ask
    refine ⟨some (.d (.list [])), some (.d .none), some (.d (excD cs nms 3 [])), ?_⟩
    walk_at "ev"
    rw [e1]
    walk_at "ev"
    rw [m1, hd]
    walk_at "ev"
    rw [ask]
    walk_at "ev"
    have k1 : oNe (.list []) (.list []) = some (.bool false) := rfl
    have k2 : oEq (.list []) (.list []) = some (.bool true) := rfl
    have k3 : oNis .none .none = some (.bool false) := rfl
    rw [k1]
    walk_at "ev"
    rw [k2]
    walk_at "ev"
    rw [k3]
    walk_at "ev"
    rw [exc_bare hn]
    have := g_only (cs := cs) (n := 3) (by decide) (b := false) (r := [])
    have nm : n10.getD 3 "" = ("NoMap" : Str) := rfl
    rw [nm] at this
    rw [this]
    walk_at "ev"
  | cons r rs =>
    rw [hd] at q ask
    dsimp only [List.head?] at ask
    refine ⟨some (.d (.list ((r :: rs).map p2))), some (.d (p2 r)), some (.d .none), ?_⟩
    walk_at "ev"
    rw [e1]
    walk_at "ev"
    rw [m1, hd]
    walk_at "ev"
    rw [ask]
    walk_at "ev"
    have k1 : oNe (.list ((r :: rs).map p2)) (.list []) = some (.bool true) := q.2
    have k2 : oEq (.list ((r :: rs).map p2)) (.list []) = some (.bool false) := q.1
    have k3 : oNis .none .none = some (.bool false) := rfl
    have k4 : oIx (.list ((r :: rs).map p2)) (.int 0) = some (p2 r) := oIx_at (k := 0) rfl
    have k5 : oNe (p2 r) (p2 r) = some (.bool false) := (eq_self (shaped_of' (p2_lay r).1 (Nat.le_trans (p2_lay r).2 (by decide)))).2
    simp only [List.map_cons] at k1 k2 k4
    rw [k1]
    walk_at "ev"
    rw [k3]
    walk_at "ev"
    rw [k4]
    walk_at "ev"
    rw [k5]
    walk_at "ev"
    rw [k2]
    walk_at "ev"
theorem led_loop (es : List E4) (size : Nat) (hz : es.length ≤ sizeLine) (hn : nms 3 = none) : ∀ (ps : List Int) (b a c d : Option Sl), ∃ η', forO (gNm 2) (ledBody cs nms) (ps.map fun i => .int i) [some (.d (.list (es.map e4))), some (.d (.int size)), b, a, none, c, d] = .nx η' := by
  intro ps
  induction ps with
  | nil => intro b a c d; exact ⟨_, rfl⟩
  | cons p ps ih =>
    intro b a c d
    obtain ⟨a', c', d', e⟩ := led_step (cs := cs) es size hz hn p a c d
    obtain ⟨η', ih⟩ := ih (some (.d (.int p))) a' c' d'
    refine ⟨η', ?_⟩
    rw [List.map_cons]
    unfold forO
    simp only [gNm, List.set_cons_succ, List.set_cons_zero]
    rw [e]
    exact ih
/-- out of a body with two things -/
theorem fnOf2 {N : Nat} {B : En → Ot} {x y d : PyData} {η η' : En} (h : B η = .rt d η') (e : η = [some (.d x), some (.d y)] ++ List.replicate (N - 2) none := by rfl) : fnOf N B [.d x, .d y] = .ok d [none, none] := by
  subst e
  unfold fnOf
  show (match B ([some (.d x), some (.d y)] ++ List.replicate (N - 2) none) with
    | .rt d η => (match exits 0 [.d x, .d y] η with
      | some es => Rs.ok d es
      | none => .no)
    | .nx η => (match exits 0 [.d x, .d y] η with
      | some es => .ok .none es
      | none => .no)
    | .ex n xs η => (match exits 0 [.d x, .d y] η with
      | some es => .ex n xs es
      | none => .no)
    | _ => .no) = _
  rw [h]
  rfl
theorem iRg2_ok {ga gb : En → Rs PyData} {η : En} {i j : Int} (ha : ga η = .ok (.int i) η) (hb : gb η = .ok (.int j) η) (hr : rngOk i j = true) : iRg2 ga gb η = .ok (rngD i j) η := by
  unfold iRg2
  rw [ha]
  show (gb η).bind _ = _
  rw [hb]
  show (if rngOk i j = true then Rs.ok (rngD i j) η else Rs.no) = _
  rw [if_pos hr]
theorem led_rng (x : PyData) (size : Nat) (hr : rngOk (-1) ((size : Int) + 2) = true) (a b c d e : Option Sl) : iRg2 (eBin oSub (eC (.int 0)) (eC (.int 1))) (eBin oAdd (eVar 1) (eC (.int 2))) [some (.d x), some (.d (.int size)), a, b, c, d, e] = .ok (rngD (-1) ((size : Int) + 2)) [some (.d x), some (.d (.int size)), a, b, c, d, e] :=
  iRg2_ok rfl rfl hr
theorem rng_eq (a b : Int) : rngD a b = ((List.range (b - a).toNat).map fun i => a + (i : Nat)).map fun i => .int i := by
  unfold rngD
  rw [List.map_map]
  rfl
theorem led_eq : b_law_led_good cs nms = oSeq (oFor (iRg2 (eBin oSub (eC (.int 0)) (eC (.int 1))) (eBin oAdd (eVar 1) (eC (.int 2)))) (gNm 2) (ledBody cs nms)) (oRet (eC (.bool true))) := rfl
theorem g_led (es : List E4) (size : Nat) (hz : es.length ≤ sizeLine) (hr : rngOk (-1) ((size : Int) + 2) = true) (hn : nms 3 = none) : G_law_led_good cs nms [.d (.list (es.map e4)), .d (.int size)] = .ok (.bool true) [none, none] := by
  have h1 := led_rng (.list (es.map e4)) size hr none none none none none
  rw [rng_eq] at h1
  obtain ⟨η', h2⟩ := led_loop (cs := cs) es size hz hn ((List.range (((size : Int) + 2) - (-1)).toNat).map fun i => (-1 : Int) + (i : Nat)) none none none none
  generalize (((List.range (((size : Int) + 2) - (-1)).toNat).map fun i => (-1 : Int) + (i : Nat)).map fun i => PyData.int i) = ps at h1 h2
  have h3 : oFor (iRg2 (eBin oSub (eC (.int 0)) (eC (.int 1))) (eBin oAdd (eVar 1) (eC (.int 2)))) (gNm 2) (ledBody cs nms) [some (.d (.list (es.map e4))), some (.d (.int size)), none, none, none, none, none] = .nx η' := by
    unfold oFor
    rw [h1]
    exact h2
  have h4 : b_law_led_good cs nms [some (.d (.list (es.map e4))), some (.d (.int size)), none, none, none, none, none] = .rt (.bool true) η' := by
    rw [led_eq]
    unfold oSeq
    rw [h3]
    rfl
  exact fnOf2 h4
end My

namespace My
open PySem PySem.Spec PyProof.Rows L2 XR SX DA
local macro_rules | `(tactic| walk_at "ev") => `(tactic| simp (config := {decide := false}) only [fnOf, oSeq, Ot.seq, oSet, Rs.st, Rs.bind, eVar, eC, eBin, eUn, ofO, eAnd, eOr, eNot, eIf, oRet, oRetN, oIf, oNx, oAsg, gTp, gCn, gNm, gNl, lCons, lNil, lStar, eB, eNew, eLc, eLcX, iSeq, eCall, callO, aCons, aNil, mkArgs, putB, apart, eTyIs, eIsi, eChain, eChain3, eTp, tOf, DA.tNot, tAndO, tOrO, DA.tTru, asB, pSome, pNo, eSl, oRaise, nLst,
  List.map_cons, List.map_nil, List.length_cons, List.length_nil, List.replicate_succ, List.replicate_zero, List.cons_append, List.nil_append, List.set_cons_zero, List.set_cons_succ, List.getElem?_cons_zero, List.getElem?_cons_succ, exits, exitAt, Sl.own, Sl.retag, List.headD_cons, List.tail_cons, Option.map_some, Option.bind_some, if_true, if_false, Nat.sub_self, Nat.reduceAdd, Nat.reduceSub, Nat.zero_add, and_self, Bool.false_eq_true, reduceCtorEq, Bool.not_false, Bool.not_true, sz0, sz1, sz2, sz3, sz4, sz5, sz6, sz7, sz8, sz9, sz10, sz11, sz12, sz13, sz14, sz15, sz16, sz17, sz18, sz19, sz20, and_true, true_and, ite_true, ite_false])
variable {cs : Nat → Addr} {nms : Nat → Option (List Str)}
/-! ### the pile -/
theorem mod_int {i j : Int} (h : 0 < j) : oMod (.int i) (.int j) = some (.int (i % j)) := by
  show (if decide (0 < j) = true then some (PyData.int (i % j)) else none) = _
  rw [if_pos (decide_eq_true h)]
theorem div_int {i j : Int} (h : 0 < j) (hj : j.natAbs < 2 ^ 4000) : oDiv (.int i) (.int j) = some (.int (i / j)) := by
  show (if (decide (0 < j) && decide (j.natAbs < 2 ^ 4000)) = true then some (PyData.int (i / j)) else none) = _
  rw [if_pos (by rw [decide_eq_true h, decide_eq_true hj]; rfl)]
theorem g_take (p n : Int) (h : 0 < n) (hn : n.natAbs < 2 ^ 4000) : G_law_take [.l 1 [.int p], .d (.int n)] = .ok (.int (p % n)) [some (.l 1 [.int (p / n)]), none] := by
  have a0 : atI [PyData.int p] 0 = some (.int p) := rfl
  have i0 : ixN 1 0 = some 0 := rfl
  unfold G_law_take b_law_take
  walk_at "ev"
  simp only [eIxO, DA.isL, oStL]
  walk_at "ev"
  rw [a0]
  walk_at "ev"
  rw [mod_int h]
  walk_at "ev"
  simp only [eIxO, DA.isL]
  walk_at "ev"
  rw [a0]
  walk_at "ev"
  rw [div_int h hn]
  walk_at "ev"
  rw [i0]
  walk_at "ev"
  rfl
/-- a digit off the pile that stands in a slot -/
theorem take_in {η : En} {i t : Nat} {p n : Int} {ga : En → Rs PyData} (h : η[i]? = some (some (.l t [.int p]))) (hga : ga η = .ok (.int n) η) (hn : 0 < n) (hz : n.natAbs < 2 ^ 4000) :
    eCall 2 G_law_take (aOwn i (aCons ga aNil)) η = .ok (.int (p % n)) (η.set i (some (.l t [.int (p / n)]))) := by
  unfold eCall aOwn
  rw [h]
  simp only [Sl.own, if_true, aCons, aNil, Rs.bind, hga]
  unfold callO
  rw [if_pos ⟨rfl, rfl⟩]
  simp only [mkArgs, h, Sl.own, if_true, Sl.retag, Option.map_some]
  rw [g_take p n hn hz]
  simp only [putB, h, Sl.own, if_true, Sl.retag]
  rfl
end My

namespace My
open PySem PySem.Spec PyProof.Rows L2 XR SX DA
local macro_rules | `(tactic| walk_at "ev") => `(tactic| simp (config := {decide := false}) only [fnOf, oSeq, Ot.seq, oSet, Rs.st, Rs.bind, eVar, eC, eBin, eUn, ofO, eAnd, eOr, eNot, eIf, oRet, oRetN, oIf, oNx, oAsg, gTp, gCn, gNm, gNl, lCons, lNil, lStar, eB, eNew, eLc, eLcX, iSeq, eCall, callO, aCons, aNil, mkArgs, putB, apart, eTyIs, eIsi, eChain, eChain3, eTp, tOf, DA.tNot, tAndO, tOrO, DA.tTru, asB, pSome, pNo, eSl, oRaise, nLst,
  List.map_cons, List.map_nil, List.length_cons, List.length_nil, List.replicate_succ, List.replicate_zero, List.cons_append, List.nil_append, List.set_cons_zero, List.set_cons_succ, List.getElem?_cons_zero, List.getElem?_cons_succ, exits, exitAt, Sl.own, Sl.retag, List.headD_cons, List.tail_cons, Option.map_some, Option.bind_some, if_true, if_false, Nat.sub_self, Nat.reduceAdd, Nat.reduceSub, Nat.zero_add, and_self, Bool.false_eq_true, reduceCtorEq, Bool.not_false, Bool.not_true, sz0, sz1, sz2, sz3, sz4, sz5, sz6, sz7, sz8, sz9, sz10, sz11, sz12, sz13, sz14, sz15, sz16, sz17, sz18, sz19, sz20, and_true, true_and, ite_true, ite_false])
variable {cs : Nat → Addr} {nms : Nat → Option (List Str)}
theorem eBin_ok {o : PyData → PyData → Option PyData} {ga gb : En → Rs PyData} {η η1 η2 : En} {x y z : PyData} (ha : ga η = .ok x η1) (hb : gb η1 = .ok y η2) (ho : o x y = some z) : eBin o ga gb η = .ok z η2 := by
  unfold eBin
  rw [ha]
  show (gb η1).bind _ = _
  rw [hb]
  show ofO (o x y) η2 = _
  rw [ho]
  rfl
theorem oSet_ok {i : Nat} {ga : En → Rs PyData} {η η1 : En} {x : PyData} (ha : ga η = .ok x η1) : oSet i ga η = .nx (η1.set i (some (.d x))) := by
  unfold oSet
  rw [ha]
  rfl
/-! ### texts -/
def pieces : List Str := ["a", "let", "bcd", "12", "(", ")", "+", "==", "fn", "{", "}", ";", "1e3", "while", "!", "||", "x", "0"]
def seps : List Str := [" ", "\n", "  "]
/-- a text as the law puts it together -/
inductive Txt : Str → Prop
  | base {s : Str} : s ∈ (["", " ", "\n"] : List Str) → Txt s
  | step {t w b : Str} : Txt t → w ∈ pieces → b ∈ seps → Txt (t ++ w ++ b)
theorem app_len (a b : Str) : (a ++ b).length = a.length + b.length := Array.size_append
theorem oAdd_str {a b : Str} (h : a.length + b.length ≤ sizeLine) : oAdd (.str a) (.str b) = some (.str (a ++ b)) := if_pos h
def textBody : En → Ot := (oSet 3 (eBin oAdd (eBin oAdd (eVar 3) (eBin oIx (eVar 2) (eCall 2 G_law_take (aOwn 0 (aCons (eC (.int 18)) aNil))))) (eBin oIx (eNew (nLst (lCons (eC (.str " ")) (lCons (eC (.str "\n")) (lCons (eC (.str "  ")) lNil))))) (eCall 2 G_law_take (aOwn 0 (aCons (eC (.int 3)) aNil))))))
theorem piece_len : ∀ w ∈ pieces, w.length ≤ 5 := by decide +kernel
theorem sep_len : ∀ w ∈ seps, w.length ≤ 2 := by decide +kernel
theorem text_step {p m : Int} {x : Str} {e : Option Sl} (hp : 0 ≤ p) (hx : Txt x) (hl : x.length ≤ 1000) : ∃ (x' : Str) (p' : Int), 0 ≤ p' ∧ Txt x' ∧ x'.length ≤ x.length + 7 ∧
    textBody [some (.l 1 [.int p]), some (.d (.int m)), some (.d (.list (pieces.map PyData.str))), some (.d (.str x)), e] = .nx [some (.l 1 [.int p']), some (.d (.int m)), some (.d (.list (pieces.map PyData.str))), some (.d (.str x')), e] := by
  have h1 : 0 ≤ p % 18 := Int.emod_nonneg _ (by decide)
  have h2 : p % 18 < 18 := Int.emod_lt_of_pos _ (by decide)
  have h3 : 0 ≤ p / 18 % 3 := Int.emod_nonneg _ (by decide)
  have h4 : p / 18 % 3 < 3 := Int.emod_lt_of_pos _ (by decide)
  obtain ⟨i, hi⟩ := Int.eq_ofNat_of_zero_le h1
  obtain ⟨j, hj⟩ := Int.eq_ofNat_of_zero_le h3
  have hi' : i < pieces.length := by show i < 18; omega
  have hj' : j < seps.length := by show j < 3; omega
  have mw : pieces[i] ∈ pieces := List.getElem_mem hi'
  have mb : seps[j] ∈ seps := List.getElem_mem hj'
  have l1 := piece_len _ mw
  have l2 := sep_len _ mb
  have q1 : 0 ≤ p / 18 := Int.ediv_nonneg hp (by decide)
  have z : (1100 : Nat) ≤ sizeLine := by decide
  refine ⟨x ++ pieces[i] ++ seps[j], p / 18 / 3, Int.ediv_nonneg q1 (by decide), .step hx mw mb, by rw [app_len, app_len]; omega, ?_⟩
  have t1 := take_in (η := [some (.l 1 [.int p]), some (.d (.int m)), some (.d (.list (pieces.map PyData.str))), some (.d (.str x)), e]) (i := 0) (t := 1) (p := p) (n := 18) (ga := eC (.int 18)) rfl rfl (by decide) (by decide)
  have t2 := take_in (η := [some (.l 1 [.int (p / 18)]), some (.d (.int m)), some (.d (.list (pieces.map PyData.str))), some (.d (.str x)), e]) (i := 0) (t := 1) (p := p / 18) (n := 3) (ga := eC (.int 3)) rfl rfl (by decide) (by decide)
  have k1 : oIx (.list (pieces.map PyData.str)) (.int (p % 18)) = some (.str pieces[i]) := by
    rw [hi]
    exact oIx_at (by rw [List.getElem?_map, List.getElem?_eq_getElem hi']; rfl)
  have k2 : oIx (.list (seps.map PyData.str)) (.int (p / 18 % 3)) = some (.str seps[j]) := by
    rw [hj]
    exact oIx_at (by rw [List.getElem?_map, List.getElem?_eq_getElem hj']; rfl)
  have a1 : oAdd (.str x) (.str pieces[i]) = some (.str (x ++ pieces[i])) := oAdd_str (by omega)
  have a2 : oAdd (.str (x ++ pieces[i])) (.str seps[j]) = some (.str (x ++ pieces[i] ++ seps[j])) := oAdd_str (by rw [app_len]; omega)
  simp only [List.set_cons_zero] at t1 t2
  have e1 : eBin oAdd (eVar 3) (eBin oIx (eVar 2) (eCall 2 G_law_take (aOwn 0 (aCons (eC (.int 18)) aNil)))) [some (.l 1 [.int p]), some (.d (.int m)), some (.d (.list (pieces.map PyData.str))), some (.d (.str x)), e] = .ok (.str (x ++ pieces[i])) [some (.l 1 [.int (p / 18)]), some (.d (.int m)), some (.d (.list (pieces.map PyData.str))), some (.d (.str x)), e] := by
    unfold eBin
    simp only [eVar, Rs.bind, List.getElem?_cons_succ, List.getElem?_cons_zero]
    rw [t1]
    dsimp only
    rw [k1]
    dsimp only [ofO]
    rw [a1]
  have e2 : eBin oIx (eNew (nLst (lCons (eC (.str " ")) (lCons (eC (.str "\n")) (lCons (eC (.str "  ")) lNil))))) (eCall 2 G_law_take (aOwn 0 (aCons (eC (.int 3)) aNil))) [some (.l 1 [.int (p / 18)]), some (.d (.int m)), some (.d (.list (pieces.map PyData.str))), some (.d (.str x)), e] = .ok (.str seps[j]) [some (.l 1 [.int (p / 18 / 3)]), some (.d (.int m)), some (.d (.list (pieces.map PyData.str))), some (.d (.str x)), e] := by
    unfold eBin
    have n1 : eNew (nLst (lCons (eC (.str " ")) (lCons (eC (.str "\n")) (lCons (eC (.str "  ")) lNil)))) [some (.l 1 [.int (p / 18)]), some (.d (.int m)), some (.d (.list (pieces.map PyData.str))), some (.d (.str x)), e] = .ok (.list (seps.map PyData.str)) [some (.l 1 [.int (p / 18)]), some (.d (.int m)), some (.d (.list (pieces.map PyData.str))), some (.d (.str x)), e] := by
      walk_at "ev"
      rfl
    rw [n1]
    simp only [Rs.bind]
    rw [t2]
    dsimp only
    rw [k2]
    rfl
  exact oSet_ok (eBin_ok e1 e2 a2)
/-- the loop -/
theorem text_loop {m : Int} : ∀ (ps : List PyData) (p : Int) (x : Str) (e : Option Sl), 0 ≤ p → Txt x → x.length + 7 * ps.length ≤ 1000 → ∃ (x' : Str) (p' : Int) (e' : Option Sl), 0 ≤ p' ∧ Txt x' ∧ x'.length ≤ x.length + 7 * ps.length ∧
    forO (gNm 4) textBody ps [some (.l 1 [.int p]), some (.d (.int m)), some (.d (.list (pieces.map PyData.str))), some (.d (.str x)), e] = .nx [some (.l 1 [.int p']), some (.d (.int m)), some (.d (.list (pieces.map PyData.str))), some (.d (.str x')), e']
  | [], p, x, e, hp, hx, hl => ⟨x, p, e, hp, hx, by simp, rfl⟩
  | i :: ps, p, x, e, hp, hx, hl => by
    rw [List.length_cons] at hl
    obtain ⟨x1, p1, h1, h2, h3, h4⟩ := text_step (m := m) (e := some (.d i)) hp hx (by omega)
    obtain ⟨x2, p2, e2, g1, g2, g3, g4⟩ := text_loop ps p1 x1 (some (.d i)) h1 h2 (by omega)
    refine ⟨x2, p2, e2, g1, g2, by rw [List.length_cons]; omega, ?_⟩
    unfold forO
    simp only [gNm, List.set_cons_succ, List.set_cons_zero]
    rw [h4]
    exact g4
theorem oSeq_nx {g1 g2 : En → Ot} {η η1 : En} (h : g1 η = .nx η1) : oSeq g1 g2 η = g2 η1 := by
  unfold oSeq
  rw [h]
  rfl
theorem iRg1_ok {ga : En → Rs PyData} {η : En} {j : Int} (ha : ga η = .ok (.int j) η) (hr : rngOk 0 j = true) : iRg1 ga η = .ok (rngD 0 j) η := by
  unfold iRg1
  rw [ha]
  show (if rngOk 0 j = true then Rs.ok (rngD 0 j) η else Rs.no) = _
  rw [if_pos hr]
theorem oFor_ok {gi : En → Rs (List PyData)} {g : PyData → En → Option En} {body : En → Ot} {η η1 : En} {ds : List PyData} {r : Ot} (h : gi η = .ok ds η1) (hb : forO g body ds η1 = r) : oFor gi g body η = r := by
  unfold oFor
  rw [h]
  exact hb
theorem rng_len (j : Nat) : (rngD 0 (j : Int)).length = j := by
  unfold rngD
  rw [List.length_map, List.length_range]
  omega
/-- out of a body with an own list and a thing -/
theorem fnOfL {N : Nat} {B : En → Ot} {xs xs' : List PyData} {y d : PyData} {η η' : En} (h : B η = .rt d η') (e : η = [some (.l 1 xs), some (.d y)] ++ List.replicate (N - 2) none) (e0 : η'[0]? = some (some (.l 1 xs'))) : fnOf N B [.l 1 xs, .d y] = .ok d [some (.l 1 xs'), none] := by
  subst e
  unfold fnOf
  have ex : exits 0 [.l 1 xs, .d y] η' = some [some (.l 1 xs'), none] := by
    cases η' with
    | nil => cases e0
    | cons a r =>
      cases (show a = some (.l 1 xs') from Option.some.inj e0)
      rfl
  show (match B ([some (.l 1 xs), some (.d y)] ++ List.replicate (N - 2) none) with
    | .rt d η => (match exits 0 [.l 1 xs, .d y] η with
      | some es => Rs.ok d es
      | none => .no)
    | .nx η => (match exits 0 [.l 1 xs, .d y] η with
      | some es => .ok .none es
      | none => .no)
    | .ex n xs2 η => (match exits 0 [.l 1 xs, .d y] η with
      | some es => .ex n xs2 es
      | none => .no)
    | _ => .no) = _
  rw [h]
  dsimp only
  rw [ex]
theorem g_text {p : Int} {m : Nat} (hp : 0 ≤ p) (hm : m ≤ 100) : ∃ (x : Str) (p' : Int), 0 ≤ p' ∧ Txt x ∧ x.length ≤ 1 + 7 * m ∧ G_law_text [.l 1 [.int p], .d (.int m)] = .ok (.str x) [some (.l 1 [.int p']), none] := by
  have h3 : 0 ≤ p % 3 := Int.emod_nonneg _ (by decide)
  have h4 : p % 3 < 3 := Int.emod_lt_of_pos _ (by decide)
  obtain ⟨j, hj⟩ := Int.eq_ofNat_of_zero_le h3
  have hj' : j < (["", " ", "\n"] : List Str).length := by show j < 3; omega
  have s1 : (oSet 2 (eNew (nLst (lCons (eC (.str "a")) (lCons (eC (.str "let")) (lCons (eC (.str "bcd")) (lCons (eC (.str "12")) (lCons (eC (.str "(")) (lCons (eC (.str ")")) (lCons (eC (.str "+")) (lCons (eC (.str "==")) (lCons (eC (.str "fn")) (lCons (eC (.str "{")) (lCons (eC (.str "}")) (lCons (eC (.str ";")) (lCons (eC (.str "1e3")) (lCons (eC (.str "while")) (lCons (eC (.str "!")) (lCons (eC (.str "||")) (lCons (eC (.str "x")) (lCons (eC (.str "0")) lNil))))))))))))))))))))) [some (.l 1 [.int p]), some (.d (.int m)), none, none, none] = .nx [some (.l 1 [.int p]), some (.d (.int m)), some (.d (.list (pieces.map PyData.str))), none, none] := by
    walk_at "ev"
    rfl
  have t1 := take_in (η := [some (.l 1 [.int p]), some (.d (.int m)), some (.d (.list (pieces.map PyData.str))), none, none]) (i := 0) (t := 1) (p := p) (n := 3) (ga := eC (.int 3)) rfl rfl (by decide) (by decide)
  simp only [List.set_cons_zero] at t1
  have n1 : eNew (nLst (lCons (eC (.str "")) (lCons (eC (.str " ")) (lCons (eC (.str "\n")) lNil)))) [some (.l 1 [.int p]), some (.d (.int m)), some (.d (.list (pieces.map PyData.str))), none, none] = .ok (.list ((["", " ", "\n"] : List Str).map PyData.str)) [some (.l 1 [.int p]), some (.d (.int m)), some (.d (.list (pieces.map PyData.str))), none, none] := by
    walk_at "ev"
  have k1 : oIx (.list ((["", " ", "\n"] : List Str).map PyData.str)) (.int (p % 3)) = some (.str (["", " ", "\n"] : List Str)[j]) := by
    rw [hj]
    exact oIx_at (by rw [List.getElem?_map, List.getElem?_eq_getElem hj']; rfl)
  have s2 := oSet_ok (i := 3) (eBin_ok n1 t1 k1)
  have hb : (["", " ", "\n"] : List Str)[j] ∈ (["", " ", "\n"] : List Str) := List.getElem_mem hj'
  have lb : ((["", " ", "\n"] : List Str)[j]).length ≤ 1 := (by decide +kernel : ∀ w ∈ (["", " ", "\n"] : List Str), w.length ≤ 1) _ hb
  obtain ⟨x, p', e', g1, g2, g3, g4⟩ := text_loop (m := m) (rngD 0 (m : Int)) (p / 3) _ none (Int.ediv_nonneg hp (by decide)) (.base hb) (by rw [rng_len]; omega)
  rw [rng_len] at g3
  have hr : rngOk 0 (m : Int) = true := by
    unfold rngOk
    simp only [Bool.and_eq_true, decide_eq_true_eq]
    omega
  refine ⟨x, p', g1, g2, by omega, ?_⟩
  have s3 := oFor_ok (gi := iRg1 (eVar 1)) (iRg1_ok rfl hr) g4
  have body : b_law_text [some (.l 1 [.int p]), some (.d (.int m)), none, none, none] = .rt (.str x) [some (.l 1 [.int p']), some (.d (.int m)), some (.d (.list (pieces.map PyData.str))), some (.d (.str x)), e'] := by
    have eb : b_law_text = oSeq (oSet 2 (eNew (nLst (lCons (eC (.str "a")) (lCons (eC (.str "let")) (lCons (eC (.str "bcd")) (lCons (eC (.str "12")) (lCons (eC (.str "(")) (lCons (eC (.str ")")) (lCons (eC (.str "+")) (lCons (eC (.str "==")) (lCons (eC (.str "fn")) (lCons (eC (.str "{")) (lCons (eC (.str "}")) (lCons (eC (.str ";")) (lCons (eC (.str "1e3")) (lCons (eC (.str "while")) (lCons (eC (.str "!")) (lCons (eC (.str "||")) (lCons (eC (.str "x")) (lCons (eC (.str "0")) lNil))))))))))))))))))))) (oSeq (oSet 3 (eBin oIx (eNew (nLst (lCons (eC (.str "")) (lCons (eC (.str " ")) (lCons (eC (.str "\n")) lNil))))) (eCall 2 G_law_take (aOwn 0 (aCons (eC (.int 3)) aNil))))) (oSeq (oFor (iRg1 (eVar 1)) (gNm 4) textBody) (oRet (eVar 3)))) := rfl
    rw [eb, oSeq_nx s1, oSeq_nx s2]
    simp only [List.set_cons_succ, List.set_cons_zero]
    rw [oSeq_nx s3]
    rfl
  exact fnOfL body rfl rfl
end My

namespace My
open PySem PySem.Spec PyProof.Rows L2 XR SX DA
/-! ### the words of such a text -/
theorem codes_app (a b : Str) : codes (a ++ b) = codes a ++ codes b := Array.toList_append
theorem codes_len (a : Str) : (codes a).length = a.length := Array.length_toList
def wSort (w : Str) : Str := ((stepP (codes w ++ [32])).map (·.1)).getD ""
theorem step_all (u : List Nat) : (pieces.all fun w => seps.all fun b => decide (stepP (codes w ++ (codes b ++ u)) = some (wSort w, w.length))) = true := by kernel_rfl
theorem step_piece {w b : Str} (hw : w ∈ pieces) (hb : b ∈ seps) (u : List Nat) : stepP (codes w ++ (codes b ++ u)) = some (wSort w, w.length) :=
  of_decide_eq_true (List.all_eq_true.mp (List.all_eq_true.mp (step_all u) w hw) b hb)
theorem piece_head : ∀ w ∈ pieces, 0 < w.length ∧ ((codes w).head?.map blank) = some false := by decide +kernel
theorem sep_blank : ∀ b ∈ seps, (codes b).all blank = true := by decide +kernel
theorem scan_blanks {f : List Nat → Option (Str × Nat)} {z : Option Nat} {es : List Ent} : ∀ (b pre u : List Nat), b.all blank = true → Scan f (pre ++ (b ++ u)) (pre.length + b.length) es z → Scan f (pre ++ (b ++ u)) pre.length es z
  | [], pre, u, _, h => h
  | c :: b, pre, u, hb, h => by
    rw [List.all_cons, Bool.and_eq_true] at hb
    refine .blank (c := c) (by rw [List.getElem?_append_right (Nat.le_refl _)]; simp) hb.1 ?_
    have := scan_blanks (f := f) (z := z) (es := es) b (pre ++ [c]) u hb.2 (by
      rw [List.length_append, List.append_assoc]
      rw [List.length_cons] at h
      have e : pre.length + [c].length + b.length = pre.length + (b.length + 1) := by simp; omega
      rw [e]
      exact h)
    rw [List.length_append, List.append_assoc] at this
    exact this
def shE (n : Nat) (e : Ent) : Ent := (e.1, e.2.1, e.2.2 + n)
/-- how a text is read, whatever stands about it -/
def Reads (x : Str) (rows : List Ent) : Prop := ∀ (pre u : List Nat) (es : List Ent) (z : Option Nat), Scan stepP (pre ++ (codes x ++ u)) (pre.length + x.length) es z → Scan stepP (pre ++ (codes x ++ u)) pre.length (rows.map (shE pre.length) ++ es) z
theorem txt_reads {x : Str} (h : Txt x) : ∃ rows, Reads x rows ∧ (∀ r ∈ rows, r.2.1.length ≤ 5 ∧ r.2.2 + r.2.1.length ≤ x.length ∧ 0 < r.2.1.length) ∧ rows.Pairwise fun r r' => r.2.2 < r'.2.2 := by
  induction h with
  | base hs =>
    refine ⟨[], fun pre u es z hsc => ?_, fun r hr => (by cases hr), .nil⟩
    rename_i s
    have hb : (codes s).all blank = true := (by decide +kernel : ∀ s ∈ (["", " ", "\n"] : List Str), (codes s).all blank = true) s hs
    refine scan_blanks _ _ _ hb ?_
    rw [codes_len]
    exact hsc
  | step ht hw hb ih =>
    rename_i t w b
    obtain ⟨rows, hr, hq, hpw⟩ := ih
    refine ⟨rows ++ [(wSort w, codes w, t.length)], fun pre u es z hsc => ?_, fun r hr => ?_, List.pairwise_append.mpr ⟨hpw, List.pairwise_singleton _ _, fun r hr r' hr' => ?_⟩⟩
    · have e1 : pre ++ (codes (t ++ w ++ b) ++ u) = pre ++ (codes t ++ (codes w ++ (codes b ++ u))) := by
        rw [codes_app, codes_app]; simp only [List.append_assoc]
      rw [e1] at hsc ⊢
      rw [List.map_append, List.append_assoc]
      refine hr pre _ _ z ?_
      have e2 : pre ++ (codes t ++ (codes w ++ (codes b ++ u))) = (pre ++ codes t) ++ (codes w ++ (codes b ++ u)) := by simp only [List.append_assoc]
      have e3 : pre.length + t.length = (pre ++ codes t).length := by rw [List.length_append, codes_len]
      have hh := piece_head w hw
      have hcw : ∃ c, (codes w).head? = some c ∧ blank c = false := by
        cases q : (codes w).head? with
        | none => have := hh.2; rw [q] at this; cases this
        | some c => have := hh.2; rw [q] at this; exact ⟨c, rfl, by simpa using this⟩
      obtain ⟨c, hc, hbc⟩ := hcw
      have gc : (pre ++ (codes t ++ (codes w ++ (codes b ++ u))))[pre.length + t.length]? = some c := by
        rw [e2, e3, List.getElem?_append_right (Nat.le_refl _), Nat.sub_self]
        cases q : codes w with
        | nil => rw [q] at hc; cases hc
        | cons a r => rw [q] at hc; cases hc; rfl
      have dr : (pre ++ (codes t ++ (codes w ++ (codes b ++ u)))).drop (pre.length + t.length) = codes w ++ (codes b ++ u) := by
        rw [e2, e3, List.drop_left]
      have tk : ((pre ++ (codes t ++ (codes w ++ (codes b ++ u)))).drop (pre.length + t.length)).take w.length = codes w := by
        rw [dr, ← codes_len, List.take_left]
      have wd := Scan.word (f := stepP) (t := pre ++ (codes t ++ (codes w ++ (codes b ++ u)))) (k := pre.length + t.length) (c := c) (m := w.length) (s := wSort w) (es := es) (z := z) gc hbc (by rw [dr]; exact step_piece hw hb u) hh.1
        (by rw [e2, List.length_append, List.length_append, codes_len, List.length_append, codes_len]; omega) ?_
      · rw [tk] at wd
        have : (([(wSort w, codes w, t.length)] : List Ent).map (shE pre.length)) = [(wSort w, codes w, pre.length + t.length)] := by
          show [(wSort w, codes w, t.length + pre.length)] = _
          rw [Nat.add_comm]
        rw [this]
        exact wd
      · have e5 : pre ++ (codes t ++ (codes w ++ (codes b ++ u))) = (pre ++ (codes t ++ codes w)) ++ (codes b ++ u) := by simp only [List.append_assoc]
        have e6 : pre.length + t.length + w.length = (pre ++ (codes t ++ codes w)).length := by rw [List.length_append, List.length_append, codes_len, codes_len]; omega
        rw [e5, e6]
        refine scan_blanks _ _ _ (sep_blank b hb) ?_
        rw [← e6, ← e5, codes_len]
        have e7 : pre.length + (t ++ w ++ b).length = pre.length + t.length + w.length + b.length := by rw [app_len, app_len]; omega
        rw [← e7]
        exact hsc
    · rw [app_len, app_len]
      rcases List.mem_append.mp hr with hr | hr
      · have := hq r hr
        omega
      · rw [List.mem_singleton] at hr
        subst hr
        have := piece_len w hw
        have h0 := (piece_head w hw).1
        show (codes w).length ≤ 5 ∧ t.length + (codes w).length ≤ _ ∧ 0 < (codes w).length
        rw [codes_len]
        omega
    · rw [List.mem_singleton] at hr'
      subst hr'
      have := hq r hr
      show r.2.2 < t.length
      omega
end My

namespace My
open PySem PySem.Spec PyProof.Rows L2 XR SX DA
theorem scanE_of {f : List Nat → Option (Str × Nat)} {t : List Nat} {k : Nat} {es : List Ent} {z : Option Nat} (h : Scan f t k es z) : k ≤ t.length → ∀ n, t.length - k < n → scanE f t n k = some (es, z) := by
  induction h with
  | stop e =>
    intro _ n hn
    cases n with
    | zero => omega
    | succ n =>
      unfold scanE
      rw [List.getElem?_eq_none (by omega)]
      dsimp only
      rw [if_pos e]
  | blank hc hb h ih =>
    intro hk n hn
    have hlt := (List.getElem?_eq_some_iff.mp hc).1
    cases n with
    | zero => omega
    | succ n =>
      unfold scanE
      rw [hc]
      dsimp only
      rw [if_pos hb]
      exact ih (by omega) n (by omega)
  | bad hc hb hf =>
    intro hk n hn
    cases n with
    | zero => omega
    | succ n =>
      unfold scanE
      rw [hc]
      dsimp only
      rw [if_neg (by rw [hb]; decide), hf]
  | word hc hb hf h0 hl h ih =>
    intro hk n hn
    cases n with
    | zero => omega
    | succ n =>
      unfold scanE
      rw [hc]
      dsimp only
      rw [if_neg (by rw [hb]; decide), hf]
      dsimp only
      rw [if_pos ⟨h0, hl⟩, ih hl n (by omega)]
      rfl
theorem words_ok {x : Str} {es : List Ent} (hz : x.length ≤ 4000) (h : Scan stepP (codes x) 0 es none) : G_words [.d (.str x)] = .ok (.list (es.map entD)) [none] := by
  have hz' : (codes x).length ≤ 4000 := by rw [codes_len]; exact hz
  have e := scanE_of h (Nat.zero_le _) ((codes x).length + 1) (by omega)
  show (if (codes x).length ≤ 4000 then (match scanE stepP (codes x) ((codes x).length + 1) 0 with
      | some (es, none) => (Rs.ok (PyData.list (es.map entD)) [none] : Rs PyData)
      | some (_, some k) => .ex 6 [.int (k : Nat)] [none]
      | none => .no) else .no) = _
  rw [if_pos hz', e]
theorem words_ex {x : Str} {es : List Ent} {k : Nat} (hz : x.length ≤ 4000) (h : Scan stepP (codes x) 0 es (some k)) : G_words [.d (.str x)] = .ex 6 [.int (k : Nat)] [none] := by
  have hz' : (codes x).length ≤ 4000 := by rw [codes_len]; exact hz
  have e := scanE_of h (Nat.zero_le _) ((codes x).length + 1) (by omega)
  show (if (codes x).length ≤ 4000 then (match scanE stepP (codes x) ((codes x).length + 1) 0 with
      | some (es, none) => (Rs.ok (PyData.list (es.map entD)) [none] : Rs PyData)
      | some (_, some k) => .ex 6 [.int (k : Nat)] [none]
      | none => .no) else .no) = _
  rw [if_pos hz', e]
theorem sh0 (rows : List Ent) : rows.map (shE 0) = rows := by
  have : shE 0 = id := by funext e; rfl
  rw [this, List.map_id]
section
variable {x : Str} {rows : List Ent}
theorem reads_at (h : Reads x rows) (u : List Nat) {es : List Ent} {z : Option Nat} (hs : Scan stepP (codes x ++ u) x.length es z) : Scan stepP (codes x ++ u) 0 (rows ++ es) z := by
  have := h [] u es z (by rw [List.nil_append, List.length_nil, Nat.zero_add]; exact hs)
  rw [List.length_nil, List.nil_append, sh0] at this
  exact this
/-- the text itself -/
theorem w_self (h : Reads x rows) (hz : x.length ≤ 4000) : G_words [.d (.str x)] = .ok (.list (rows.map entD)) [none] := by
  refine words_ok hz ?_
  have := reads_at h [] (es := []) (z := none) (by rw [List.append_nil]; exact .stop (codes_len x).symm)
  rw [List.append_nil, List.append_nil] at this
  exact this
/-- a word more -/
theorem w_more (h : Reads x rows) (hz : x.length + 2 ≤ 4000) : G_words [.d (.str (x ++ " a"))] = .ok (.list ((rows ++ [(("name", [97], x.length + 1) : Ent)]).map entD)) [none] := by
  have e : codes (x ++ " a") = codes x ++ [32, 97] := codes_app x " a"
  refine words_ok (by rw [app_len]; exact hz) ?_
  rw [e]
  refine reads_at h _ ?_
  have l := codes_len x
  refine .blank (c := 32) (by rw [List.getElem?_append_right (by omega)]; rw [show x.length - (codes x).length = 0 by omega]; rfl) rfl ?_
  have dr : (codes x ++ [32, 97]).drop (x.length + 1) = [97] := by
    rw [show codes x ++ [32, 97] = (codes x ++ [32]) ++ [97] by simp, show x.length + 1 = (codes x ++ [32]).length by simp [l], List.drop_left]
  have wd := Scan.word (f := stepP) (t := codes x ++ [32, 97]) (k := x.length + 1) (c := 97) (m := 1) (s := "name") (es := []) (z := none) (by rw [List.getElem?_append_right (by omega)]; rw [show x.length + 1 - (codes x).length = 1 by omega]; rfl) rfl (by rw [dr]; decide +kernel) (by decide) (by simp [l]) (.stop (by simp [l]))
  rw [dr] at wd
  exact wd
/-- a blank ahead -/
theorem w_ahead (h : Reads x rows) (hz : x.length + 1 ≤ 4000) : G_words [.d (.str (" " ++ x))] = .ok (.list ((rows.map (shE 1)).map entD)) [none] := by
  have e : codes (" " ++ x) = [32] ++ (codes x ++ []) := by rw [List.append_nil]; exact codes_app " " x
  refine words_ok (by rw [app_len]; show 1 + x.length ≤ 4000; omega) ?_
  rw [e]
  refine .blank (c := 32) rfl rfl ?_
  have := h [32] [] [] none (.stop (by simp [codes_len]; omega))
  rw [List.append_nil (as := rows.map _)] at this
  exact this
/-- a sign that is none -/
theorem w_bad (h : Reads x rows) (hz : x.length + 3 ≤ 4000) : G_words [.d (.str (x ++ "# a"))] = .ex 6 [.int (x.length : Nat)] [none] := by
  have e : codes (x ++ "# a") = codes x ++ [35, 32, 97] := codes_app x "# a"
  refine words_ex (es := rows ++ []) (by rw [app_len]; exact hz) ?_
  rw [e]
  refine reads_at h _ ?_
  have l := codes_len x
  refine .bad (c := 35) (by rw [List.getElem?_append_right (by omega)]; rw [show x.length - (codes x).length = 0 by omega]; rfl) rfl ?_
  rw [← l, List.drop_left]
  decide +kernel
end
end My

namespace My
open PySem PySem.Spec PyProof.Rows L2 XR SX DA
local macro_rules | `(tactic| walk_at "ev") => `(tactic| simp (config := {decide := false}) only [fnOf, oSeq, Ot.seq, oSet, Rs.st, Rs.bind, eVar, eC, eBin, eUn, ofO, eAnd, eOr, eNot, eIf, oRet, oRetN, oIf, oNx, oAsg, gTp, gCn, gNm, gNl, lCons, lNil, lStar, eB, eNew, eLc, eLcX, iSeq, eCall, callO, aCons, aNil, mkArgs, putB, apart, eTyIs, eIsi, eChain, eChain3, eTp, tOf, DA.tNot, tAndO, tOrO, DA.tTru, asB, pSome, pNo, eSl, oRaise, nLst,
  List.map_cons, List.map_nil, List.length_cons, List.length_nil, List.replicate_succ, List.replicate_zero, List.cons_append, List.nil_append, List.set_cons_zero, List.set_cons_succ, List.getElem?_cons_zero, List.getElem?_cons_succ, exits, exitAt, Sl.own, Sl.retag, List.headD_cons, List.tail_cons, Option.map_some, Option.bind_some, if_true, if_false, Nat.sub_self, Nat.reduceAdd, Nat.reduceSub, Nat.zero_add, and_self, Bool.false_eq_true, reduceCtorEq, Bool.not_false, Bool.not_true, sz0, sz1, sz2, sz3, sz4, sz5, sz6, sz7, sz8, sz9, sz10, sz11, sz12, sz13, sz14, sz15, sz16, sz17, sz18, sz19, sz20, and_true, true_and, ite_true, ite_false])
/-! ### the law's maps -/
def mapBody : En → Ot := (oSeq (oSet 7 (eCall 2 G_law_take (aOwn 0 (aCons (eBin oAdd (eVar 2) (eC (.int 1))) aNil))))
    (oSeq (oSet 8 (eB oMin (lCons (eVar 2) (lCons (eBin oAdd (eVar 7) (eCall 2 G_law_take (aOwn 0 (aCons (eC (.int 9)) aNil)))) lNil))))
    (oDrop (gdL 3 (oApp 3 (eTp (lCons (eVar 6) (lCons (eBin oAdd (eVar 6) (eB oLen (lCons (eVar 5) lNil))) (lCons (eVar 7) (lCons (eVar 8) lNil))))))))))
theorem oAdd_int {i j : Int} : oAdd (.int i) (.int j) = some (.int (i + j)) := rfl
theorem oMin_int {i j : Int} : oMin [.int i, .int j] = some (.int (min i j)) := congrArg (fun z => some (PyData.int z)) mn_int
theorem map_step {p : Int} {x : PyData} {size : Nat} {acc : List PyData} {r : Ent} {a b : Option Sl} (hp : 0 ≤ p) (hs : size ≤ 1000) (hr : r.2.1.length ≤ 5) (ha : acc.length < 1000) : ∃ (e : E4) (p' : Int), 0 ≤ p' ∧ entOfB e r size = true ∧
    mapBody [some (.l 1 [.int p]), some (.d x), some (.d (.int size)), some (.l 0 acc), some (.d (.str r.1)), some (.d (.str (S r.2.1))), some (.d (.int (r.2.2 : Nat))), a, b] = .nx [some (.l 1 [.int p']), some (.d x), some (.d (.int size)), some (.l 0 (acc ++ [e4 e])), some (.d (.str r.1)), some (.d (.str (S r.2.1))), some (.d (.int (r.2.2 : Nat))), some (.d (.int e.2.2.1)), some (.d (.int e.2.2.2))] := by
  have hz : ((size : Int) + 1).natAbs < 2 ^ 4000 := Nat.lt_of_lt_of_le (show ((size : Int) + 1).natAbs < 2 ^ 10 by omega) (Nat.pow_le_pow_right (by decide) (by decide))
  have hn : (0 : Int) < (size : Int) + 1 := by omega
  have d1 : 0 ≤ p % ((size : Int) + 1) := Int.emod_nonneg _ (by omega)
  have d2 : p % ((size : Int) + 1) < (size : Int) + 1 := Int.emod_lt_of_pos _ hn
  have q1 : 0 ≤ p / ((size : Int) + 1) := Int.ediv_nonneg hp (by omega)
  have d3 : 0 ≤ p / ((size : Int) + 1) % 9 := Int.emod_nonneg _ (by decide)
  generalize hf : p % ((size : Int) + 1) = f at d1 d2
  generalize hq : p / ((size : Int) + 1) = q at q1 d3
  generalize hd : q % 9 = d at d3
  have t1 := take_in (η := [some (.l 1 [.int p]), some (.d x), some (.d (.int size)), some (.l 0 acc), some (.d (.str r.1)), some (.d (.str (S r.2.1))), some (.d (.int (r.2.2 : Nat))), a, b]) (i := 0) (t := 1) (p := p) (n := (size : Int) + 1) (ga := eBin oAdd (eVar 2) (eC (.int 1))) rfl rfl hn hz
  rw [hf, hq] at t1
  have t2 := take_in (η := [some (.l 1 [.int q]), some (.d x), some (.d (.int size)), some (.l 0 acc), some (.d (.str r.1)), some (.d (.str (S r.2.1))), some (.d (.int (r.2.2 : Nat))), some (.d (.int f)), b]) (i := 0) (t := 1) (p := q) (n := 9) (ga := eC (.int 9)) rfl rfl (by decide) (by decide)
  rw [hd] at t2
  simp only [List.set_cons_zero] at t1 t2
  refine ⟨((r.2.2 : Nat), (r.2.2 : Nat) + (r.2.1.length : Int), f, min (size : Int) (f + d)), q / 9, Int.ediv_nonneg q1 (by decide), ?_, ?_⟩
  · unfold entOfB
    have c1 : f ≤ min (size : Int) (f + d) := by omega
    have c2 : min (size : Int) (f + d) ≤ (size : Int) := by omega
    dsimp only
    rw [decide_eq_true rfl, decide_eq_true rfl, decide_eq_true d1, decide_eq_true c1, decide_eq_true c2]
    rfl
  · have s1 := oSet_ok (i := 7) t1
    simp only [List.set_cons_succ, List.set_cons_zero] at s1
    have a1 : eBin oAdd (eVar 7) (eCall 2 G_law_take (aOwn 0 (aCons (eC (.int 9)) aNil))) [some (.l 1 [.int q]), some (.d x), some (.d (.int size)), some (.l 0 acc), some (.d (.str r.1)), some (.d (.str (S r.2.1))), some (.d (.int (r.2.2 : Nat))), some (.d (.int f)), b] = .ok (.int (f + d)) [some (.l 1 [.int (q / 9)]), some (.d x), some (.d (.int size)), some (.l 0 acc), some (.d (.str r.1)), some (.d (.str (S r.2.1))), some (.d (.int (r.2.2 : Nat))), some (.d (.int f)), b] :=
      eBin_ok rfl t2 oAdd_int
    have m1 : eB oMin (lCons (eVar 2) (lCons (eBin oAdd (eVar 7) (eCall 2 G_law_take (aOwn 0 (aCons (eC (.int 9)) aNil)))) lNil)) [some (.l 1 [.int q]), some (.d x), some (.d (.int size)), some (.l 0 acc), some (.d (.str r.1)), some (.d (.str (S r.2.1))), some (.d (.int (r.2.2 : Nat))), some (.d (.int f)), b] = .ok (.int (min (size : Int) (f + d))) [some (.l 1 [.int (q / 9)]), some (.d x), some (.d (.int size)), some (.l 0 acc), some (.d (.str r.1)), some (.d (.str (S r.2.1))), some (.d (.int (r.2.2 : Nat))), some (.d (.int f)), b] := by
      unfold eB lCons
      simp only [eVar, Rs.bind, List.getElem?_cons_succ, List.getElem?_cons_zero]
      rw [a1]
      simp only [lNil]
      rw [oMin_int]
      rfl
    have s2 := oSet_ok (i := 8) m1
    simp only [List.set_cons_succ, List.set_cons_zero] at s2
    unfold mapBody
    rw [oSeq_nx s1, oSeq_nx s2]
    have lw := oLen_S (w := r.2.1) (Nat.le_trans hr (by decide))
    have za : acc.length < sizeLine := Nat.lt_of_lt_of_le ha (by decide)
    walk_at "ev"
    simp only [oDrop, gdL, DA.isL, oApp]
    walk_at "ev"
    rw [lw]
    walk_at "ev"
    rw [oAdd_int]
    walk_at "ev"
    rw [if_pos za]
    walk_at "ev"
    rfl
end My

namespace My
open PySem PySem.Spec PyProof.Rows L2 XR SX DA
local macro_rules | `(tactic| walk_at "ev") => `(tactic| simp (config := {decide := false}) only [fnOf, oSeq, Ot.seq, oSet, Rs.st, Rs.bind, eVar, eC, eBin, eUn, ofO, eAnd, eOr, eNot, eIf, oRet, oRetN, oIf, oNx, oAsg, gTp, gCn, gNm, gNl, lCons, lNil, lStar, eB, eNew, eLc, eLcX, iSeq, eCall, callO, aCons, aNil, mkArgs, putB, apart, eTyIs, eIsi, eChain, eChain3, eTp, tOf, DA.tNot, tAndO, tOrO, DA.tTru, asB, pSome, pNo, eSl, oRaise, nLst,
  List.map_cons, List.map_nil, List.length_cons, List.length_nil, List.replicate_succ, List.replicate_zero, List.cons_append, List.nil_append, List.set_cons_zero, List.set_cons_succ, List.getElem?_cons_zero, List.getElem?_cons_succ, exits, exitAt, Sl.own, Sl.retag, List.headD_cons, List.tail_cons, Option.map_some, Option.bind_some, if_true, if_false, Nat.sub_self, Nat.reduceAdd, Nat.reduceSub, Nat.zero_add, and_self, Bool.false_eq_true, reduceCtorEq, Bool.not_false, Bool.not_true, sz0, sz1, sz2, sz3, sz4, sz5, sz6, sz7, sz8, sz9, sz10, sz11, sz12, sz13, sz14, sz15, sz16, sz17, sz18, sz19, sz20, and_true, true_and, ite_true, ite_false])
inductive MapOf (size : Nat) : List Ent → List E4 → Prop
  | nil : MapOf size [] []
  | cons {r : Ent} {e : E4} {rs : List Ent} {es : List E4} : entOfB e r size = true → MapOf size rs es → MapOf size (r :: rs) (e :: es)
theorem MapOf.len {size : Nat} : ∀ {rs : List Ent} {es : List E4}, MapOf size rs es → es.length = rs.length
  | _, _, .nil => rfl
  | _, _, .cons _ t => congrArg (· + 1) (MapOf.len t)
theorem e4_ent (e : E4) : entB (e4 e) = true := rfl
theorem MapOf.all {size : Nat} : ∀ {rs : List Ent} {es : List E4}, MapOf size rs es → (((es.map e4).zip rs).all fun p => entB p.1 && entOfB (un4 p.1) p.2 size) = true
  | _, _, .nil => rfl
  | _, _, .cons (r := r) (e := e) h t => by
    show ((entB (e4 e) && entOfB (un4 (e4 e)) r size) && _) = true
    rw [e4_ent, un_e4, h, Bool.true_and, Bool.true_and]
    exact MapOf.all t
theorem MapOf.good {size : Nat} {rs : List Ent} {es : List E4} (h : MapOf size rs es) : mapB (.list (es.map e4)) rs size = true := by
  show (decide ((es.map e4).length = rs.length) && _) = true
  rw [List.length_map, decide_eq_true h.len, Bool.true_and]
  exact h.all
theorem map_loop {x : PyData} {size : Nat} (hs : size ≤ 1000) : ∀ (rows : List Ent) (acc : List PyData) (p : Int) (a b c d f : Option Sl), 0 ≤ p → (∀ r ∈ rows, r.2.1.length ≤ 5) → acc.length + rows.length ≤ 1000 → ∃ (es : List E4) (p' : Int) (a' b' c' d' f' : Option Sl), 0 ≤ p' ∧ MapOf size rows es ∧
    forO (gTp 3 (gCn (gNm 4) (gCn (gNm 5) (gCn (gNm 6) gNl)))) mapBody (rows.map entD) [some (.l 1 [.int p]), some (.d x), some (.d (.int size)), some (.l 0 acc), a, b, c, d, f] = .nx [some (.l 1 [.int p']), some (.d x), some (.d (.int size)), some (.l 0 (acc ++ es.map e4)), a', b', c', d', f']
  | [], acc, p, a, b, c, d, f, hp, _, _ => ⟨[], p, a, b, c, d, f, hp, .nil, by rw [show acc ++ List.map e4 [] = acc from List.append_nil acc]; rfl⟩
  | r :: rows, acc, p, a, b, c, d, f, hp, hr, hl => by
    rw [List.length_cons] at hl
    obtain ⟨e, p1, h1, h2, h3⟩ := map_step (x := x) (size := size) (acc := acc) (r := r) (a := d) (b := f) hp hs (hr r List.mem_cons_self) (by omega)
    obtain ⟨es, p2, a', b', c', d', f', g1, g2, g3⟩ := map_loop hs rows (acc ++ [e4 e]) p1 (some (.d (.str r.1))) (some (.d (.str (S r.2.1)))) (some (.d (.int (r.2.2 : Nat)))) (some (.d (.int e.2.2.1))) (some (.d (.int e.2.2.2))) h1 (fun r h => hr r (List.mem_cons_of_mem _ h)) (by rw [List.length_append]; simp; omega)
    refine ⟨e :: es, p2, a', b', c', d', f', g1, .cons h2 g2, ?_⟩
    rw [List.map_cons]
    unfold forO
    have gt : gTp 3 (gCn (gNm 4) (gCn (gNm 5) (gCn (gNm 6) gNl))) (entD r) [some (.l 1 [.int p]), some (.d x), some (.d (.int size)), some (.l 0 acc), a, b, c, d, f] = some [some (.l 1 [.int p]), some (.d x), some (.d (.int size)), some (.l 0 acc), some (.d (.str r.1)), some (.d (.str (S r.2.1))), some (.d (.int (r.2.2 : Nat))), d, f] := rfl
    rw [gt]
    dsimp only
    rw [h3]
    dsimp only
    rw [List.append_assoc] at g3
    exact g3
theorem fnOfL2 {N : Nat} {B : En → Ot} {xs xs' : List PyData} {y z d : PyData} {η η' : En} (h : B η = .rt d η') (e : η = [some (.l 1 xs), some (.d y), some (.d z)] ++ List.replicate (N - 3) none) (e0 : η'[0]? = some (some (.l 1 xs'))) : fnOf N B [.l 1 xs, .d y, .d z] = .ok d [some (.l 1 xs'), none, none] := by
  subst e
  unfold fnOf
  have ex : exits 0 [.l 1 xs, .d y, .d z] η' = some [some (.l 1 xs'), none, none] := by
    cases η' with
    | nil => cases e0
    | cons a r =>
      cases (show a = some (.l 1 xs') from Option.some.inj e0)
      rfl
  show (match B ([some (.l 1 xs), some (.d y), some (.d z)] ++ List.replicate (N - 3) none) with
    | .rt d η => (match exits 0 [.l 1 xs, .d y, .d z] η with
      | some es => Rs.ok d es
      | none => .no)
    | .nx η => (match exits 0 [.l 1 xs, .d y, .d z] η with
      | some es => .ok .none es
      | none => .no)
    | .ex n xs2 η => (match exits 0 [.l 1 xs, .d y, .d z] η with
      | some es => .ex n xs2 es
      | none => .no)
    | _ => .no) = _
  rw [h]
  dsimp only
  rw [ex]
theorem g_map {p : Int} {x : Str} {size : Nat} {rows : List Ent} (hp : 0 ≤ p) (hw : G_words [.d (.str x)] = .ok (.list (rows.map entD)) [none]) (hs : size ≤ 1000) (hr : ∀ r ∈ rows, r.2.1.length ≤ 5) (hl : rows.length ≤ 1000) : ∃ (es : List E4) (p' : Int), 0 ≤ p' ∧ MapOf size rows es ∧
    G_law_map [.l 1 [.int p], .d (.str x), .d (.int size)] = .ok (.list (es.map e4)) [some (.l 1 [.int p']), none, none] := by
  obtain ⟨es, p', a, b, c, d, f, g1, g2, g3⟩ := map_loop (x := .str x) hs rows [] p none none none none none hp hr (by simpa using hl)
  rw [List.nil_append] at g3
  refine ⟨es, p', g1, g2, ?_⟩
  have eb : b_law_map = oSeq (oNew 3 (nLst lNil)) (oSeq (oFor (iSeq (eCall 1 G_words (aCons (eVar 1) aNil))) (gTp 3 (gCn (gNm 4) (gCn (gNm 5) (gCn (gNm 6) gNl)))) mapBody) (oRet (eVar 3))) := rfl
  have s1 : oNew 3 (nLst lNil) [some (.l 1 [.int p]), some (.d (.str x)), some (.d (.int size)), none, none, none, none, none, none] = .nx [some (.l 1 [.int p]), some (.d (.str x)), some (.d (.int size)), some (.l 0 []), none, none, none, none, none] := by
    simp only [oNew]
    walk_at "ev"
  have w1 : iSeq (eCall 1 G_words (aCons (eVar 1) aNil)) [some (.l 1 [.int p]), some (.d (.str x)), some (.d (.int size)), some (.l 0 []), none, none, none, none, none] = .ok (rows.map entD) [some (.l 1 [.int p]), some (.d (.str x)), some (.d (.int size)), some (.l 0 []), none, none, none, none, none] := by
    walk_at "ev"
    rw [hw]
    walk_at "ev"
  have s2 := oFor_ok w1 g3
  have body : b_law_map [some (.l 1 [.int p]), some (.d (.str x)), some (.d (.int size)), none, none, none, none, none, none] = .rt (.list (es.map e4)) [some (.l 1 [.int p']), some (.d (.str x)), some (.d (.int size)), some (.d (.list (es.map e4))), a, b, c, d, f] := by
    rw [eb, oSeq_nx s1, oSeq_nx s2]
    rfl
  exact fnOfL2 body rfl rfl
end My

namespace My
open PySem PySem.Spec PyProof.Rows L2 XR SX DA
/-! ### who is led -/
def intsIn (f l : Int) : List Int := (List.range (l - f).toNat).map fun i => f + (i : Nat)
theorem mem_ints {f l i : Int} : i ∈ intsIn f l ↔ f ≤ i ∧ i < l := by
  unfold intsIn
  rw [List.mem_map]
  constructor
  · rintro ⟨k, hk, rfl⟩
    have := List.mem_range.mp hk
    omega
  · rintro ⟨h1, h2⟩
    exact ⟨(i - f).toNat, List.mem_range.mpr (by omega), by omega⟩
theorem meets {b e f l : Int} : ((intsIn f l).filter fun i => decide (b ≤ i) && decide (i < e)).isEmpty = !decide (max b f < min e l) := by
  by_cases h : max b f < min e l
  · rw [decide_eq_true h]
    have m : max b f ∈ (intsIn f l).filter fun i => decide (b ≤ i) && decide (i < e) := List.mem_filter.mpr ⟨mem_ints.mpr (by omega), by
      rw [Bool.and_eq_true, decide_eq_true_eq, decide_eq_true_eq]
      omega⟩
    cases q : (intsIn f l).filter fun i => decide (b ≤ i) && decide (i < e) with
    | nil => rw [q] at m; cases m
    | cons a r => rfl
  · rw [decide_eq_false h]
    cases q : (intsIn f l).filter fun i => decide (b ≤ i) && decide (i < e) with
    | nil => rfl
    | cons a r =>
      have m : a ∈ (intsIn f l).filter fun i => decide (b ≤ i) && decide (i < e) := by rw [q]; exact List.mem_cons_self
      obtain ⟨m1, m2⟩ := List.mem_filter.mp m
      rw [mem_ints] at m1
      rw [Bool.and_eq_true, decide_eq_true_eq, decide_eq_true_eq] at m2
      omega
/-- what the law puts together: None from the first on that meets nothing -/
def dueL (two : List E4) : List E4 → Option (List E4) → Option (List E4)
  | [], acc => acc
  | e :: es, acc => dueL two es (match stretchF two e.2.2.1 e.2.2.2, acc with
    | some r, some xs => some (xs ++ [(e.1, e.2.1, r.1, r.2)])
    | _, _ => none)
theorem dueL_none (two : List E4) : ∀ es : List E4, dueL two es none = none
  | [] => rfl
  | e :: es => by
    show dueL two es (match stretchF two e.2.2.1 e.2.2.2, (none : Option (List E4)) with
      | some r, some xs => some (xs ++ [(e.1, e.2.1, r.1, r.2)])
      | _, _ => none) = none
    cases stretchF two e.2.2.1 e.2.2.2 <;> exact dueL_none two es
theorem dueL_after (two : List E4) : ∀ (es : List E4) (xs : List E4), dueL two es (some xs) = (afterF two es).map (xs ++ ·)
  | [], xs => by
    show some xs = some (xs ++ [])
    rw [List.append_nil]
  | e :: es, xs => by
    unfold dueL afterF
    cases stretchF two e.2.2.1 e.2.2.2 with
    | none => exact dueL_none two es
    | some r =>
      show dueL two es (some (xs ++ [(e.1, e.2.1, r.1, r.2)])) = ((afterF two es).map _).map _
      rw [dueL_after two es]
      cases afterF two es with
      | none => rfl
      | some ys =>
        show some (xs ++ [(e.1, e.2.1, r.1, r.2)] ++ ys) = some (xs ++ ((e.1, e.2.1, r.1, r.2) :: ys))
        rw [List.append_assoc]
        rfl
end My

namespace My
open PySem PySem.Spec PyProof.Rows L2 XR SX DA
/-! ### bent maps -/
theorem mapB_len {xs : List PyData} {rows : List Ent} {n : Nat} (h : xs.length ≠ rows.length) : mapB (.list xs) rows n = false := by
  show (decide (xs.length = rows.length) && _) = false
  rw [decide_eq_false h]
  rfl
theorem mapB_at {xs : List PyData} {rows : List Ent} {n i : Nat} {o : PyData} {r : Ent} (hx : xs[i]? = some o) (hr : rows[i]? = some r) (h : (entB o && entOfB (un4 o) r n) = false) : mapB (.list xs) rows n = false := by
  show (decide (xs.length = rows.length) && (xs.zip rows).all fun p => entB p.1 && entOfB (un4 p.1) p.2 n) = false
  have : ((xs.zip rows).all fun p => entB p.1 && entOfB (un4 p.1) p.2 n) = false := by
    rw [List.all_eq_false]
    refine ⟨(o, r), ?_, by rw [h]; decide⟩
    refine List.mem_of_getElem? (i := i) ?_
    rw [List.getElem?_zip_eq_some]
    exact ⟨hx, hr⟩
  rw [this, Bool.and_false]
theorem set_split {α : Type} {xs : List α} {i : Nat} {o : α} (h : i < xs.length) : xs.take i ++ [o] ++ xs.drop (i + 1) = xs.set i o := by
  rw [List.set_eq_take_append_cons_drop, if_pos h, List.append_assoc]
  rfl
theorem bent_set {xs : List PyData} {rows : List Ent} {n i : Nat} {o : PyData} (hl : xs.length = rows.length) (hi : i < rows.length) (h : (entB o && entOfB (un4 o) rows[i] n) = false) : mapB (.list (xs.take i ++ [o] ++ xs.drop (i + 1))) rows n = false := by
  rw [set_split (by omega)]
  exact mapB_at (i := i) (o := o) (r := rows[i]) (List.getElem?_set_self (by omega)) (List.getElem?_eq_getElem hi) h
/-- the odd entries in the place of (b, e, f, l) -/
def odds (b e f l : Int) : List PyData :=
  [.tuple [.int (b + 1), .int e, .int f, .int l], .tuple [.int b, .int (e + 1), .int f, .int l], .tuple [.int b, .int e, .int (l + 1), .int l],
   .tuple [.int b, .int e, .int f, .int (10 ^ 4)], .tuple [.int b, .int e, .int (-1), .int l], .tuple [.int b, .int e, .int f],
   .list [.int b, .int e, .int f, .int l],
   .tuple [.int b, .int e, .int f, .int l, .int 0], .none, .tuple [.int b, .int e, .none, .int l], .tuple [.int b, .int e, .str "0", .int l],
   .tuple [.int b, .int e, .bool false, .int l], .tuple [.str (toString b), .int e, .int f, .int l]]
theorem odds_bad {b e f l : Int} {r : Ent} {n : Nat} (h : entOfB (b, e, f, l) r n = true) (hn : n < 10 ^ 4) : ∀ o ∈ odds b e f l, (entB o && entOfB (un4 o) r n) = false := by
  unfold entOfB at h
  simp only [Bool.and_eq_true, decide_eq_true_eq] at h
  obtain ⟨h1, h2, h3, h4, h5⟩ := h
  have F : ∀ a b' c d : Int, ¬ (a = (r.2.2 : Int) ∧ b' = (r.2.2 : Int) + (r.2.1.length : Int) ∧ 0 ≤ c ∧ c ≤ d ∧ d ≤ (n : Int)) → (entB (.tuple [.int a, .int b', .int c, .int d]) && entOfB (un4 (.tuple [.int a, .int b', .int c, .int d])) r n) = false := fun a b' c d hh => by
    rw [show entB (.tuple [.int a, .int b', .int c, .int d]) = true from rfl, Bool.true_and]
    cases q : entOfB (un4 (.tuple [.int a, .int b', .int c, .int d])) r n with
    | false => rfl
    | true =>
      have q' : entOfB (a, b', c, d) r n = true := q
      unfold entOfB at q'
      simp only [Bool.and_eq_true, decide_eq_true_eq] at q'
      exact (hh ⟨q'.1, q'.2.1, q'.2.2.1, q'.2.2.2.1, q'.2.2.2.2⟩).elim
  intro o ho
  simp only [odds, List.mem_cons, List.not_mem_nil, or_false] at ho
  rcases ho with rfl | rfl | rfl | rfl | rfl | rfl | rfl | rfl | rfl | rfl | rfl | rfl | rfl
  · exact F _ _ _ _ (by omega)
  · exact F _ _ _ _ (by omega)
  · exact F _ _ _ _ (by omega)
  · exact F _ _ _ _ (by omega)
  · exact F _ _ _ _ (by omega)
  all_goals rfl
end My

namespace My
open PySem PySem.Spec PyProof.Rows L2 XR SX DA
theorem MapOf.at {n : Nat} : ∀ {rs : List Ent} {es : List E4} {i : Nat} {r : Ent}, MapOf n rs es → rs[i]? = some r → ∃ e, es[i]? = some e ∧ entOfB e r n = true
  | _, _, _, _, .nil, h => by cases h
  | _, _, 0, _, .cons (e := e) g _, h => by
    cases h
    exact ⟨e, rfl, g⟩
  | _, _, i + 1, r, .cons _ t, h => by
    rw [List.getElem?_cons_succ] at h
    obtain ⟨e, h1, h2⟩ := MapOf.at t h
    exact ⟨e, by rw [List.getElem?_cons_succ]; exact h1, h2⟩
theorem ent_begin {e : E4} {r : Ent} {n : Nat} (h : entOfB e r n = true) : e.1 = (r.2.2 : Int) := by
  unfold entOfB at h
  simp only [Bool.and_eq_true, decide_eq_true_eq] at h
  exact h.1
theorem ent_not {e : E4} {r : Ent} {n : Nat} (h : e.1 ≠ (r.2.2 : Int)) : (entB (e4 e) && entOfB (un4 (e4 e)) r n) = false := by
  rw [e4_ent, un_e4, Bool.true_and]
  unfold entOfB
  rw [decide_eq_false h]
  rfl
/-- a blank ahead moves all rows -/
theorem ahead_bad {n : Nat} {rs : List Ent} {es : List E4} (h : MapOf n rs es) (hne : rs ≠ []) : mapB (.list (es.map e4)) (rs.map (shE 1)) n = false := by
  cases rs with
  | nil => exact (hne rfl).elim
  | cons r rs =>
    obtain ⟨e, h1, h2⟩ := h.at (i := 0) rfl
    refine mapB_at (i := 0) (o := e4 e) (r := shE 1 r) (by rw [List.getElem?_map, h1]; rfl) rfl (ent_not ?_)
    have := ent_begin h2
    show e.1 ≠ ((r.2.2 + 1 : Nat) : Int)
    omega
/-- two rows exchanged -/
theorem swap_bad {n i : Nat} {rs : List Ent} {es : List E4} {xs : List PyData} {r r' : Ent} (h : MapOf n rs es) (hp : rs.Pairwise fun r r' => r.2.2 < r'.2.2) (hr : rs[i]? = some r) (hr' : rs[i + 1]? = some r') (hx : ∀ e, es[i + 1]? = some e → xs[i]? = some (e4 e)) : mapB (.list xs) rs n = false := by
  obtain ⟨e, h1, h2⟩ := h.at hr'
  refine mapB_at (i := i) (o := e4 e) (r := r) (hx e h1) hr (ent_not ?_)
  have l1 := (List.getElem?_eq_some_iff.mp hr)
  have l2 := (List.getElem?_eq_some_iff.mp hr')
  have := List.pairwise_iff_getElem.mp hp i (i + 1) l1.1 l2.1 (by omega)
  rw [l1.2, l2.2] at this
  have := ent_begin h2
  omega
end My

namespace My
open PySem PySem.Spec PyProof.Rows L2 XR SX DA
/-! ### cells -/
theorem lt4000 {i : Int} (h : i.natAbs < 2 ^ 200) : i.natAbs < 2 ^ 4000 := Nat.lt_of_lt_of_le h (Nat.pow_le_pow_right (by decide) (by decide))
theorem oMul_int {i j : Int} (hi : i.natAbs < 2 ^ 4000) (hj : j.natAbs < 2 ^ 4000) : oMul (.int i) (.int j) = some (.int (i * j)) := by
  show (if (decide (i.natAbs < 2 ^ 4000) && decide (j.natAbs < 2 ^ 4000)) = true then some (PyData.int (i * j)) else none) = _
  rw [if_pos (by rw [decide_eq_true hi, decide_eq_true hj]; rfl)]
def mixA (c k : Int) : Int := (c % 2147483647 * 48271 + k * 69621 + 1048583) % 2147483629
def mixB (a : Int) : Int := a * a % 2147483587
def mixC (b : Int) : Int := b * (b + 2) % 2147483579
theorem mod_bd {a m : Int} (h : 0 < m) (hm : m ≤ 2147483647) : 0 ≤ a % m ∧ (a % m).natAbs < 2 ^ 31 := by
  have h1 := Int.emod_nonneg a (show m ≠ 0 by omega)
  have h2 := Int.emod_lt_of_pos a h
  exact ⟨h1, by omega⟩
theorem g_mixed {c k : Int} (hk : k.natAbs < 2 ^ 31) : G_law_mixed [.d (.int c), .d (.int k)] = .ok (.int (mixC (mixB (mixA c k)))) [none, none] := by
  have b31 : ∀ {i : Int}, i.natAbs < 2 ^ 31 → i.natAbs < 2 ^ 4000 := fun h => Nat.lt_of_lt_of_le h (Nat.pow_le_pow_right (by decide) (by decide))
  have c31 : ∀ {i : Int}, i.natAbs < 2 ^ 32 → i.natAbs < 2 ^ 4000 := fun h => Nat.lt_of_lt_of_le h (Nat.pow_le_pow_right (by decide) (by decide))
  have m1 := mod_bd (a := c) (m := 2147483647) (by decide) (by decide)
  have o1 := mod_int (i := c) (j := 2147483647) (by decide)
  have o2 := oMul_int (i := c % 2147483647) (j := 48271) (b31 m1.2) (b31 (by decide))
  have o3 := oMul_int (i := k) (j := 69621) (b31 hk) (b31 (by decide))
  have o4 : oMod (.int (c % 2147483647 * 48271 + k * 69621 + 1048583)) (.int 2147483629) = some (.int (mixA c k)) := mod_int (by decide)
  have m2 : 0 ≤ mixA c k ∧ (mixA c k).natAbs < 2 ^ 31 := mod_bd (by decide) (by decide)
  generalize mixA c k = a at o4 m2
  have o5 := oMul_int (i := a) (j := a) (b31 m2.2) (b31 m2.2)
  have o6 : oMod (.int (a * a)) (.int 2147483587) = some (.int (mixB a)) := mod_int (by decide)
  have m3 : 0 ≤ mixB a ∧ (mixB a).natAbs < 2 ^ 31 := mod_bd (by decide) (by decide)
  generalize mixB a = b at o6 m3
  have o7 := oMul_int (i := b) (j := b + 2) (b31 m3.2) (c31 (by omega))
  have o8 : oMod (.int (b * (b + 2))) (.int 2147483579) = some (.int (mixC b)) := mod_int (by decide)
  have s1' : (eBin oMod (eBin oAdd (eBin oAdd (eBin oMul (eBin oMod (eVar 0) (eC (.int 2147483647))) (eC (.int 48271))) (eBin oMul (eVar 1) (eC (.int 69621)))) (eC (.int 1048583))) (eC (.int 2147483629))) [some (.d (.int c)), some (.d (.int k)), none] = .ok (.int a) [some (.d (.int c)), some (.d (.int k)), none] :=
    (eBin_ok (eBin_ok (eBin_ok (eBin_ok (eBin_ok rfl rfl o1) rfl o2) (eBin_ok rfl rfl o3) oAdd_int) rfl oAdd_int) rfl o4)
  have s1 := oSet_ok (i := 2) s1'
  simp only [List.set_cons_succ, List.set_cons_zero] at s1
  have s2' : (eBin oMod (eBin oMul (eVar 2) (eVar 2)) (eC (.int 2147483587))) [some (.d (.int c)), some (.d (.int k)), some (.d (.int a))] = .ok (.int b) [some (.d (.int c)), some (.d (.int k)), some (.d (.int a))] :=
    (eBin_ok (eBin_ok rfl rfl o5) rfl o6)
  have s2 := oSet_ok (i := 2) s2'
  simp only [List.set_cons_succ, List.set_cons_zero] at s2
  have e3 : eBin oMod (eBin oMul (eVar 2) (eBin oAdd (eVar 2) (eC (.int 2)))) (eC (.int 2147483579)) [some (.d (.int c)), some (.d (.int k)), some (.d (.int b))] = .ok (.int (mixC b)) [some (.d (.int c)), some (.d (.int k)), some (.d (.int b))] :=
    eBin_ok (eBin_ok rfl (eBin_ok rfl rfl oAdd_int) o7) rfl o8
  have body : b_law_mixed [some (.d (.int c)), some (.d (.int k)), none] = .rt (.int (mixC b)) [some (.d (.int c)), some (.d (.int k)), some (.d (.int b))] := by
    unfold b_law_mixed
    rw [oSeq_nx s1, oSeq_nx s2]
    unfold oRet
    rw [e3]
    rfl
  exact fnOf2 body
end My

namespace My
open PySem PySem.Spec PyProof.Rows L2 XR SX DA
theorem lz0 : (0 < sizeLine) = True := eq_true (by decide)
theorem lz1 : (1 < sizeLine) = True := eq_true (by decide)
theorem lz2 : (2 < sizeLine) = True := eq_true (by decide)
theorem lz3 : (3 < sizeLine) = True := eq_true (by decide)
theorem lz4 : (4 < sizeLine) = True := eq_true (by decide)
theorem lz5 : (5 < sizeLine) = True := eq_true (by decide)
theorem lz6 : (6 < sizeLine) = True := eq_true (by decide)
theorem lz7 : (7 < sizeLine) = True := eq_true (by decide)
theorem lz8 : (8 < sizeLine) = True := eq_true (by decide)
theorem lz9 : (9 < sizeLine) = True := eq_true (by decide)
theorem lz10 : (10 < sizeLine) = True := eq_true (by decide)
theorem lz11 : (11 < sizeLine) = True := eq_true (by decide)
theorem lz12 : (12 < sizeLine) = True := eq_true (by decide)
theorem lz13 : (13 < sizeLine) = True := eq_true (by decide)
theorem lz14 : (14 < sizeLine) = True := eq_true (by decide)
theorem lz15 : (15 < sizeLine) = True := eq_true (by decide)
theorem lz16 : (16 < sizeLine) = True := eq_true (by decide)
theorem lz17 : (17 < sizeLine) = True := eq_true (by decide)
theorem lz18 : (18 < sizeLine) = True := eq_true (by decide)
theorem lz19 : (19 < sizeLine) = True := eq_true (by decide)
theorem lz20 : (20 < sizeLine) = True := eq_true (by decide)
theorem lz21 : (21 < sizeLine) = True := eq_true (by decide)
theorem lz22 : (22 < sizeLine) = True := eq_true (by decide)
theorem lz23 : (23 < sizeLine) = True := eq_true (by decide)
theorem lz24 : (24 < sizeLine) = True := eq_true (by decide)
theorem lz25 : (25 < sizeLine) = True := eq_true (by decide)
theorem lz26 : (26 < sizeLine) = True := eq_true (by decide)
theorem lz27 : (27 < sizeLine) = True := eq_true (by decide)
theorem lz28 : (28 < sizeLine) = True := eq_true (by decide)
theorem lz29 : (29 < sizeLine) = True := eq_true (by decide)
theorem lz30 : (30 < sizeLine) = True := eq_true (by decide)
theorem sz21 : (21 ≤ sizeLine) = True := eq_true (by decide)
theorem sz22 : (22 ≤ sizeLine) = True := eq_true (by decide)
theorem sz23 : (23 ≤ sizeLine) = True := eq_true (by decide)
theorem sz24 : (24 ≤ sizeLine) = True := eq_true (by decide)
theorem sz25 : (25 ≤ sizeLine) = True := eq_true (by decide)
theorem sz26 : (26 ≤ sizeLine) = True := eq_true (by decide)
theorem sz27 : (27 ≤ sizeLine) = True := eq_true (by decide)
theorem sz28 : (28 ≤ sizeLine) = True := eq_true (by decide)
theorem sz29 : (29 ≤ sizeLine) = True := eq_true (by decide)
theorem sz30 : (30 ≤ sizeLine) = True := eq_true (by decide)
theorem oSl_list {xs : List PyData} {a b : Option Int} : oSl (.list xs) a b = some (.list (DA.cutD xs a b)) := rfl
theorem oSl_tup {xs : List PyData} {a b : Option Int} : oSl (.tuple xs) a b = some (.tuple (DA.cutD xs a b)) := rfl
theorem fits_ll {t t' : Nat} {xs ys : List PyData} : fits (.l t xs) (.l t' ys) = true := rfl
theorem fits_kk {t t' : Nat} {xs ys : List (Key × PyData)} : fits (.k t xs) (.k t' ys) = true := rfl
theorem tag_l {t : Nat} {xs : List PyData} : (Sl.l t xs).tag = t := rfl
theorem tag_k {t : Nat} {xs : List (Key × PyData)} : (Sl.k t xs).tag = t := rfl
theorem cut_take (xs : List PyData) {i : Nat} (h : i ≤ xs.length) : DA.cutD xs none (some (i : Int)) = xs.take i := by
  unfold DA.cutD
  have e1 : HT.sIx xs.length 0 none = 0 := rfl
  have e2 : HT.sIx xs.length xs.length (some (i : Int)) = i := by
    unfold HT.sIx
    simp
    rw [if_neg (by omega)]
    omega
  rw [e1, e2, List.drop_zero, Nat.sub_zero]
theorem cut_drop (xs : List PyData) {i : Nat} (h : i ≤ xs.length) : DA.cutD xs (some (i : Int)) none = xs.drop i := by
  unfold DA.cutD
  have e1 : HT.sIx xs.length 0 (some (i : Int)) = i := by
    unfold HT.sIx
    simp
    rw [if_neg (by omega)]
    omega
  have e2 : HT.sIx xs.length xs.length none = xs.length := rfl
  rw [e1, e2]
  refine List.take_of_length_le ?_
  rw [List.length_drop]
  omega
/-- the law's bent maps -/
def bentL (xs : List PyData) (i : Nat) (b e f l : Int) : List PyData :=
  (odds b e f l).map (fun o => .list (xs.take i ++ [o] ++ xs.drop (i + 1))) ++ [.list (xs.take i ++ xs.drop (i + 1)), .list (xs.take (i + 1) ++ xs.drop i), .tuple xs, .none, .int 0, .str ""] ++
    (if 0 < i then [.list (xs.take (i - 1) ++ [xs.getD i .none, xs.getD (i - 1) .none] ++ xs.drop (i + 1))] else [])
def bentS1 : En → Ot := (oSeq (oNew 7 (nLst (lCons (eTp (lCons (eBin oAdd (eVar 3) (eC (.int 1))) (lCons (eVar 4) (lCons (eVar 5) (lCons (eVar 6) lNil))))) (lCons (eTp (lCons (eVar 3) (lCons (eBin oAdd (eVar 4) (eC (.int 1))) (lCons (eVar 5) (lCons (eVar 6) lNil))))) (lCons (eTp (lCons (eVar 3) (lCons (eVar 4) (lCons (eBin oAdd (eVar 6) (eC (.int 1))) (lCons (eVar 6) lNil))))) lNil)))))
    (oSeq (oNew 7 (nAdd (eVar 7) (eNew (nLst (lCons (eTp (lCons (eVar 3) (lCons (eVar 4) (lCons (eVar 5) (lCons (eBin oPow (eC (.int 10)) (eC (.int 4))) lNil))))) (lCons (eTp (lCons (eVar 3) (lCons (eVar 4) (lCons (eBin oSub (eC (.int 0)) (eC (.int 1))) (lCons (eVar 6) lNil))))) (lCons (eTp (lCons (eVar 3) (lCons (eVar 4) (lCons (eVar 5) lNil)))) lNil)))))))
    (oSeq (oDrop (gdL 7 (oApp 7 (eNew (nLst (lCons (eVar 3) (lCons (eVar 4) (lCons (eVar 5) (lCons (eVar 6) lNil)))))))))
    (oSeq (oNew 7 (nAdd (eVar 7) (eNew (nLst (lCons (eTp (lCons (eVar 3) (lCons (eVar 4) (lCons (eVar 5) (lCons (eVar 6) (lCons (eC (.int 0)) lNil)))))) (lCons (eC .none) (lCons (eTp (lCons (eVar 3) (lCons (eVar 4) (lCons (eC .none) (lCons (eVar 6) lNil))))) (lCons (eTp (lCons (eVar 3) (lCons (eVar 4) (lCons (eC (.str "0")) (lCons (eVar 6) lNil))))) lNil))))))))
    (oNew 7 (nAdd (eVar 7) (eNew (nLst (lCons (eTp (lCons (eVar 3) (lCons (eVar 4) (lCons (eC (.bool false)) (lCons (eVar 6) lNil))))) (lCons (eTp (lCons (eB oStr (lCons (eVar 3) lNil)) (lCons (eVar 4) (lCons (eVar 5) (lCons (eVar 6) lNil))))) lNil)))))))))) 
theorem oPow10_4 : oPow (.int 10) (.int 4) = some (.int (10 ^ 4)) := rfl
theorem oSub_int {i j : Int} : oSub (.int i) (.int j) = some (.int (i - j)) := rfl
local macro_rules | `(tactic| walk_at "evs") => `(tactic| simp (config := {decide := false}) only [fnOf, oSeq, Ot.seq, oSet, Rs.st, Rs.bind, eVar, eC, eBin, eUn, ofO, eAnd, eOr, eNot, eIf, oRet, oRetN, oIf, oNx, oAsg, gTp, gCn, gNm, gNl, lCons, lNil, lStar, eB, eNew, eLc, eLcX, iSeq, eCall, callO, aCons, aNil, aOwn, mkArgs, putB, apart, eTyIs, eIsi, eChain, eChain3, eTp, tOf, DA.tNot, tAndO, tOrO, DA.tTru, asB, pSome, pNo, eSl, oSl_list, oSl_tup, oRaise, nLst, nAdd, oNew, oDrop, eXat, eq_self, eCallN, eOwnIs, slNo, isNo, fits_ll, fits_kk, tag_l, tag_k, Bool.true_and, Bool.and_true, Bool.false_and, Bool.and_false, gdL, DA.isL, oApp,
  oAdd_int, oLe_int, oLt_int, oEq_int,
  List.map_cons, List.map_nil, List.length_cons, List.length_nil, List.length_append, List.length_map, List.replicate_succ, List.replicate_zero, List.cons_append, List.nil_append, List.set_cons_zero, List.set_cons_succ, List.getElem?_cons_zero, List.getElem?_cons_succ, exits, exitAt, Sl.own, Sl.retag, List.headD_cons, List.tail_cons, Option.map_some, Option.bind_some, if_true, if_false, Nat.sub_self, Nat.reduceAdd, Nat.reduceSub, Nat.zero_add, and_self, Bool.false_eq_true, reduceCtorEq, Bool.not_false, Bool.not_true, sz0, sz1, sz2, sz3, sz4, sz5, sz6, sz7, sz8, sz9, sz10, sz11, sz12, sz13, sz14, sz15, sz16, sz17, sz18, sz19, sz20, lz0, lz1, lz2, lz3, lz4, lz5, lz6, lz7, lz8, lz9, lz10, lz11, lz12, lz13, lz14, lz15, lz16, lz17, lz18, lz19, lz20, lz21, lz22, lz23, lz24, lz25, lz26, lz27, lz28, lz29, lz30, sz21, sz22, sz23, sz24, sz25, sz26, sz27, sz28, sz29, sz30, and_true, true_and, ite_true, ite_false, decide_true, decide_false, List.all_nil, List.all_cons, *])
theorem bent_s1 {A B C X : Option Sl} {b e f l : Int} (hb : b.natAbs.log2 < 1920) : bentS1 [A, B, C, some (.d (.int b)), some (.d (.int e)), some (.d (.int f)), some (.d (.int l)), none, none, none] =
    .nx [A, B, C, some (.d (.int b)), some (.d (.int e)), some (.d (.int f)), some (.d (.int l)), some (.l 0 (odds b e f l)), none, none] := by
  have k1 : oStr [.int b] = some (.str (toString b)) := if_pos hb
  have k2 := oPow10_4
  have k3 : oSub (.int 0) (.int 1) = some (.int (-1)) := rfl
  unfold bentS1 odds
  walk_at "evs"

theorem bent_set7 {A : Option Sl} {b e f l : Int} {xs : List PyData} {i : Nat} (hi : i + 1 ≤ xs.length) (hx : xs.length ≤ 1000) :
    lcO [9] (gNm 9) gYes (eBin oAdd (eBin oAdd (eSl (eVar 1) pNo (pSome (eVar 2))) (eNew (nLst (lCons (eVar 9) lNil)))) (eSl (eVar 1) (pSome (eBin oAdd (eVar 2) (eC (.int 1)))) pNo)) (odds b e f l) []
      [A, some (.d (.list xs)), some (.d (.int (i : Nat))), some (.d (.int b)), some (.d (.int e)), some (.d (.int f)), some (.d (.int l)), some (.d (.list (odds b e f l))), none, none] =
    .ok ((odds b e f l).map fun o => .list (xs.take i ++ [o] ++ xs.drop (i + 1))) [A, some (.d (.list xs)), some (.d (.int (i : Nat))), some (.d (.int b)), some (.d (.int e)), some (.d (.int f)), some (.d (.int l)), some (.d (.list (odds b e f l))), none, none] := by
  refine lcO_map rfl _ (by show (13 : Nat) ≤ sizeLine; decide) fun o ho => ?_
  have c1 : DA.cutD xs none (some (i : Int)) = xs.take i := cut_take xs (by omega)
  have c2 : DA.cutD xs (some ((i : Int) + 1)) none = xs.drop (i + 1) := cut_drop xs (i := i + 1) hi
  have z : (1002 : Nat) ≤ sizeLine := by decide
  have a1 : oAdd (.list (xs.take i)) (.list [o]) = some (.list (xs.take i ++ [o])) := if_pos (by rw [List.length_take]; show _ + 1 ≤ _; omega)
  have a2 : oAdd (.list (xs.take i ++ [o])) (.list (xs.drop (i + 1))) = some (.list (xs.take i ++ [o] ++ xs.drop (i + 1))) := if_pos (by rw [List.length_append, List.length_take, List.length_drop]; show _ + 1 + _ ≤ _; omega)
  refine ⟨[A, some (.d (.list xs)), some (.d (.int (i : Nat))), some (.d (.int b)), some (.d (.int e)), some (.d (.int f)), some (.d (.int l)), some (.d (.list (odds b e f l))), none, some (.d o)], rfl, ?_, rfl⟩
  walk_at "evs"
def bentS2 : En → Ot := (oSeq (oNew 8 (nAdd (eVar 8) (eNew (nLst (lCons (eBin oAdd (eSl (eVar 1) pNo (pSome (eVar 2))) (eSl (eVar 1) (pSome (eBin oAdd (eVar 2) (eC (.int 1)))) pNo)) (lCons (eBin oAdd (eSl (eVar 1) pNo (pSome (eBin oAdd (eVar 2) (eC (.int 1))))) (eSl (eVar 1) (pSome (eVar 2)) pNo)) (lCons (eB oTup (lCons (eVar 1) lNil)) (lCons (eC .none) (lCons (eC (.int 0)) (lCons (eC (.str "")) lNil))))))))))
    (oSeq (oIf (tOf (eBin oGt (eVar 2) (eC (.int 0)))) (oDrop (gdL 8 (oApp 8 (eBin oAdd (eBin oAdd (eSl (eVar 1) pNo (pSome (eBin oSub (eVar 2) (eC (.int 1))))) (eNew (nLst (lCons (eBin oIx (eVar 1) (eVar 2)) (lCons (eBin oIx (eVar 1) (eBin oSub (eVar 2) (eC (.int 1)))) lNil))))) (eSl (eVar 1) (pSome (eBin oAdd (eVar 2) (eC (.int 1)))) pNo))))) oNx)
    (oRet (eVar 8))))
theorem oGt_int {i j : Int} : oGt (.int i) (.int j) = some (.bool (decide (j < i))) := rfl
theorem oIx_getD {xs : List PyData} {k : Nat} (h : k < xs.length) : oIx (.list xs) (.int (k : Nat)) = some (xs.getD k .none) := by
  rw [oIx_at (List.getElem?_eq_getElem h), List.getD_eq_getElem?_getD, List.getElem?_eq_getElem h]
  rfl
theorem bent_s2 {A C D E F G : Option Sl} {os xs : List PyData} {i : Nat} (hi : i + 1 ≤ xs.length) (hx : xs.length ≤ 1000) (ho : os.length = 13) :
    ∃ η', bentS2 [A, some (.d (.list xs)), some (.d (.int (i : Nat))), C, D, E, F, G, some (.l 0 os), none] = .rt (.list (os ++ [.list (xs.take i ++ xs.drop (i + 1)), .list (xs.take (i + 1) ++ xs.drop i), .tuple xs, .none, .int 0, .str ""] ++
    (if 0 < i then [.list (xs.take (i - 1) ++ [xs.getD i .none, xs.getD (i - 1) .none] ++ xs.drop (i + 1))] else []))) (A :: η') := by
  have c1 : DA.cutD xs none (some (i : Int)) = xs.take i := cut_take xs (by omega)
  have c2 : DA.cutD xs (some ((i : Int) + 1)) none = xs.drop (i + 1) := cut_drop xs (i := i + 1) hi
  have c3 : DA.cutD xs none (some ((i : Int) + 1)) = xs.take (i + 1) := cut_take xs (i := i + 1) hi
  have c4 : DA.cutD xs (some (i : Int)) none = xs.drop i := cut_drop xs (by omega)
  have z : (1002 : Nat) ≤ sizeLine := by decide
  have a1 : oAdd (.list (xs.take i)) (.list (xs.drop (i + 1))) = some (.list (xs.take i ++ xs.drop (i + 1))) := if_pos (by rw [List.length_take, List.length_drop]; omega)
  have a2 : oAdd (.list (xs.take (i + 1))) (.list (xs.drop i)) = some (.list (xs.take (i + 1) ++ xs.drop i)) := if_pos (by rw [List.length_take, List.length_drop]; omega)
  have t1 : oTup [.list xs] = some (.tuple xs) := rfl
  have i1 : oIx (.list xs) (.int (i : Nat)) = some (xs.getD i .none) := oIx_getD (by omega)
  unfold bentS2
  by_cases h : 0 < i
  · have h' : (0 : Int) < (i : Int) := by omega
    have g1 : oGt (.int (i : Nat)) (.int 0) = some (.bool true) := by rw [oGt_int, decide_eq_true h']
    have s1 : oSub (.int (i : Nat)) (.int 1) = some (.int ((i - 1 : Nat) : Int)) := by rw [oSub_int]; congr 2; omega
    have c5 : DA.cutD xs none (some ((i - 1 : Nat) : Int)) = xs.take (i - 1) := cut_take xs (by omega)
    have i2 : oIx (.list xs) (.int ((i - 1 : Nat) : Int)) = some (xs.getD (i - 1) .none) := oIx_getD (by omega)
    have a3 : oAdd (.list (xs.take (i - 1))) (.list [xs.getD i .none, xs.getD (i - 1) .none]) = some (.list (xs.take (i - 1) ++ [xs.getD i .none, xs.getD (i - 1) .none])) := if_pos (by rw [List.length_take]; show _ + 2 ≤ _; omega)
    have a4 : oAdd (.list (xs.take (i - 1) ++ [xs.getD i .none, xs.getD (i - 1) .none])) (.list (xs.drop (i + 1))) = some (.list (xs.take (i - 1) ++ [xs.getD i .none, xs.getD (i - 1) .none] ++ xs.drop (i + 1))) := if_pos (by rw [List.length_append, List.length_take, List.length_drop]; show _ + 2 + _ ≤ _; omega)
    clear z
    refine ⟨?my_a, ?_⟩
    rotate_left
    rw [if_pos h]
    walk_at "evs"
    rfl
  · have h' : ¬ (0 : Int) < (i : Int) := by omega
    have g1 : oGt (.int (i : Nat)) (.int 0) = some (.bool false) := by rw [oGt_int, decide_eq_false h']
    clear z
    refine ⟨?my_b, ?_⟩
    rotate_left
    rw [if_neg h, List.append_nil]
    walk_at "evs"
    rfl
end My

namespace My
open PySem PySem.Spec PyProof.Rows L2 XR SX DA
local macro_rules | `(tactic| walk_at "ev") => `(tactic| simp (config := {decide := false}) only [fnOf, oSeq, Ot.seq, oSet, Rs.st, Rs.bind, eVar, eC, eBin, eUn, ofO, eAnd, eOr, eNot, eIf, oRet, oRetN, oIf, oNx, oAsg, gTp, gCn, gNm, gNl, lCons, lNil, lStar, eB, eNew, eLc, eLcX, iSeq, eCall, callO, aCons, aNil, mkArgs, putB, apart, eTyIs, eIsi, eChain, eChain3, eTp, tOf, DA.tNot, tAndO, tOrO, DA.tTru, asB, pSome, pNo, eSl, oRaise, nLst,
  List.map_cons, List.map_nil, List.length_cons, List.length_nil, List.replicate_succ, List.replicate_zero, List.cons_append, List.nil_append, List.set_cons_zero, List.set_cons_succ, List.getElem?_cons_zero, List.getElem?_cons_succ, exits, exitAt, Sl.own, Sl.retag, List.headD_cons, List.tail_cons, Option.map_some, Option.bind_some, if_true, if_false, Nat.sub_self, Nat.reduceAdd, Nat.reduceSub, Nat.zero_add, and_self, Bool.false_eq_true, reduceCtorEq, Bool.not_false, Bool.not_true, sz0, sz1, sz2, sz3, sz4, sz5, sz6, sz7, sz8, sz9, sz10, sz11, sz12, sz13, sz14, sz15, sz16, sz17, sz18, sz19, sz20, and_true, true_and, ite_true, ite_false])
local macro_rules | `(tactic| walk_at "evs") => `(tactic| simp (config := {decide := false}) only [fnOf, oSeq, Ot.seq, oSet, Rs.st, Rs.bind, eVar, eC, eBin, eUn, ofO, eAnd, eOr, eNot, eIf, oRet, oRetN, oIf, oNx, oAsg, gTp, gCn, gNm, gNl, lCons, lNil, lStar, eB, eNew, eLc, eLcX, iSeq, eCall, callO, aCons, aNil, aOwn, mkArgs, putB, apart, eTyIs, eIsi, eChain, eChain3, eTp, tOf, DA.tNot, tAndO, tOrO, DA.tTru, asB, pSome, pNo, eSl, oSl_list, oSl_tup, oRaise, nLst, nAdd, oNew, oDrop, eXat, eq_self, eCallN, eOwnIs, slNo, isNo, fits_ll, fits_kk, tag_l, tag_k, Bool.true_and, Bool.and_true, Bool.false_and, Bool.and_false, gdL, DA.isL, oApp,
  oAdd_int, oLe_int, oLt_int, oEq_int,
  List.map_cons, List.map_nil, List.length_cons, List.length_nil, List.length_append, List.length_map, List.replicate_succ, List.replicate_zero, List.cons_append, List.nil_append, List.set_cons_zero, List.set_cons_succ, List.getElem?_cons_zero, List.getElem?_cons_succ, exits, exitAt, Sl.own, Sl.retag, List.headD_cons, List.tail_cons, Option.map_some, Option.bind_some, if_true, if_false, Nat.sub_self, Nat.reduceAdd, Nat.reduceSub, Nat.zero_add, and_self, Bool.false_eq_true, reduceCtorEq, Bool.not_false, Bool.not_true, sz0, sz1, sz2, sz3, sz4, sz5, sz6, sz7, sz8, sz9, sz10, sz11, sz12, sz13, sz14, sz15, sz16, sz17, sz18, sz19, sz20, lz0, lz1, lz2, lz3, lz4, lz5, lz6, lz7, lz8, lz9, lz10, lz11, lz12, lz13, lz14, lz15, lz16, lz17, lz18, lz19, lz20, lz21, lz22, lz23, lz24, lz25, lz26, lz27, lz28, lz29, lz30, sz21, sz22, sz23, sz24, sz25, sz26, sz27, sz28, sz29, sz30, and_true, true_and, ite_true, ite_false, decide_true, decide_false, List.all_nil, List.all_cons, *])
theorem oSeq_as (a b c : En → Ot) : oSeq (oSeq a b) c = oSeq a (oSeq b c) := by
  funext η
  unfold oSeq
  cases a η <;> rfl
theorem bent_eq : b_law_bent = oSeq (oSet 2 (eCall 2 G_law_take (aOwn 0 (aCons (eB oLen (lCons (eVar 1) lNil)) aNil))))
    (oSeq (oAsg (gTp 4 (gCn (gNm 3) (gCn (gNm 4) (gCn (gNm 5) (gCn (gNm 6) gNl))))) (eBin oIx (eVar 1) (eVar 2)))
    (oSeq bentS1 (oSeq (oNew 8 (eLc [9] (iSeq (eVar 7)) (gNm 9) gYes (eBin oAdd (eBin oAdd (eSl (eVar 1) pNo (pSome (eVar 2))) (eNew (nLst (lCons (eVar 9) lNil)))) (eSl (eVar 1) (pSome (eBin oAdd (eVar 2) (eC (.int 1)))) pNo)))) bentS2))) := by
  unfold bentS1 bentS2
  simp only [oSeq_as]
  rfl
theorem log2_lt {b : Int} (h : b.natAbs < 2 ^ 200) : b.natAbs.log2 < 1920 := by
  by_cases e : b.natAbs = 0
  · rw [e]; decide
  · exact Nat.lt_of_lt_of_le ((Nat.log2_lt e).mpr h) (by decide)
theorem g_bent {es : List E4} {p : Int} (hp : 0 ≤ p) (hne : es ≠ []) (hl : es.length ≤ 1000) (hb : ∀ e ∈ es, e.1.natAbs < 2 ^ 200) : ∃ (i : Nat) (e : E4) (p' : Int), 0 ≤ p' ∧ es[i]? = some e ∧
    G_law_bent [.l 1 [.int p], .d (.list (es.map e4))] = .ok (.list (bentL (es.map e4) i e.1 e.2.1 e.2.2.1 e.2.2.2)) [some (.l 1 [.int p']), none] := by
  have h0 : 0 < es.length := List.length_pos_iff.mpr hne
  have hn : (0 : Int) < (es.length : Int) := by omega
  have d1 : 0 ≤ p % (es.length : Int) := Int.emod_nonneg _ (by omega)
  have d2 : p % (es.length : Int) < es.length := Int.emod_lt_of_pos _ hn
  obtain ⟨i, hi⟩ := Int.eq_ofNat_of_zero_le d1
  have hi' : i < es.length := by omega
  refine ⟨i, es[i], p / (es.length : Int), Int.ediv_nonneg hp (by omega), List.getElem?_eq_getElem hi', ?_⟩
  have hbi := hb es[i] (List.getElem_mem hi')
  have gi : (es.map e4)[i]? = some (e4 es[i]) := by rw [List.getElem?_map, List.getElem?_eq_getElem hi']; rfl
  generalize es[i] = e at *
  obtain ⟨b, e', f, l⟩ := e
  have hz : ((es.length : Int)).natAbs < 2 ^ 4000 := lt4000 (show (es.length : Int).natAbs < 2 ^ 200 by omega)
  generalize hxs : es.map e4 = xs at *
  have hxl : xs.length = es.length := by rw [← hxs, List.length_map]
  have t1 := take_in (η := [some (.l 1 [.int p]), some (.d (.list xs)), none, none, none, none, none, none, none, none]) (i := 0) (t := 1) (p := p) (n := (es.length : Int)) (ga := eB oLen (lCons (eVar 1) lNil)) rfl (by
    have : oLen [.list xs] = some (.int (es.length : Nat)) := by rw [← hxl]; rfl
    walk_at "evs") hn hz
  rw [hi] at t1
  have s1 := oSet_ok (i := 2) t1
  simp only [List.set_cons_succ, List.set_cons_zero] at s1
  have ix := oIx_at gi
  have s2 : oAsg (gTp 4 (gCn (gNm 3) (gCn (gNm 4) (gCn (gNm 5) (gCn (gNm 6) gNl))))) (eBin oIx (eVar 1) (eVar 2)) [some (.l 1 [.int (p / (es.length : Int))]), some (.d (.list xs)), some (.d (.int (i : Nat))), none, none, none, none, none, none, none] =
      .nx [some (.l 1 [.int (p / (es.length : Int))]), some (.d (.list xs)), some (.d (.int (i : Nat))), some (.d (.int b)), some (.d (.int e')), some (.d (.int f)), some (.d (.int l)), none, none, none] := by
    unfold e4 at ix
    walk_at "evs"
  have s3 := bent_s1 (A := some (.l 1 [.int (p / (es.length : Int))])) (B := some (.d (.list xs))) (C := some (.d (.int (i : Nat)))) (X := none) (b := b) (e := e') (f := f) (l := l) (log2_lt hbi)
  have s4' := bent_set7 (A := some (.l 1 [.int (p / (es.length : Int))])) (b := b) (e := e') (f := f) (l := l) (xs := xs) (i := i) (by omega) (by omega)
  have s4 : oNew 8 (eLc [9] (iSeq (eVar 7)) (gNm 9) gYes (eBin oAdd (eBin oAdd (eSl (eVar 1) pNo (pSome (eVar 2))) (eNew (nLst (lCons (eVar 9) lNil)))) (eSl (eVar 1) (pSome (eBin oAdd (eVar 2) (eC (.int 1)))) pNo)))
      [some (.l 1 [.int (p / (es.length : Int))]), some (.d (.list xs)), some (.d (.int (i : Nat))), some (.d (.int b)), some (.d (.int e')), some (.d (.int f)), some (.d (.int l)), some (.l 0 (odds b e' f l)), none, none] =
      .nx [some (.l 1 [.int (p / (es.length : Int))]), some (.d (.list xs)), some (.d (.int (i : Nat))), some (.d (.int b)), some (.d (.int e')), some (.d (.int f)), some (.d (.int l)), some (.d (.list (odds b e' f l))), some (.l 0 ((odds b e' f l).map fun o => .list (xs.take i ++ [o] ++ xs.drop (i + 1)))), none] := by
    simp only [oNew]
    walk_at "ev"
    rw [s4']
    walk_at "ev"
  obtain ⟨η', s5⟩ := bent_s2 (A := some (.l 1 [.int (p / (es.length : Int))])) (C := some (.d (.int b))) (D := some (.d (.int e'))) (E := some (.d (.int f))) (F := some (.d (.int l))) (G := some (.d (.list (odds b e' f l)))) (os := (odds b e' f l).map fun o => .list (xs.take i ++ [o] ++ xs.drop (i + 1))) (xs := xs) (i := i) (by omega) (by omega) (by rw [List.length_map]; rfl)
  have body : b_law_bent [some (.l 1 [.int p]), some (.d (.list xs)), none, none, none, none, none, none, none, none] = .rt (.list (bentL xs i b e' f l)) (some (.l 1 [.int (p / (es.length : Int))]) :: η') := by
    rw [bent_eq, oSeq_nx s1, oSeq_nx s2, oSeq_nx s3, oSeq_nx s4, s5]
    rfl
  exact fnOfL body rfl rfl
end My

namespace My
open PySem PySem.Spec PyProof.Rows L2 XR SX DA
local macro_rules | `(tactic| walk_at "evs") => `(tactic| simp (config := {decide := false}) only [fnOf, oSeq, Ot.seq, oSet, Rs.st, Rs.bind, eVar, eC, eBin, eUn, ofO, eAnd, eOr, eNot, eIf, oRet, oRetN, oIf, oNx, oAsg, gTp, gCn, gNm, gNl, lCons, lNil, lStar, eB, eNew, eLc, eLcX, iSeq, eCall, callO, aCons, aNil, aOwn, mkArgs, putB, apart, eTyIs, eIsi, eChain, eChain3, eTp, tOf, DA.tNot, tAndO, tOrO, DA.tTru, asB, pSome, pNo, eSl, oSl_list, oSl_tup, oRaise, nLst, nAdd, oNew, oDrop, eXat, eq_self, eCallN, eOwnIs, slNo, isNo, fits_ll, fits_kk, tag_l, tag_k, Bool.true_and, Bool.and_true, Bool.false_and, Bool.and_false, gdL, DA.isL, oApp,
  oAdd_int, oLe_int, oLt_int, oEq_int,
  List.map_cons, List.map_nil, List.length_cons, List.length_nil, List.length_append, List.length_map, List.replicate_succ, List.replicate_zero, List.cons_append, List.nil_append, List.set_cons_zero, List.set_cons_succ, List.getElem?_cons_zero, List.getElem?_cons_succ, exits, exitAt, Sl.own, Sl.retag, List.headD_cons, List.tail_cons, Option.map_some, Option.bind_some, if_true, if_false, Nat.sub_self, Nat.reduceAdd, Nat.reduceSub, Nat.zero_add, and_self, Bool.false_eq_true, reduceCtorEq, Bool.not_false, Bool.not_true, sz0, sz1, sz2, sz3, sz4, sz5, sz6, sz7, sz8, sz9, sz10, sz11, sz12, sz13, sz14, sz15, sz16, sz17, sz18, sz19, sz20, lz0, lz1, lz2, lz3, lz4, lz5, lz6, lz7, lz8, lz9, lz10, lz11, lz12, lz13, lz14, lz15, lz16, lz17, lz18, lz19, lz20, lz21, lz22, lz23, lz24, lz25, lz26, lz27, lz28, lz29, lz30, sz21, sz22, sz23, sz24, sz25, sz26, sz27, sz28, sz29, sz30, and_true, true_and, ite_true, ite_false, decide_true, decide_false, List.all_nil, List.all_cons, *])
theorem is_map_at {d : PyData} {x y : Str} {rows : List Ent} {b : Bool} (hw : G_words [.d (.str x)] = .ok (.list (rows.map entD)) [none]) (hd : mapOk d = true) (hy : y.length ≤ 1000) (hr : rows.length ≤ 1001) (hrw : ∀ r ∈ rows, r.2.1.length ≤ 5) (hb : mapB d rows y.length = b) :
    G_is_map [.d d, .d (.str x), .d (.str y)] = .ok (.bool b) [none, none, none] := by
  have z : (1001 : Nat) ≤ sizeLine := by decide
  have h := g_is_map (t := codes y) hw hd (by rw [codes_len]; omega) (by omega) (fun r h => by have := hrw r h; omega)
  rw [S_codes, codes_len, hb] at h
  exact h
theorem entOk_e4 (e : E4) : entOk (e4 e) = true := by
  show (decide ((4 : Nat) ≤ sizeLine) && true) = true
  rw [decide_eq_true (by decide)]
  rfl
theorem mapOk_list {xs : List PyData} (hl : xs.length ≤ 1001) (h : ∀ x ∈ xs, entOk x = true) : mapOk (.list xs) = true := by
  have z : (1001 : Nat) ≤ sizeLine := by decide
  show (decide (xs.length ≤ sizeLine) && xs.all entOk) = true
  rw [decide_eq_true (by omega), List.all_eq_true.mpr h]
  rfl
theorem odds_ok {b e f l : Int} : ∀ o ∈ odds b e f l, entOk o = true := by
  intro o ho
  have z3 : decide ((3 : Nat) ≤ sizeLine) = true := by decide
  have z4 : decide ((4 : Nat) ≤ sizeLine) = true := by decide
  have z5 : decide ((5 : Nat) ≤ sizeLine) = true := by decide
  simp only [odds, List.mem_cons, List.not_mem_nil, or_false] at ho
  rcases ho with rfl | rfl | rfl | rfl | rfl | rfl | rfl | rfl | rfl | rfl | rfl | rfl | rfl
  all_goals first
    | rfl
    | (show (decide ((4 : Nat) ≤ sizeLine) && true) = true; rw [z4]; rfl)
    | (show (decide ((3 : Nat) ≤ sizeLine) && true) = true; rw [z3]; rfl)
    | (show (decide ((5 : Nat) ≤ sizeLine) && true) = true; rw [z5]; rfl)
/-- each bent thing is no map -/
theorem bent_bad {es : List E4} {rows : List Ent} {n i : Nat} {e : E4} (hm : MapOf n rows es) (hn : n ≤ 1000) (hl : rows.length ≤ 1000) (hp : rows.Pairwise fun r r' => r.2.2 < r'.2.2) (he : es[i]? = some e) :
    ∀ d ∈ bentL (es.map e4) i e.1 e.2.1 e.2.2.1 e.2.2.2, mapOk d = true ∧ mapB d rows n = false := by
  have hel : es.length = rows.length := hm.len
  obtain ⟨hi, hei⟩ := List.getElem?_eq_some_iff.mp he
  have hir : i < rows.length := by omega
  have hxl : (es.map e4).length = rows.length := by rw [List.length_map, hel]
  have en : entOfB e rows[i] n = true := by
    obtain ⟨e', h1, h2⟩ := hm.at (List.getElem?_eq_getElem hir)
    rw [he] at h1
    cases h1
    exact h2
  have exs : ∀ x ∈ es.map e4, entOk x = true := fun x hx => by
    obtain ⟨e', _, rfl⟩ := List.mem_map.mp hx
    exact entOk_e4 e'
  have gd : ∀ k, k < rows.length → entOk ((es.map e4).getD k .none) = true := fun k hk => by
    rw [List.getD_eq_getElem?_getD, List.getElem?_eq_getElem (by rw [hxl]; exact hk)]
    exact exs _ (List.getElem_mem _)
  generalize hxs : es.map e4 = xs at *
  have tk : ∀ k, ∀ x ∈ xs.take k, entOk x = true := fun k x hx => exs x (List.mem_of_mem_take hx)
  have dr : ∀ k, ∀ x ∈ xs.drop k, entOk x = true := fun k x hx => exs x (List.mem_of_mem_drop hx)
  intro d hd
  unfold bentL at hd
  rcases List.mem_append.mp hd with hd | hd
  · rcases List.mem_append.mp hd with hd | hd
    · obtain ⟨o, ho, rfl⟩ := List.mem_map.mp hd
      refine ⟨mapOk_list ?_ fun x hx => ?_, bent_set hxl hir (odds_bad en (by omega) o ho)⟩
      · rw [set_split (by omega), List.length_set]; omega
      · rcases List.mem_append.mp hx with hx | hx
        · rcases List.mem_append.mp hx with hx | hx
          · exact tk _ x hx
          · rw [List.mem_singleton] at hx
            subst hx
            exact odds_ok _ ho
        · exact dr _ x hx
    · simp only [List.mem_cons, List.not_mem_nil, or_false] at hd
      rcases hd with rfl | rfl | rfl | rfl | rfl | rfl
      · refine ⟨mapOk_list ?_ fun x hx => ?_, mapB_len ?_⟩
        · rw [List.length_append, List.length_take, List.length_drop]; omega
        · rcases List.mem_append.mp hx with hx | hx
          · exact tk _ x hx
          · exact dr _ x hx
        · rw [List.length_append, List.length_take, List.length_drop]; omega
      · refine ⟨mapOk_list ?_ fun x hx => ?_, mapB_len ?_⟩
        · rw [List.length_append, List.length_take, List.length_drop]; omega
        · rcases List.mem_append.mp hx with hx | hx
          · exact tk _ x hx
          · exact dr _ x hx
        · rw [List.length_append, List.length_take, List.length_drop]; omega
      · exact ⟨rfl, rfl⟩
      · exact ⟨rfl, rfl⟩
      · exact ⟨rfl, rfl⟩
      · exact ⟨rfl, rfl⟩
  · by_cases h0 : 0 < i
    · rw [if_pos h0, List.mem_singleton] at hd
      subst hd
      obtain ⟨k, rfl⟩ : ∃ k, i = k + 1 := ⟨i - 1, by omega⟩
      refine ⟨mapOk_list ?_ fun x hx => ?_, ?_⟩
      · rw [List.length_append, List.length_append, List.length_take, List.length_drop]; show _ + 2 + _ ≤ _; omega
      · rcases List.mem_append.mp hx with hx | hx
        · rcases List.mem_append.mp hx with hx | hx
          · exact tk _ x hx
          · simp only [List.mem_cons, List.not_mem_nil, or_false] at hx
            rcases hx with rfl | rfl
            · exact gd _ hir
            · exact gd _ (by omega)
        · exact dr _ x hx
      · refine swap_bad (i := k) (r := rows[k]'(by omega)) (r' := rows[k + 1]) hm hp (List.getElem?_eq_getElem _) (List.getElem?_eq_getElem _) fun e2 h2 => ?_
        rw [he] at h2
        cases h2
        rw [show k + 1 - 1 = k from rfl, List.append_assoc, List.getElem?_append_right (by rw [List.length_take]; omega)]
        have : k - (xs.take k).length = 0 := by rw [List.length_take]; omega
        rw [this]
        show some (xs.getD (k + 1) .none) = some (e4 e)
        rw [List.getD_eq_getElem?_getD, ← hxs, List.getElem?_map, he]
        rfl
    · rw [if_neg h0] at hd
      cases hd
theorem mapE_const {c : PyData} : ∀ xs : List PyData, mapE (fun _ => some c) xs = some (xs.map fun _ => c)
  | [] => rfl
  | x :: xs => by
    unfold mapE
    rw [mapE_const xs]
    rfl
theorem oAll_true (xs : List PyData) : oAll [.list (xs.map fun _ => .bool true)] = some (.bool true) := by
  unfold oAll
  dsimp only
  rw [bools_map (fun _ => true) xs]
  show some (PyData.bool _) = _
  rw [show ((xs.map fun _ => true).all fun b => b) = true from List.all_eq_true.mpr fun b hb => by
    obtain ⟨_, _, rfl⟩ := List.mem_map.mp hb
    rfl]
theorem g_map_good {p : Int} {x y : Str} {rows : List Ent} {es : List E4} (hp : 0 ≤ p) (hR : Reads x rows) (hx : x.length ≤ 900) (hy : y.length ≤ 1000) (hm : MapOf y.length rows es) (hl : rows.length ≤ 1000) (hr : ∀ r ∈ rows, r.2.1.length ≤ 5 ∧ r.2.2 + r.2.1.length ≤ x.length) (hpw : rows.Pairwise fun r r' => r.2.2 < r'.2.2) :
    ∃ p', 0 ≤ p' ∧ G_law_map_good [.l 1 [.int p], .d (.str x), .d (.str y), .d (.list (es.map e4))] = .ok (.bool true) [some (.l 1 [.int p']), none, none, none] := by
  have hel : es.length = rows.length := hm.len
  have w1 := w_self hR (by omega)
  have w2 := w_more hR (by omega)
  have w3 := w_ahead hR (by omega)
  have hr5 : ∀ r ∈ rows, r.2.1.length ≤ 5 := fun r h => (hr r h).1
  have ok1 : mapOk (.list (es.map e4)) = true := mapOk_list (by rw [List.length_map]; omega) fun x hx => by
    obtain ⟨e', _, rfl⟩ := List.mem_map.mp hx
    exact entOk_e4 e'
  have m1 := is_map_at w1 ok1 hy (by omega) hr5 hm.good
  have c1 : permI [1, 2, 0] [.str y, .list (es.map e4), .str x] = [.list (es.map e4), .str x, .str y] := rfl
  have i1 : oNis (.bool true) (.bool true) = some (.bool false) := rfl
  have i2 : oIs (.bool false) (.bool false) = some (.bool true) := rfl
  have q := (eq_nil e4 e4_lay es).1
  by_cases hne : es = []
  · subst hne
    have hrn : rows = [] := List.length_eq_zero_iff.mp (by rw [← hel]; rfl)
    subst hrn
    have m2 := is_map_at (d := .list [.tuple [.int 0, .int 1, .int 0, .int 0]]) w1 (mapOk_list (by decide) fun x hx => by rw [List.mem_singleton] at hx; subst hx; exact entOk_e4 (0, 1, 0, 0)) hy (by decide) hr5 (mapB_len (by decide))
    refine ⟨p, hp, ?_⟩
    simp only [List.map_nil] at m1 c1 q ⊢
    simp only [List.isEmpty_nil] at q
    clear w1 w2 w3 hr hr5 hpw hm hR ok1
    unfold G_law_map_good b_law_map_good
    walk_at "evs"
  · obtain ⟨i, e, p', hp', he, hb⟩ := g_bent hp hne (by omega) fun e he => by
      obtain ⟨k, hk⟩ := List.getElem?_of_mem he
      have hkr : k < rows.length := by have := (List.getElem?_eq_some_iff.mp hk).1; omega
      obtain ⟨e', h1, h2⟩ := hm.at (List.getElem?_eq_getElem hkr)
      rw [hk] at h1
      cases h1
      have := ent_begin h2
      have h3 := hr rows[k] (List.getElem_mem hkr)
      have : e.1.natAbs ≤ 1000 := by omega
      exact Nat.lt_of_le_of_lt this (by decide)
    have k1 := entOk_e4 e
    have q' : oEq (.list (es.map e4)) (.list []) = some (.bool false) := by
      rw [q]
      cases es with
      | nil => exact (hne rfl).elim
      | cons a r => rfl
    have hrne : rows ≠ [] := fun h => hne (List.length_eq_zero_iff.mp (by rw [hel, h]; rfl))
    have m3 := is_map_at (y := y) w2 ok1 hy (by rw [List.length_append]; show _ + 1 ≤ _; omega) (fun r h => by
      rcases List.mem_append.mp h with h | h
      · exact hr5 r h
      · rw [List.mem_singleton] at h
        subst h
        show (1 : Nat) ≤ 5
        decide) (mapB_len (by rw [List.length_map, List.length_append]; show _ ≠ _ + 1; omega))
    have m4 := is_map_at (y := y) w3 ok1 hy (by rw [List.length_map]; omega) (fun r h => by
      obtain ⟨r', h', rfl⟩ := List.mem_map.mp h
      exact hr5 r' h') (ahead_bad hm hrne)
    have z : (1000 : Nat) ≤ sizeLine := by decide
    have a1 : oAdd (.str x) (.str " a") = some (.str (x ++ " a")) := oAdd_str (by show x.length + 2 ≤ _; omega)
    have a2 : oAdd (.str " ") (.str x) = some (.str (" " ++ x)) := oAdd_str (by show 1 + x.length ≤ _; omega)
    have bb := bent_bad hm hy hl hpw he
    have blen : (bentL (es.map e4) i e.1 e.2.1 e.2.2.1 e.2.2.2).length ≤ sizeLine := by
      have : (bentL (es.map e4) i e.1 e.2.1 e.2.2.1 e.2.2.2).length ≤ 20 := by
        unfold bentL
        rw [List.length_append, List.length_append, List.length_map]
        have : (odds e.1 e.2.1 e.2.2.1 e.2.2.2).length = 13 := rfl
        rw [this]
        split <;> simp
      exact Nat.le_trans this (by decide)
    generalize bentL (es.map e4) i e.1 e.2.1 e.2.2.1 e.2.2.2 = bs at *
    have lx := lcX_fm (vs := [4]) (g := gNm 4) (ge := eBin oIs (eCall 3 G_is_map (aCons (eVar 4) (aCons (eVar 1) (aCons (eVar 2) aNil)))) (eC (.bool false))) (η0 := [some (.l 1 [.int p']), some (.d (.str x)), some (.d (.str y)), some (.d (.list (es.map e4))), none]) (f := fun _ => some (.bool true)) (n := 0) (as := []) rfl bs [] (by simpa using blen) fun d hd => by
      have md := is_map_at w1 (bb d hd).1 hy (by omega) hr5 (bb d hd).2
      clear q m1 m3 m4 a1 a2 c1 ok1 bb w1 w2 w3 hr hr5 hpw hm hR hb k1 he q'
      refine ⟨[some (.l 1 [.int p']), some (.d (.str x)), some (.d (.str y)), some (.d (.list (es.map e4))), some (.d d)], rfl, ?_, rfl⟩
      walk_at "evs"
    rw [mapE_const] at lx
    dsimp only at lx
    rw [List.nil_append] at lx
    have al := oAll_true bs
    refine ⟨p', hp', ?_⟩
    clear w1 w2 w3 hr hr5 hpw hm hR ok1 q bb hrne he k1
    unfold G_law_map_good b_law_map_good
    walk_at "evs"
end My

namespace My
open PySem PySem.Spec PyProof.Rows L2 XR SX DA
local macro_rules | `(tactic| walk_at "evs") => `(tactic| simp (config := {decide := false}) only [fnOf, oSeq, Ot.seq, oSet, Rs.st, Rs.bind, eVar, eC, eBin, eUn, ofO, eAnd, eOr, eNot, eIf, oRet, oRetN, oIf, oNx, oAsg, gTp, gCn, gNm, gNl, lCons, lNil, lStar, eB, eNew, eLc, eLcX, iSeq, eCall, callO, aCons, aNil, aOwn, mkArgs, putB, apart, eTyIs, eIsi, eChain, eChain3, eTp, tOf, DA.tNot, tAndO, tOrO, DA.tTru, asB, pSome, pNo, eSl, oSl_list, oSl_tup, oRaise, nLst, nAdd, oNew, oDrop, eXat, eq_self, eCallN, eOwnIs, slNo, isNo, fits_ll, fits_kk, tag_l, tag_k, Bool.true_and, Bool.and_true, Bool.false_and, Bool.and_false, gdL, DA.isL, oApp,
  oAdd_int, oLe_int, oLt_int, oEq_int,
  List.map_cons, List.map_nil, List.length_cons, List.length_nil, List.length_append, List.length_map, List.replicate_succ, List.replicate_zero, List.cons_append, List.nil_append, List.set_cons_zero, List.set_cons_succ, List.getElem?_cons_zero, List.getElem?_cons_succ, exits, exitAt, Sl.own, Sl.retag, List.headD_cons, List.tail_cons, Option.map_some, Option.bind_some, if_true, if_false, Nat.sub_self, Nat.reduceAdd, Nat.reduceSub, Nat.zero_add, and_self, Bool.false_eq_true, reduceCtorEq, Bool.not_false, Bool.not_true, sz0, sz1, sz2, sz3, sz4, sz5, sz6, sz7, sz8, sz9, sz10, sz11, sz12, sz13, sz14, sz15, sz16, sz17, sz18, sz19, sz20, lz0, lz1, lz2, lz3, lz4, lz5, lz6, lz7, lz8, lz9, lz10, lz11, lz12, lz13, lz14, lz15, lz16, lz17, lz18, lz19, lz20, lz21, lz22, lz23, lz24, lz25, lz26, lz27, lz28, lz29, lz30, sz21, sz22, sz23, sz24, sz25, sz26, sz27, sz28, sz29, sz30, and_true, true_and, ite_true, ite_false, decide_true, decide_false, List.all_nil, List.all_cons, *])
variable {cs : Nat → Addr} {nms : Nat → Option (List Str)}
/-! ### what is led after -/
def unI : PyData → Int
  | .int i => i
  | _ => 0
theorem un_int (ps : List Int) : (ps.map PyData.int).map unI = ps := by
  rw [List.map_map]
  exact List.map_id'' (fun _ => rfl) ps
theorem filt_int (p : Int → Bool) (ps : List Int) : ((ps.map PyData.int).filter fun x => p (unI x)) = (ps.filter p).map PyData.int := by
  rw [List.filter_map]
  rfl
theorem rng_ints (a b : Int) : rngD a b = (intsIn a b).map PyData.int := rng_eq a b
def aftIn : En → Ot := (oIf (tOf (eBin oNe (eNew (eLc [10] (iRg2 (eVar 6) (eVar 7)) (gNm 10) (tOf (eChain oLe oLt (eBin oIx (eVar 9) (eC (.int 0))) (eVar 10) (eBin oIx (eVar 9) (eC (.int 1))))) (eVar 10))) (eNew (nLst lNil)))) (oDrop (gdL 8 (oApp 8 (eSl (eVar 9) (pSome (eC (.int 2))) pNo)))) oNx)
theorem int_lay (i : Int) : (PyData.int i).canLay0 = true ∧ (PyData.int i).depth ≤ 1 := ⟨rfl, Nat.zero_le _⟩
def small (e : E4) : Prop := 0 ≤ e.1 ∧ e.1 ≤ 2000 ∧ 0 ≤ e.2.1 ∧ e.2.1 ≤ 2000 ∧ 0 ≤ e.2.2.1 ∧ e.2.2.1 ≤ 2000 ∧ 0 ≤ e.2.2.2 ∧ e.2.2.2 ≤ 2000
theorem aft_in {A B C D E F J K L M : Option Sl} {f l : Int} {acc : List PyData} {e : E4} (hf : 0 ≤ f ∧ f ≤ 2000) (hl : 0 ≤ l ∧ l ≤ 2000) (ha : acc.length < 3000) :
    aftIn [A, B, C, D, E, F, some (.d (.int f)), some (.d (.int l)), some (.l 0 acc), some (.d (e4 e)), none, J, K, L] = .nx [A, B, C, D, E, F, some (.d (.int f)), some (.d (.int l)), some (.l 0 (if max e.1 f < min e.2.1 l then acc ++ [p2 (e.2.2.1, e.2.2.2)] else acc)), some (.d (e4 e)), none, J, K, L] := by
  have z : (3000 : Nat) ≤ sizeLine := by decide
  have e1 := lcO_fm (vs := [10]) (g := gNm 10) (gt := tOf (eChain oLe oLt (eBin oIx (eVar 9) (eC (.int 0))) (eVar 10) (eBin oIx (eVar 9) (eC (.int 1))))) (ge := eVar 10) (η0 := [A, B, C, D, E, F, some (.d (.int f)), some (.d (.int l)), some (.l 0 acc), some (.d (e4 e)), none, J, K, L])
    (p := fun x => decide (e.1 ≤ unI x) && decide (unI x < e.2.1)) (f := fun x => x) rfl ((intsIn f l).map PyData.int) [] (by rw [List.length_map]; unfold intsIn; rw [List.length_map, List.length_range]; show 0 + _ ≤ _; omega) fun x hx => by
      obtain ⟨i, _, rfl⟩ := List.mem_map.mp hx
      refine ⟨[A, B, C, D, E, F, some (.d (.int f)), some (.d (.int l)), some (.l 0 acc), some (.d (e4 e)), some (.d (.int i)), J, K, L], rfl, ?_, fun _ => rfl, rfl⟩
      have i0 : oIx (e4 e) (.int 0) = some (.int e.1) := rfl
      have i1 : oIx (e4 e) (.int 1) = some (.int e.2.1) := rfl
      have u : unI (.int i) = i := rfl
      by_cases h1 : e.1 ≤ i
      · walk_at "evs"
      · walk_at "evs"
  rw [List.nil_append, List.map_id', filt_int (fun i => decide (e.1 ≤ i) && decide (i < e.2.1))] at e1
  have q := (eq_nil PyData.int int_lay ((intsIn f l).filter fun i => decide (e.1 ≤ i) && decide (i < e.2.1))).2
  rw [meets, Bool.not_not] at q
  have r : rngOk f l = true := by
    unfold rngOk
    simp only [Bool.and_eq_true, decide_eq_true_eq]
    omega
  have rr := rng_ints f l
  have rg := iRg2_ok (ga := eVar 6) (gb := eVar 7) (η := [A, B, C, D, E, F, some (.d (.int f)), some (.d (.int l)), some (.l 0 acc), some (.d (e4 e)), none, J, K, L]) (i := f) (j := l) rfl rfl r
  rw [rr] at rg
  generalize (intsIn f l).map PyData.int = ps at *
  generalize ((intsIn f l).filter fun i => decide (e.1 ≤ i) && decide (i < e.2.1)).map PyData.int = qs at *
  have sl : oSl (e4 e) (some 2) none = some (p2 (e.2.2.1, e.2.2.2)) := rfl
  have za : (acc.length < sizeLine) = True := eq_true (by omega)
  clear r rr hf hl ha z
  unfold aftIn
  by_cases hm : max e.1 f < min e.2.1 l
  · rw [decide_eq_true hm] at q
    rw [if_pos hm]
    clear hm
    walk_at "evs"
  · rw [decide_eq_false hm] at q
    rw [if_neg hm]
    clear hm
    walk_at "evs"
end My

namespace My
open PySem PySem.Spec PyProof.Rows L2 XR SX DA
local macro_rules | `(tactic| walk_at "evs") => `(tactic| simp (config := {decide := false}) only [fnOf, oSeq, Ot.seq, oSet, Rs.st, Rs.bind, eVar, eC, eBin, eUn, ofO, eAnd, eOr, eNot, eIf, oRet, oRetN, oIf, oNx, oAsg, gTp, gCn, gNm, gNl, lCons, lNil, lStar, eB, eNew, eLc, eLcX, iSeq, eCall, callO, aCons, aNil, aOwn, mkArgs, putB, apart, eTyIs, eIsi, eChain, eChain3, eTp, tOf, DA.tNot, tAndO, tOrO, DA.tTru, asB, pSome, pNo, eSl, oSl_list, oSl_tup, oRaise, nLst, nAdd, oNew, oDrop, eXat, eq_self, eCallN, eOwnIs, slNo, isNo, fits_ll, fits_kk, tag_l, tag_k, Bool.true_and, Bool.and_true, Bool.false_and, Bool.and_false, gdL, DA.isL, oApp,
  oAdd_int, oLe_int, oLt_int, oEq_int,
  List.map_cons, List.map_nil, List.length_cons, List.length_nil, List.length_append, List.length_map, List.replicate_succ, List.replicate_zero, List.cons_append, List.nil_append, List.set_cons_zero, List.set_cons_succ, List.getElem?_cons_zero, List.getElem?_cons_succ, exits, exitAt, Sl.own, Sl.retag, List.headD_cons, List.tail_cons, Option.map_some, Option.bind_some, if_true, if_false, Nat.sub_self, Nat.reduceAdd, Nat.reduceSub, Nat.zero_add, and_self, Bool.false_eq_true, reduceCtorEq, Bool.not_false, Bool.not_true, sz0, sz1, sz2, sz3, sz4, sz5, sz6, sz7, sz8, sz9, sz10, sz11, sz12, sz13, sz14, sz15, sz16, sz17, sz18, sz19, sz20, lz0, lz1, lz2, lz3, lz4, lz5, lz6, lz7, lz8, lz9, lz10, lz11, lz12, lz13, lz14, lz15, lz16, lz17, lz18, lz19, lz20, lz21, lz22, lz23, lz24, lz25, lz26, lz27, lz28, lz29, lz30, sz21, sz22, sz23, sz24, sz25, sz26, sz27, sz28, sz29, sz30, and_true, true_and, ite_true, ite_false, decide_true, decide_false, List.all_nil, List.all_cons, *])
variable {cs : Nat → Addr} {nms : Nat → Option (List Str)}
theorem aft_loop {A B C D E F J K L : Option Sl} {f l : Int} (hf : 0 ≤ f ∧ f ≤ 2000) (hl : 0 ≤ l ∧ l ≤ 2000) : ∀ (two : List E4) (acc : List PyData) (x : Option Sl), acc.length + two.length ≤ 3000 → ∃ x',
    forO (gNm 9) aftIn (two.map e4) [A, B, C, D, E, F, some (.d (.int f)), some (.d (.int l)), some (.l 0 acc), x, none, J, K, L] = .nx [A, B, C, D, E, F, some (.d (.int f)), some (.d (.int l)), some (.l 0 (acc ++ (metF two f l).map p2)), x', none, J, K, L]
  | [], acc, x, _ => ⟨x, by rw [show acc ++ (metF [] f l).map p2 = acc from List.append_nil acc]; rfl⟩
  | e :: two, acc, x, hz => by
    rw [List.length_cons] at hz
    have st := aft_in (A := A) (B := B) (C := C) (D := D) (E := E) (F := F) (J := J) (K := K) (L := L) (M := none) (f := f) (l := l) (acc := acc) (e := e) hf hl (by omega)
    obtain ⟨x', ih⟩ := aft_loop (A := A) (B := B) (C := C) (D := D) (E := E) (F := F) (J := J) (K := K) (L := L) hf hl two (if max e.1 f < min e.2.1 l then acc ++ [p2 (e.2.2.1, e.2.2.2)] else acc) (some (.d (e4 e))) (by
      split
      · rw [List.length_append]; show _ + 1 + _ ≤ _; omega
      · omega)
    refine ⟨x', ?_⟩
    rw [List.map_cons]
    unfold forO
    simp only [gNm, List.set_cons_succ, List.set_cons_zero]
    rw [st]
    dsimp only
    rw [ih]
    congr 7
    unfold metF
    by_cases hm : max e.1 f < min e.2.1 l
    · rw [if_pos hm, List.filter_cons_of_pos (by rw [decide_eq_true hm]), List.append_assoc]
      rfl
    · rw [if_neg hm, List.filter_cons_of_neg (by rw [decide_eq_false hm]; decide)]
def aftOut : En → Ot := (oSeq (oNew 8 (nLst lNil))
    (oSeq (oFor (iSeq (eVar 1)) (gNm 9) aftIn)
    (oIf (tAndO (tOf (eBin oNe (eVar 8) (eNew (nLst lNil)))) (tOf (eOwnIs true 3))) (oDrop (gdL 3 (oApp 3 (eTp (lCons (eVar 4) (lCons (eVar 5) (lCons (eB oMin (lCons (eNew (eLc [11] (iSeq (eVar 8)) (gNm 11) gYes (eBin oIx (eVar 11) (eC (.int 0))))) lNil)) (lCons (eB oMax (lCons (eNew (eLc [11] (iSeq (eVar 8)) (gNm 11) gYes (eBin oIx (eVar 11) (eC (.int 1))))) lNil)) lNil)))))))) (oSet 3 (eC .none)))))
def dueS : Option (List E4) → Option Sl
  | none => some (.d .none)
  | some xs => some (.l 0 (xs.map e4))
def dueN (two : List E4) (e : E4) (due : Option (List E4)) : Option (List E4) := match stretchF two e.2.2.1 e.2.2.2, due with
  | some r, some xs => some (xs ++ [(e.1, e.2.1, r.1, r.2)])
  | _, _ => none
theorem aft_out {one : PyData} {two : List E4} {C J K L M8 x9 : Option Sl} {e : E4} (due : Option (List E4)) (hs : small e) (h2 : two.length ≤ 1000) (hd : ∀ xs, due = some xs → xs.length < 3000) :
    ∃ m8 m9, aftOut [some (.d one), some (.d (.list (two.map e4))), C, dueS due, some (.d (.int e.1)), some (.d (.int e.2.1)), some (.d (.int e.2.2.1)), some (.d (.int e.2.2.2)), M8, x9, none, none, K, L] =
      .nx [some (.d one), some (.d (.list (two.map e4))), C, dueS (dueN two e due), some (.d (.int e.1)), some (.d (.int e.2.1)), some (.d (.int e.2.2.1)), some (.d (.int e.2.2.2)), m8, m9, none, none, K, L] := by
  have z : (3000 : Nat) ≤ sizeLine := by decide
  obtain ⟨b, e', f, l⟩ := e
  obtain ⟨_, _, _, _, s1, s2, s3, s4⟩ := hs
  dsimp only at s1 s2 s3 s4 ⊢
  obtain ⟨x', lp⟩ := aft_loop (A := some (.d one)) (B := some (.d (.list (two.map e4)))) (C := C) (D := dueS due) (E := some (.d (.int b))) (F := some (.d (.int e'))) (J := none) (K := K) (L := L) ⟨s1, s2⟩ ⟨s3, s4⟩ two [] x9 (by simp; omega)
  rw [List.nil_append] at lp
  have ms : (metF two f l).length ≤ 1000 := by
    unfold metF
    rw [List.length_map]
    exact Nat.le_trans (List.length_filter_le _ _) h2
  have q := (eq_nil p2 p2_lay (metF two f l)).2
  have st1 : oNew 8 (nLst lNil) [some (.d one), some (.d (.list (two.map e4))), C, dueS due, some (.d (.int b)), some (.d (.int e')), some (.d (.int f)), some (.d (.int l)), M8, x9, none, none, K, L] = .nx [some (.d one), some (.d (.list (two.map e4))), C, dueS due, some (.d (.int b)), some (.d (.int e')), some (.d (.int f)), some (.d (.int l)), some (.l 0 []), x9, none, none, K, L] := rfl
  have st2 := oFor_ok (gi := iSeq (eVar 1)) (η := [some (.d one), some (.d (.list (two.map e4))), C, dueS due, some (.d (.int b)), some (.d (.int e')), some (.d (.int f)), some (.d (.int l)), some (.l 0 []), x9, none, none, K, L]) rfl lp
  unfold aftOut
  rw [oSeq_nx st1, oSeq_nx st2]
  clear lp st1 st2
  unfold dueN stretchF
  by_cases hm : metF two f l = []
  · rw [hm] at q ⊢
    simp only [List.map_nil, List.isEmpty_nil, Bool.not_true] at q
    rw [if_pos rfl]
    refine ⟨some (.d (.list [])), x', ?_⟩
    clear s1 s2 s3 s4 h2 hd ms z hm
    simp only [dueS]
    walk_at "evs"
  · rw [if_neg hm]
    have q' : oNe (.list ((metF two f l).map p2)) (.list []) = some (.bool true) := by
      rw [q]
      cases hh : metF two f l with
      | nil => exact (hm hh).elim
      | cons a r => rfl
    cases due with
    | none =>
      refine ⟨some (.d (.list ((metF two f l).map p2))), x', ?_⟩
      clear s1 s2 s3 s4 h2 hd ms z hm q
      simp only [dueS]
      walk_at "evs"
    | some xs =>
      have lxs := hd xs rfl
      have za : ((xs.map e4).length < sizeLine) = True := eq_true (by rw [List.length_map]; omega)
      refine ⟨some (.d (.list ((metF two f l).map p2))), x', ?_⟩
      have mn := oMin_map (·.1) hm
      have mx := oMax_map (·.2) hm
      have c1 : lcO [11] (gNm 11) gYes (eBin oIx (eVar 11) (eC (.int 0))) ((metF two f l).map p2) [] [some (.d one), some (.d (.list (two.map e4))), C, dueS (some xs), some (.d (.int b)), some (.d (.int e')), some (.d (.int f)), some (.d (.int l)), some (.d (.list ((metF two f l).map p2))), x', none, none, K, L] =
          .ok (((metF two f l).map p2).map fstD) [some (.d one), some (.d (.list (two.map e4))), C, dueS (some xs), some (.d (.int b)), some (.d (.int e')), some (.d (.int f)), some (.d (.int l)), some (.d (.list ((metF two f l).map p2))), x', none, none, K, L] := by
        refine lcO_map rfl _ (by rw [List.length_map]; omega) fun x hx => ?_
        obtain ⟨r, _, rfl⟩ := List.mem_map.mp hx
        exact ⟨[some (.d one), some (.d (.list (two.map e4))), C, dueS (some xs), some (.d (.int b)), some (.d (.int e')), some (.d (.int f)), some (.d (.int l)), some (.d (.list ((metF two f l).map p2))), x', none, some (.d (p2 r)), K, L], rfl, rfl, rfl⟩
      have c2 : lcO [11] (gNm 11) gYes (eBin oIx (eVar 11) (eC (.int 1))) ((metF two f l).map p2) [] [some (.d one), some (.d (.list (two.map e4))), C, dueS (some xs), some (.d (.int b)), some (.d (.int e')), some (.d (.int f)), some (.d (.int l)), some (.d (.list ((metF two f l).map p2))), x', none, none, K, L] =
          .ok (((metF two f l).map p2).map sndD) [some (.d one), some (.d (.list (two.map e4))), C, dueS (some xs), some (.d (.int b)), some (.d (.int e')), some (.d (.int f)), some (.d (.int l)), some (.d (.list ((metF two f l).map p2))), x', none, none, K, L] := by
        refine lcO_map rfl _ (by rw [List.length_map]; omega) fun x hx => ?_
        obtain ⟨r, _, rfl⟩ := List.mem_map.mp hx
        exact ⟨[some (.d one), some (.d (.list (two.map e4))), C, dueS (some xs), some (.d (.int b)), some (.d (.int e')), some (.d (.int f)), some (.d (.int l)), some (.d (.list ((metF two f l).map p2))), x', none, some (.d (p2 r)), K, L], rfl, rfl, rfl⟩
      have m1 : ((metF two f l).map p2).map fstD = (metF two f l).map fun r => .int r.1 := by rw [List.map_map]; rfl
      have m2 : ((metF two f l).map p2).map sndD = (metF two f l).map fun r => .int r.2 := by rw [List.map_map]; rfl
      rw [m1] at c1
      rw [m2] at c2
      simp only [dueS, List.map_append, List.map_cons, List.map_nil] at c1 c2 ⊢
      generalize (metF two f l).map (fun r => PyData.int r.1) = l1 at *
      generalize (metF two f l).map (fun r => PyData.int r.2) = l2 at *
      generalize (metF two f l).map p2 = l3 at *
      clear s1 s2 s3 s4 h2 hd ms z hm q m1 m2
      generalize two.map e4 = tw at *
      generalize xs.map e4 = ys at *
      unfold e4
      walk_at "evs"
end My

namespace My
open PySem PySem.Spec PyProof.Rows L2 XR SX DA
local macro_rules | `(tactic| walk_at "evs") => `(tactic| simp (config := {decide := false}) only [fnOf, oSeq, Ot.seq, oSet, Rs.st, Rs.bind, eVar, eC, eBin, eUn, ofO, eAnd, eOr, eNot, eIf, oRet, oRetN, oIf, oNx, oAsg, gTp, gCn, gNm, gNl, lCons, lNil, lStar, eB, eNew, eLc, eLcX, iSeq, eCall, callO, aCons, aNil, aOwn, mkArgs, putB, apart, eTyIs, eIsi, eChain, eChain3, eTp, tOf, DA.tNot, tAndO, tOrO, DA.tTru, asB, pSome, pNo, eSl, oSl_list, oSl_tup, oRaise, nLst, nAdd, oNew, oDrop, eXat, eq_self, eCallN, eOwnIs, slNo, isNo, fits_ll, fits_kk, tag_l, tag_k, Bool.true_and, Bool.and_true, Bool.false_and, Bool.and_false, gdL, DA.isL, oApp,
  oAdd_int, oLe_int, oLt_int, oEq_int,
  List.map_cons, List.map_nil, List.length_cons, List.length_nil, List.length_append, List.length_map, List.replicate_succ, List.replicate_zero, List.cons_append, List.nil_append, List.set_cons_zero, List.set_cons_succ, List.getElem?_cons_zero, List.getElem?_cons_succ, exits, exitAt, Sl.own, Sl.retag, List.headD_cons, List.tail_cons, Option.map_some, Option.bind_some, if_true, if_false, Nat.sub_self, Nat.reduceAdd, Nat.reduceSub, Nat.zero_add, and_self, Bool.false_eq_true, reduceCtorEq, Bool.not_false, Bool.not_true, sz0, sz1, sz2, sz3, sz4, sz5, sz6, sz7, sz8, sz9, sz10, sz11, sz12, sz13, sz14, sz15, sz16, sz17, sz18, sz19, sz20, lz0, lz1, lz2, lz3, lz4, lz5, lz6, lz7, lz8, lz9, lz10, lz11, lz12, lz13, lz14, lz15, lz16, lz17, lz18, lz19, lz20, lz21, lz22, lz23, lz24, lz25, lz26, lz27, lz28, lz29, lz30, sz21, sz22, sz23, sz24, sz25, sz26, sz27, sz28, sz29, sz30, and_true, true_and, ite_true, ite_false, decide_true, decide_false, List.all_nil, List.all_cons, *])
variable {cs : Nat → Addr} {nms : Nat → Option (List Str)}
theorem dueL_len (two : List E4) : ∀ (es : List E4) (due : Option (List E4)) (n : Nat), (∀ xs, due = some xs → xs.length + es.length ≤ n) → ∀ xs, dueL two es due = some xs → xs.length ≤ n
  | [], due, n, h, xs, e => by have := h xs e; simpa using this
  | e :: es, due, n, h, xs, e' => by
    refine dueL_len two es _ n (fun ys hy => ?_) xs e'
    revert hy
    cases stretchF two e.2.2.1 e.2.2.2 with
    | none => intro hy; cases hy
    | some r =>
      cases due with
      | none => intro hy; cases hy
      | some zs =>
        intro hy
        have := h zs rfl
        rw [List.length_cons] at this
        cases hy
        rw [List.length_append]
        show _ + 1 + _ ≤ _
        omega
theorem aft_all {one : PyData} {two : List E4} {C K L : Option Sl} (h2 : two.length ≤ 1000) : ∀ (es : List E4) (due : Option (List E4)) (a b c d m8 m9 : Option Sl), (∀ e ∈ es, small e) → (∀ xs, due = some xs → xs.length + es.length ≤ 2000) → ∃ a' b' c' d' m8' m9',
    forO (gTp 4 (gCn (gNm 4) (gCn (gNm 5) (gCn (gNm 6) (gCn (gNm 7) gNl))))) aftOut (es.map e4) [some (.d one), some (.d (.list (two.map e4))), C, dueS due, a, b, c, d, m8, m9, none, none, K, L] =
      .nx [some (.d one), some (.d (.list (two.map e4))), C, dueS (dueL two es due), a', b', c', d', m8', m9', none, none, K, L]
  | [], due, a, b, c, d, m8, m9, _, _ => ⟨a, b, c, d, m8, m9, rfl⟩
  | e :: es, due, a, b, c, d, m8, m9, hs, hd => by
    obtain ⟨n8, n9, st⟩ := aft_out (one := one) (two := two) (C := C) (J := none) (K := K) (L := L) (M8 := m8) (x9 := m9) (e := e) due (hs e List.mem_cons_self) h2 fun xs h => by have := hd xs h; rw [List.length_cons] at this; omega
    obtain ⟨a', b', c', d', m8', m9', ih⟩ := aft_all (one := one) (two := two) (C := C) (K := K) (L := L) h2 es (dueN two e due) (some (.d (.int e.1))) (some (.d (.int e.2.1))) (some (.d (.int e.2.2.1))) (some (.d (.int e.2.2.2))) n8 n9 (fun e h => hs e (List.mem_cons_of_mem _ h)) fun xs h => by
        revert h
        unfold dueN
        cases stretchF two e.2.2.1 e.2.2.2 with
        | none => intro hy; cases hy
        | some r =>
          cases due with
          | none => intro hy; cases hy
          | some zs =>
            intro hy
            have := hd zs rfl
            rw [List.length_cons] at this
            cases hy
            rw [List.length_append]
            show _ + 1 + _ ≤ _
            omega
    refine ⟨a', b', c', d', m8', m9', ?_⟩
    rw [List.map_cons]
    unfold forO
    have gt : gTp 4 (gCn (gNm 4) (gCn (gNm 5) (gCn (gNm 6) (gCn (gNm 7) gNl)))) (e4 e) [some (.d one), some (.d (.list (two.map e4))), C, dueS due, a, b, c, d, m8, m9, none, none, K, L] =
      some [some (.d one), some (.d (.list (two.map e4))), C, dueS due, some (.d (.int e.1)), some (.d (.int e.2.1)), some (.d (.int e.2.2.1)), some (.d (.int e.2.2.2)), m8, m9, none, none, K, L] := rfl
    rw [gt]
    dsimp only
    rw [st]
    exact ih
/-! ### repr -/
theorem int_short {i : Int} (h : 0 ≤ i ∧ i ≤ 2000) : (PyData.int i).leavesShort 12 = true := by
  simp only [PyData.leavesShort, PyData.shown, decide_eq_true_eq]
  have := toString_length_le (v := i) h.1 (k := 4) (by decide) (by omega)
  exact decide_eq_true (Nat.le_trans this (show (4 : Nat) ≤ 12 by decide))
theorem int_light {i : Int} (h : 0 ≤ i ∧ i ≤ 2000) : (PyData.int i).weight ≤ 12 := by
  simp only [PyData.weight]
  split
  · omega
  · next hz =>
    have h0 : i.natAbs ≠ 0 := fun e => hz (by simp; omega)
    have : i.natAbs.log2 < 11 := (Nat.log2_lt h0).mpr (by omega)
    omega
theorem e4_short {e : E4} (h : small e) : (e4 e).leavesShort 12 = true ∧ (e4 e).weight ≤ 60 ∧ (e4 e).showable = true := by
  obtain ⟨h1, h2, h3, h4, h5, h6, h7, h8⟩ := h
  have w1 := int_light ⟨h1, h2⟩
  have w2 := int_light ⟨h3, h4⟩
  have w3 := int_light ⟨h5, h6⟩
  have w4 := int_light ⟨h7, h8⟩
  have lg : ∀ i : Int, 0 ≤ i ∧ i ≤ 2000 → decide (i.natAbs.log2 < 1920) = true := fun i h => decide_eq_true (log2_lt (Nat.lt_of_le_of_lt (show i.natAbs ≤ 2000 by omega) (by decide)))
  refine ⟨?_, ?_, ?_⟩
  · simp only [e4, PyData.leavesShort, PyData.leavesShortAll]
    have k1 := int_short ⟨h1, h2⟩
    have k2 := int_short ⟨h3, h4⟩
    have k3 := int_short ⟨h5, h6⟩
    have k4 := int_short ⟨h7, h8⟩
    simp only [PyData.leavesShort] at k1 k2 k3 k4
    rw [k1, k2, k3, k4]
    rfl
  · simp only [e4]
    unfold PyData.weight
    simp only [PyData.weightAll]
    omega
  · simp only [e4, PyData.showable, PyData.showableAll]
    rw [lg _ ⟨h1, h2⟩, lg _ ⟨h3, h4⟩, lg _ ⟨h5, h6⟩, lg _ ⟨h7, h8⟩]
    rfl
theorem es_short : ∀ {es : List E4}, (∀ e ∈ es, small e) → PyData.leavesShortAll 12 (es.map e4) = true ∧ PyData.weightAll (es.map e4) ≤ 61 * es.length ∧ PyData.showableAll (es.map e4) = true ∧ PyData.hasDictAll (es.map e4) = false ∧ plainAll (es.map e4) = true ∧ PyData.depthAll (es.map e4) ≤ 1
  | [], _ => ⟨rfl, Nat.zero_le _, rfl, rfl, rfl, Nat.zero_le _⟩
  | e :: es, h => by
    obtain ⟨a1, a2, a3⟩ := e4_short (h e List.mem_cons_self)
    obtain ⟨b1, b2, b3, b4, b5, b6⟩ := es_short fun e he => h e (List.mem_cons_of_mem _ he)
    rw [List.map_cons, List.length_cons]
    refine ⟨?_, ?_, ?_, ?_, ?_, ?_⟩
    · show (PyData.leavesShort 12 (e4 e) && PyData.leavesShortAll 12 (es.map e4)) = true
      rw [a1, b1]; rfl
    · show PyData.weight (e4 e) + 1 + PyData.weightAll (es.map e4) ≤ _
      omega
    · show (PyData.showable (e4 e) && PyData.showableAll (es.map e4)) = true
      rw [a3, b3]; rfl
    · show (PyData.hasDict (e4 e) || PyData.hasDictAll (es.map e4)) = false
      rw [b4]; rfl
    · show (plainD (e4 e) && plainAll (es.map e4)) = true
      rw [b5]; rfl
    · show max (PyData.depth (e4 e)) (PyData.depthAll (es.map e4)) ≤ 1
      have : PyData.depth (e4 e) ≤ 1 := (e4_lay e).2
      omega
theorem repr_two {one two : List E4} (h1 : ∀ e ∈ one, small e) (h2 : ∀ e ∈ two, small e) (l1 : one.length ≤ 1000) (l2 : two.length ≤ 1000) :
    oRepr [.list [.list (one.map e4), .list (two.map e4)]] = some (.str (PyData.shown (.list [.list (one.map e4), .list (two.map e4)]))) := by
  obtain ⟨a1, a2, a3, a4, a5, a6⟩ := es_short h1
  obtain ⟨b1, b2, b3, b4, b5, b6⟩ := es_short h2
  have sh := PyData.shown_le 12 (by decide) (.list [.list (one.map e4), .list (two.map e4)]) (by
    show (PyData.leavesShortAll 12 (one.map e4) && (PyData.leavesShortAll 12 (two.map e4) && true)) = true
    rw [a1, b1]; rfl)
  have wt : PyData.weight (.list [.list (one.map e4), .list (two.map e4)]) = PyData.weightAll (one.map e4) + 1 + (PyData.weightAll (two.map e4) + 1 + 0) := by
    simp only [PyData.weight, PyData.weightAll]
  have z : (2000000 : Nat) ≤ sizeLine := by decide
  refine if_pos ?_
  unfold reprOk
  have p1 : plainD (.list [.list (one.map e4), .list (two.map e4)]) = true := by
    show (plainAll (one.map e4) && (plainAll (two.map e4) && true)) = true
    rw [a5, b5]; rfl
  have p2 : (PyData.list [.list (one.map e4), .list (two.map e4)]).showable = true := by
    show (PyData.showableAll (one.map e4) && (PyData.showableAll (two.map e4) && true)) = true
    rw [a3, b3]; rfl
  have p3 : (PyData.list [.list (one.map e4), .list (two.map e4)]).hasDict = false := by
    show (PyData.hasDictAll (one.map e4) || (PyData.hasDictAll (two.map e4) || false)) = false
    rw [a4, b4]; rfl
  have p4 : (PyData.list [.list (one.map e4), .list (two.map e4)]).depth ≤ 64 := by
    show max (PyData.depthAll (one.map e4) + 1) (max (PyData.depthAll (two.map e4) + 1) 0) + 1 ≤ 64
    omega
  rw [p1, p2, p3, decide_eq_true p4, decide_eq_true (by rw [wt] at sh; omega : (PyData.shown (.list [.list (one.map e4), .list (two.map e4)])).length ≤ sizeLine)]
  rfl
theorem eq_str (x : Str) : oEq (.str x) (.str x) = some (.bool true) := (if_pos (show eqOk (.str x) (.str x) = true from rfl)).trans (by simp [PyData.eqv])
theorem g_after_good {one two : List E4} (hn : nms 3 = none) (h1 : ∀ e ∈ one, small e) (h2 : ∀ e ∈ two, small e) (l1 : one.length ≤ 1000) (l2 : two.length ≤ 1000) :
    G_law_after_good cs nms [.d (.list (one.map e4)), .d (.list (two.map e4))] = .ok (.bool true) [none, none] := by
  have z : (1000 : Nat) ≤ sizeLine := by decide
  have rp := repr_two h1 h2 l1 l2
  generalize PyData.shown (.list [.list (one.map e4), .list (two.map e4)]) = shn at rp
  obtain ⟨a', b', c', d', m8', m9', lp⟩ := aft_all (one := .list (one.map e4)) (two := two) (C := some (.d (.str shn))) (K := none) (L := none) l2 one (some []) none none none none none none h1 (fun xs h => by cases h; simp; omega)
  rw [dueL_after] at lp
  have s1 : oSet 2 (eB oRepr (lCons (eNew (nLst (lCons (eVar 0) (lCons (eVar 1) lNil)))) lNil)) [some (.d (.list (one.map e4))), some (.d (.list (two.map e4))), none, none, none, none, none, none, none, none, none, none, none, none] = .nx [some (.d (.list (one.map e4))), some (.d (.list (two.map e4))), some (.d (.str shn)), none, none, none, none, none, none, none, none, none, none, none] := by
    clear lp
    walk_at "evs"
  have s2 : oNew 3 (nLst lNil) [some (.d (.list (one.map e4))), some (.d (.list (two.map e4))), some (.d (.str shn)), none, none, none, none, none, none, none, none, none, none, none] = .nx [some (.d (.list (one.map e4))), some (.d (.list (two.map e4))), some (.d (.str shn)), some (.l 0 []), none, none, none, none, none, none, none, none, none, none] := rfl
  have s3 := oFor_ok (gi := iSeq (eVar 0)) (η := [some (.d (.list (one.map e4))), some (.d (.list (two.map e4))), some (.d (.str shn)), some (.l 0 []), none, none, none, none, none, none, none, none, none, none]) rfl lp
  have ask := g_asked1 (cs := cs) (nms := nms) one two (by omega) (by omega)
  have i1 : oIs .none .none = some (.bool true) := rfl
  have eb : b_law_after_good cs nms = oSeq (oSet 2 (eB oRepr (lCons (eNew (nLst (lCons (eVar 0) (lCons (eVar 1) lNil)))) lNil)))
    (oSeq (oNew 3 (nLst lNil)) (oSeq (oFor (iSeq (eVar 0)) (gTp 4 (gCn (gNm 4) (gCn (gNm 5) (gCn (gNm 6) (gCn (gNm 7) gNl))))) aftOut)
    (oSeq (oAsg (gTp 2 (gCn (gNm 12) (gCn (gNm 13) gNl))) (eCall 3 (G_law_asked cs nms) (aCons (eC (.int 1)) (aCons (eVar 0) (aCons (eVar 1) aNil)))))
    (oSeq (oIf (tOf (eOwnIs false 3)) (oRet (eAnd (eBin oIs (eVar 12) (eC .none)) (eCall 2 (G_only cs) (aCons (eVar 13) (aCons (eC (.str "NoMap")) aNil))))) oNx)
    (oRet (eAnd (eBin oIs (eVar 13) (eC .none)) (eAnd (eBin oEq (eVar 12) (eVar 3)) (eBin oEq (eB oRepr (lCons (eNew (nLst (lCons (eVar 0) (lCons (eVar 1) lNil)))) lNil)) (eVar 2))))))))) := rfl
  have es := eq_str shn
  have go := g_only (cs := cs) (n := 3) (by decide) (b := false) (r := [])
  rw [show n10.getD 3 "" = ("NoMap" : Str) from rfl] at go
  have bd : ∃ η', b_law_after_good cs nms [some (.d (.list (one.map e4))), some (.d (.list (two.map e4))), none, none, none, none, none, none, none, none, none, none, none, none] = .rt (.bool true) η' := by
    rw [eb, oSeq_nx s1, oSeq_nx s2]
    change ∃ η', oSeq _ _ [some (.d (.list (one.map e4))), some (.d (.list (two.map e4))), some (.d (.str shn)), some (.l 0 []), none, none, none, none, none, none, none, none, none, none] = _
    rw [oSeq_nx s3]
    clear s1 s2 s3 lp eb z h1 h2 l1 l2
    cases haf : afterF two one with
    | none =>
      rw [haf] at ask
      dsimp only at ask
      rw [exc_bare hn] at ask
      refine ⟨?my_w, ?_⟩
      rotate_left
      simp only [Option.map_none, dueS]

      walk_at "evs"
      rfl
    | some es =>
      rw [haf] at ask
      dsimp only at ask
      have q := (eq_self (shaped_map e4 e4_lay es)).1
      refine ⟨?my_v, ?_⟩
      rotate_left
      simp only [Option.map_some, dueS, List.nil_append]

      walk_at "evs"
      rfl
  obtain ⟨η', bd⟩ := bd
  exact fnOf2 bd
end My

set_option exponentiation.threshold 5000
namespace My
open PySem PySem.Spec PyProof.Rows L2 XR SX DA
local macro_rules | `(tactic| walk_at "evs") => `(tactic| simp (config := {decide := false}) only [fnOf, oSeq, Ot.seq, oSet, Rs.st, Rs.bind, eVar, eC, eBin, eUn, ofO, eAnd, eOr, eNot, eIf, oRet, oRetN, oIf, oNx, oAsg, gTp, gCn, gNm, gNl, lCons, lNil, lStar, eB, eNew, eLc, eLcX, iSeq, eCall, callO, aCons, aNil, aOwn, mkArgs, putB, apart, eTyIs, eIsi, eChain, eChain3, eTp, tOf, DA.tNot, tAndO, tOrO, DA.tTru, asB, pSome, pNo, eSl, oSl_list, oSl_tup, oRaise, nLst, nAdd, oNew, oDrop, eXat, eq_self, eCallN, eOwnIs, slNo, isNo, fits_ll, fits_kk, tag_l, tag_k, Bool.true_and, Bool.and_true, Bool.false_and, Bool.and_false, gdL, DA.isL, oApp,
  oAdd_int, oLe_int, oLt_int, oEq_int,
  List.map_cons, List.map_nil, List.length_cons, List.length_nil, List.length_append, List.length_map, List.replicate_succ, List.replicate_zero, List.cons_append, List.nil_append, List.set_cons_zero, List.set_cons_succ, List.getElem?_cons_zero, List.getElem?_cons_succ, exits, exitAt, Sl.own, Sl.retag, List.headD_cons, List.tail_cons, Option.map_some, Option.bind_some, if_true, if_false, Nat.sub_self, Nat.reduceAdd, Nat.reduceSub, Nat.zero_add, and_self, Bool.false_eq_true, reduceCtorEq, Bool.not_false, Bool.not_true, sz0, sz1, sz2, sz3, sz4, sz5, sz6, sz7, sz8, sz9, sz10, sz11, sz12, sz13, sz14, sz15, sz16, sz17, sz18, sz19, sz20, lz0, lz1, lz2, lz3, lz4, lz5, lz6, lz7, lz8, lz9, lz10, lz11, lz12, lz13, lz14, lz15, lz16, lz17, lz18, lz19, lz20, lz21, lz22, lz23, lz24, lz25, lz26, lz27, lz28, lz29, lz30, sz21, sz22, sz23, sz24, sz25, sz26, sz27, sz28, sz29, sz30, and_true, true_and, ite_true, ite_false, decide_true, decide_false, List.all_nil, List.all_cons, *])
/-! ### cells -/
theorem oPow_at {i j : Int} (h : cPow i j = true) : oPow (.int i) (.int j) = some (.int (i ^ j.toNat)) := if_pos h
def cellBody : En → Ot := (oSet 3 (eBin oAdd (eBin oMul (eVar 3) (eC (.int 2147483579))) (eCall 2 G_law_mixed (aCons (eVar 2) (aCons (eBin oAdd (eBin oAdd (eBin oMul (eC (.int 7)) (eVar 1)) (eBin oMul (eC (.int 100)) (eVar 4))) (eBin oMul (eVar 4) (eVar 4))) aNil)))))
theorem cell_step {s : PyData} {k c f j : Int} {x : Option Sl} {n : Nat} (hk : 0 ≤ k ∧ k < 1000) (hj : 0 ≤ j ∧ j < 24) (hf : 0 ≤ f ∧ f < 2147483579 ^ n) (hn : n ≤ 24) : ∃ f' : Int, (0 ≤ f' ∧ f' < 2147483579 ^ (n + 1)) ∧
    cellBody [some (.d s), some (.d (.int k)), some (.d (.int c)), some (.d (.int f)), some (.d (.int j))] = .nx [some (.d s), some (.d (.int k)), some (.d (.int c)), some (.d (.int f')), some (.d (.int j))] := by
  have b31 : ∀ {i : Int}, i.natAbs < 2 ^ 31 → i.natAbs < 2 ^ 4000 := fun h => Nat.lt_of_lt_of_le h (Nat.pow_le_pow_right (by decide) (by decide))
  have m := mod_bd (a := mixB (mixA c (7 * k + 100 * j + j * j)) * (mixB (mixA c (7 * k + 100 * j + j * j)) + 2)) (m := 2147483579) (by decide) (by decide)
  have m2 := Int.emod_lt_of_pos (mixB (mixA c (7 * k + 100 * j + j * j)) * (mixB (mixA c (7 * k + 100 * j + j * j)) + 2)) (b := 2147483579) (by decide)
  have jj : 0 ≤ j * j ∧ j * j < 600 := by
    have : j * j ≤ 23 * 23 := Int.mul_le_mul (by omega) (by omega) (by omega) (by omega)
    exact ⟨Int.mul_nonneg hj.1 hj.1, by omega⟩
  have gm := g_mixed (c := c) (k := 7 * k + 100 * j + j * j) (by omega)
  have hc : mixC (mixB (mixA c (7 * k + 100 * j + j * j))) = mixB (mixA c (7 * k + 100 * j + j * j)) * (mixB (mixA c (7 * k + 100 * j + j * j)) + 2) % 2147483579 := rfl
  rw [← hc] at m m2
  generalize mixC (mixB (mixA c (7 * k + 100 * j + j * j))) = d at gm m m2
  have fb : f.natAbs < 2 ^ 4000 := by
    have h1 : (2147483579 : Nat) ^ n ≤ 2147483579 ^ 24 := Nat.pow_le_pow_right (by decide) hn
    have e1 : ((2147483579 ^ n : Nat) : Int) = (2147483579 : Int) ^ n := Int.natCast_pow _ _
    have h2 : f.natAbs < (2147483579 : Nat) ^ 24 := by
      have h3 := hf.2
      rw [← e1] at h3
      exact Nat.lt_of_lt_of_le (by omega) h1
    exact Nat.lt_trans h2 (by decide +kernel)
  have o1 := oMul_int (i := f) (j := 2147483579) fb (b31 (by decide))
  have o2 := oMul_int (i := 7) (j := k) (b31 (by decide)) (b31 (by omega))
  have o3 := oMul_int (i := 100) (j := j) (b31 (by decide)) (b31 (by omega))
  have o4 := oMul_int (i := j) (j := j) (b31 (by omega)) (b31 (by omega))
  refine ⟨f * 2147483579 + d, ⟨by omega, ?_⟩, ?_⟩
  · rw [Int.pow_succ]
    omega
  · clear m m2 hc jj hf fb hk hj hn b31
    unfold cellBody
    walk_at "evs"
theorem cell_loop {s : PyData} {k c : Int} (hk : 0 ≤ k ∧ k < 1000) : ∀ (js : List Int) (n : Nat) (f : Int) (x : Option Sl), (∀ j ∈ js, 0 ≤ j ∧ j < 24) → (0 ≤ f ∧ f < 2147483579 ^ n) → n + js.length ≤ 24 → ∃ (f' : Int) (x' : Option Sl), 0 ≤ f' ∧
    forO (gNm 4) cellBody (js.map PyData.int) [some (.d s), some (.d (.int k)), some (.d (.int c)), some (.d (.int f)), x] = .nx [some (.d s), some (.d (.int k)), some (.d (.int c)), some (.d (.int f')), x']
  | [], n, f, x, _, hf, _ => ⟨f, x, hf.1, rfl⟩
  | j :: js, n, f, x, hj, hf, hn => by
    rw [List.length_cons] at hn
    obtain ⟨f1, h1, st⟩ := cell_step (s := s) (c := c) (x := x) hk (hj j List.mem_cons_self) hf (by omega)
    obtain ⟨f', x', h2, ih⟩ := cell_loop (s := s) (c := c) hk js (n + 1) f1 (some (.d (.int j))) (fun i h => hj i (List.mem_cons_of_mem _ h)) h1 (by omega)
    refine ⟨f', x', h2, ?_⟩
    rw [List.map_cons]
    unfold forO
    simp only [gNm, List.set_cons_succ, List.set_cons_zero]
    rw [st]
    exact ih
def cellRest : En → Ot := (oSeq (oIf (tOf (eBin oGe (eVar 2) (eBin oPow (eC (.int 10)) (eC (.int 18))))) (oRet (eBin oMod (eBin oSub (eVar 2) (eBin oPow (eC (.int 10)) (eC (.int 18)))) (eBin oMul (eBin oMul (eBin oMul (eBin oPow (eC (.int 10)) (eC (.int 60))) (eBin oPow (eC (.int 10)) (eC (.int 60)))) (eBin oPow (eC (.int 10)) (eC (.int 60)))) (eBin oPow (eC (.int 10)) (eC (.int 60)))))) oNx)
    (oSeq (oSet 3 (eC (.int 0)))
    (oSeq (oFor (iRg1 (eC (.int 24))) (gNm 4) cellBody)
    (oRet (eVar 3)))))
theorem oGe_int {i j : Int} : oGe (.int i) (.int j) = some (.bool (decide (j ≤ i))) := rfl
theorem cell_rest {s : PyData} {k c : Int} (hk : 0 ≤ k ∧ k < 1000) : ∃ (d : Int) (η' : En), 0 ≤ d ∧ cellRest [some (.d s), some (.d (.int k)), some (.d (.int c)), none, none] = .rt (.int d) η' := by
  have p18 := oPow_at (i := 10) (j := 18) (by decide +kernel)
  have p60 := oPow_at (i := 10) (j := 60) (by decide +kernel)
  by_cases h : (10 : Int) ^ (18 : Int).toNat ≤ c
  · have bd : ∃ η', cellRest [some (.d s), some (.d (.int k)), some (.d (.int c)), none, none] = .rt (.int ((c - 10 ^ (18 : Int).toNat) % (10 ^ (60 : Int).toNat * 10 ^ (60 : Int).toNat * 10 ^ (60 : Int).toNat * 10 ^ (60 : Int).toNat))) η' := by
      have b1 : ((10 : Int) ^ (60 : Int).toNat).natAbs < 2 ^ 4000 := by decide +kernel
      have b2 : ((10 : Int) ^ (60 : Int).toNat * 10 ^ (60 : Int).toNat).natAbs < 2 ^ 4000 := by decide +kernel
      have b3 : ((10 : Int) ^ (60 : Int).toNat * 10 ^ (60 : Int).toNat * 10 ^ (60 : Int).toNat).natAbs < 2 ^ 4000 := by decide +kernel
      have o1 := oMul_int b1 b1
      have o2 := oMul_int b2 b1
      have o3 := oMul_int b3 b1
      have o4 := mod_int (i := c - 10 ^ (18 : Int).toNat) (j := 10 ^ (60 : Int).toNat * 10 ^ (60 : Int).toNat * 10 ^ (60 : Int).toNat * 10 ^ (60 : Int).toNat) (by decide +kernel)
      have o5 := @oSub_int
      have o6 := @oGe_int
      clear b1 b2 b3
      generalize (10 : Int) ^ (18 : Int).toNat = t18 at *
      generalize (10 : Int) ^ (60 : Int).toNat = t60 at *
      unfold cellRest
      refine ⟨?my_w, ?_⟩
      rotate_left
      walk_at "evs"
      rfl
    obtain ⟨η', bd⟩ := bd
    exact ⟨_, η', Int.emod_nonneg _ (by decide +kernel), bd⟩
  · have o6 := @oGe_int
    obtain ⟨f', x', h1, lp⟩ := cell_loop (s := s) (k := k) (c := c) hk (intsIn 0 24) 0 0 none (fun j hj => mem_ints.mp hj) ⟨by decide, by decide⟩ (by decide)
    have s1 : oIf (tOf (eBin oGe (eVar 2) (eBin oPow (eC (.int 10)) (eC (.int 18))))) (oRet (eBin oMod (eBin oSub (eVar 2) (eBin oPow (eC (.int 10)) (eC (.int 18)))) (eBin oMul (eBin oMul (eBin oMul (eBin oPow (eC (.int 10)) (eC (.int 60))) (eBin oPow (eC (.int 10)) (eC (.int 60)))) (eBin oPow (eC (.int 10)) (eC (.int 60)))) (eBin oPow (eC (.int 10)) (eC (.int 60)))))) oNx [some (.d s), some (.d (.int k)), some (.d (.int c)), none, none] = .nx [some (.d s), some (.d (.int k)), some (.d (.int c)), none, none] := by
      clear lp
      generalize (10 : Int) ^ (18 : Int).toNat = t18 at *
      walk_at "evs"
    have s2 : oSet 3 (eC (.int 0)) [some (.d s), some (.d (.int k)), some (.d (.int c)), none, none] = .nx [some (.d s), some (.d (.int k)), some (.d (.int c)), some (.d (.int 0)), none] := rfl
    have s3 := oFor_ok (gi := iRg1 (eC (.int 24))) (η := [some (.d s), some (.d (.int k)), some (.d (.int c)), some (.d (.int 0)), none]) (iRg1_ok (j := 24) rfl (by decide +kernel)) (show forO (gNm 4) cellBody (rngD 0 24) _ = _ from lp)
    refine ⟨f', [some (.d s), some (.d (.int k)), some (.d (.int c)), some (.d (.int f')), x'], h1, ?_⟩
    unfold cellRest
    rw [oSeq_nx s1, oSeq_nx s2, oSeq_nx s3]
    rfl
theorem g_cell {ns : List Int} {k : Nat} (hk : k < 1000) : ∃ d : Int, 0 ≤ d ∧ G_law_cell [.d (.dict [(.none, .list (ns.map .int))]), .d (.int (k : Nat))] = .ok (.int d) [none, none] := by
  have eb : b_law_cell = oSeq (oSet 2 (eC (.int 0))) (oSeq (oIf (tOf (eBin oLt (eVar 1) (eB oLen (lCons (eVar 0) lNil)))) (oSet 2 (eBin oIx (eVar 0) (eVar 1))) oNx) cellRest) := rfl
  have s1 : oSet 2 (eC (.int 0)) [some (.d (.dict [(.none, .list (ns.map .int))])), some (.d (.int (k : Nat))), none, none, none] = .nx [some (.d (.dict [(.none, .list (ns.map .int))])), some (.d (.int (k : Nat))), some (.d (.int 0)), none, none] := rfl
  have ln : oLen [.dict [(.none, .list (ns.map .int))]] = some (.int (ns.length : Nat)) := by
    show some (PyData.int ((ns.map PyData.int).length : Nat)) = _
    rw [List.length_map]
  have bd : ∃ (d : Int) (η' : En), 0 ≤ d ∧ b_law_cell [some (.d (.dict [(.none, .list (ns.map .int))])), some (.d (.int (k : Nat))), none, none, none] = .rt (.int d) η' := by
    rw [eb, oSeq_nx s1]
    clear eb s1
    by_cases h : (k : Int) < (ns.length : Int)
    · have ix : oIx (.dict [(.none, .list (ns.map .int))]) (.int (k : Nat)) = some (.int (ns[k]'(by omega))) := oIx_at (by rw [List.getElem?_map, List.getElem?_eq_getElem (by omega)]; rfl)
      have s2 : oIf (tOf (eBin oLt (eVar 1) (eB oLen (lCons (eVar 0) lNil)))) (oSet 2 (eBin oIx (eVar 0) (eVar 1))) oNx [some (.d (.dict [(.none, .list (ns.map .int))])), some (.d (.int (k : Nat))), some (.d (.int 0)), none, none] = .nx [some (.d (.dict [(.none, .list (ns.map .int))])), some (.d (.int (k : Nat))), some (.d (.int (ns[k]'(by omega)))), none, none] := by
        walk_at "evs"
      rw [oSeq_nx s2]
      exact cell_rest (by omega)
    · have s2 : oIf (tOf (eBin oLt (eVar 1) (eB oLen (lCons (eVar 0) lNil)))) (oSet 2 (eBin oIx (eVar 0) (eVar 1))) oNx [some (.d (.dict [(.none, .list (ns.map .int))])), some (.d (.int (k : Nat))), some (.d (.int 0)), none, none] = .nx [some (.d (.dict [(.none, .list (ns.map .int))])), some (.d (.int (k : Nat))), some (.d (.int 0)), none, none] := by
        walk_at "evs"
      rw [oSeq_nx s2]
      exact cell_rest (by omega)
  obtain ⟨d, η', h, bd⟩ := bd
  exact ⟨d, h, fnOf2 bd⟩
end My

namespace My
open PySem PySem.Spec PyProof.Rows L2 XR SX DA
local macro_rules | `(tactic| walk_at "evs") => `(tactic| simp (config := {decide := false}) only [fnOf, oSeq, Ot.seq, oSet, Rs.st, Rs.bind, eVar, eC, eBin, eUn, ofO, eAnd, eOr, eNot, eIf, oRet, oRetN, oIf, oNx, oAsg, gTp, gCn, gNm, gNl, lCons, lNil, lStar, eB, eNew, eLc, eLcX, iSeq, eCall, callO, aCons, aNil, aOwn, mkArgs, putB, apart, eTyIs, eIsi, eChain, eChain3, eTp, tOf, DA.tNot, tAndO, tOrO, DA.tTru, asB, pSome, pNo, eSl, oSl_list, oSl_tup, oRaise, nLst, nAdd, oNew, oDrop, eXat, eq_self, eCallN, eOwnIs, slNo, isNo, fits_ll, fits_kk, tag_l, tag_k, Bool.true_and, Bool.and_true, Bool.false_and, Bool.and_false, gdL, DA.isL, oApp,
  oAdd_int, oLe_int, oLt_int, oEq_int,
  List.map_cons, List.map_nil, List.length_cons, List.length_nil, List.length_append, List.length_map, List.replicate_succ, List.replicate_zero, List.cons_append, List.nil_append, List.set_cons_zero, List.set_cons_succ, List.getElem?_cons_zero, List.getElem?_cons_succ, exits, exitAt, Sl.own, Sl.retag, List.headD_cons, List.tail_cons, Option.map_some, Option.bind_some, if_true, if_false, Nat.sub_self, Nat.reduceAdd, Nat.reduceSub, Nat.zero_add, and_self, Bool.false_eq_true, reduceCtorEq, Bool.not_false, Bool.not_true, sz0, sz1, sz2, sz3, sz4, sz5, sz6, sz7, sz8, sz9, sz10, sz11, sz12, sz13, sz14, sz15, sz16, sz17, sz18, sz19, sz20, lz0, lz1, lz2, lz3, lz4, lz5, lz6, lz7, lz8, lz9, lz10, lz11, lz12, lz13, lz14, lz15, lz16, lz17, lz18, lz19, lz20, lz21, lz22, lz23, lz24, lz25, lz26, lz27, lz28, lz29, lz30, sz21, sz22, sz23, sz24, sz25, sz26, sz27, sz28, sz29, sz30, and_true, true_and, ite_true, ite_false, decide_true, decide_false, List.all_nil, List.all_cons, *])
def lw0 (cs : Nat → Addr) (nms : Nat → Option (List Str)) : En → Ot := (oNew 2 (nLst (lCons (eCall 2 G_law_cell (aCons (eVar 0) (aCons (eVar 1) aNil))) lNil)))
def lw1 (cs : Nat → Addr) (nms : Nat → Option (List Str)) : En → Ot := (oSet 3 (eNew (eLc [4] (iRg1 (eC (.int 3))) (gNm 4) gYes (eCall 2 G_law_text (aOwn 2 (aCons (eCall 2 G_law_take (aOwn 2 (aCons (eBin oIx (eNew (nLst (lCons (eC (.int 3)) (lCons (eC (.int 13)) lNil)))) (eCall 2 G_law_take (aOwn 2 (aCons (eC (.int 2)) aNil)))) aNil))) aNil))))))
def lw2 (cs : Nat → Addr) (nms : Nat → Option (List Str)) : En → Ot := (oSet 5 (eCall 3 G_law_map (aOwn 2 (aCons (eBin oIx (eVar 3) (eC (.int 0))) (aCons (eB oLen (lCons (eBin oIx (eVar 3) (eC (.int 1))) lNil)) aNil)))))
def lw3 (cs : Nat → Addr) (nms : Nat → Option (List Str)) : En → Ot := (oSet 6 (eCall 3 G_law_map (aOwn 2 (aCons (eBin oIx (eVar 3) (eC (.int 1))) (aCons (eB oLen (lCons (eBin oIx (eVar 3) (eC (.int 2))) lNil)) aNil)))))
def lw4 (cs : Nat → Addr) (nms : Nat → Option (List Str)) : En → Ot := (oIf (tOrO (DA.tNot (tOf (eCall 4 G_law_map_good (aOwn 2 (aCons (eBin oIx (eVar 3) (eC (.int 0))) (aCons (eBin oIx (eVar 3) (eC (.int 1))) (aCons (eVar 5) aNil))))))) (DA.tNot (tOf (eCall 2 (G_law_led_good cs nms) (aCons (eVar 5) (aCons (eB oLen (lCons (eBin oIx (eVar 3) (eC (.int 0))) lNil)) aNil)))))) (oRet (eC (.bool false))) oNx)
def lw5 (cs : Nat → Addr) (nms : Nat → Option (List Str)) : En → Ot := (oSet 7 (eNew (eLc [8] (iSeq (eVar 5)) (gNm 8) gYes (eBin oAdd (eSl (eVar 8) pNo (pSome (eC (.int 2)))) (eTp (lCons (eC (.int 0)) (lCons (eB oLen (lCons (eBin oIx (eVar 3) (eC (.int 1))) lNil)) lNil)))))))
def lw6 (cs : Nat → Addr) (nms : Nat → Option (List Str)) : En → Ot := (oIf (tOrO (DA.tNot (tOf (eCall 2 (G_law_after_good cs nms) (aCons (eVar 5) (aCons (eVar 6) aNil))))) (DA.tNot (tOf (eCall 2 (G_law_after_good cs nms) (aCons (eVar 7) (aCons (eVar 6) aNil)))))) (oRet (eC (.bool false))) oNx)
def lw7 (cs : Nat → Addr) (nms : Nat → Option (List Str)) : En → Ot := (oSet 9 (eBin oIx (eCall 3 (G_law_asked cs nms) (aCons (eC (.int 2)) (aCons (eVar 5) (aCons (eBin oAdd (eBin oIx (eVar 3) (eC (.int 0))) (eC (.str "# a"))) aNil)))) (eC (.int 1))))
def lw8 (cs : Nat → Addr) (nms : Nat → Option (List Str)) : En → Ot := (oIf (tOrO (DA.tNot (tOf (eCall 2 (G_only cs) (aCons (eVar 9) (aCons (eC (.str "NoText")) aNil))))) (tOf (eBin oNe (eXat (fun (C : Int) => decide (C = ((cs 6 : Nat) : Int))) "at" (eVar 9)) (eB oLen (lCons (eBin oIx (eVar 3) (eC (.int 0))) lNil))))) (oRet (eC (.bool false))) oNx)
def lwIt : En → Rs (List PyData) := (iRg1 (eB oMax (lCons (eC (.int 1)) (lCons (eB oMin (lCons (eC (.int 4)) (lCons (eB oLen (lCons (eVar 0) lNil)) lNil))) lNil))))
def lwEnd (cs : Nat → Addr) (nms : Nat → Option (List Str)) : En → Ot := (oRet (eAnd (eBin oEq (eCall 2 G_after (aCons (eNew (nLst lNil)) (aCons (eNew (nLst lNil)) aNil))) (eNew (nLst lNil))) (eAnd (eBin oEq (eCallN 2 2 (permI [1, 0]) G_lead (lCons (eC (.int 2)) (lCons (eNew (nLst (lCons (eTp (lCons (eC (.int 1)) (lCons (eC (.int 3)) (lCons (eC (.int 4)) (lCons (eC (.int 4)) lNil))))) lNil))) lNil))) (eTp (lCons (eC (.int 4)) (lCons (eC (.int 4)) lNil)))) (eBin oEq (eCallN 2 2 (permI [0, 1]) G_after (lCons (eNew (nLst lNil)) (lCons (eNew (nLst lNil)) lNil))) (eNew (nLst lNil))))))
def lwBody (cs : Nat → Addr) (nms : Nat → Option (List Str)) : En → Ot := (oSeq (lw0 cs nms) (oSeq (lw1 cs nms) (oSeq (lw2 cs nms) (oSeq (lw3 cs nms) (oSeq (lw4 cs nms) (oSeq (lw5 cs nms) (oSeq (lw6 cs nms) (oSeq (lw7 cs nms) (lw8 cs nms)))))))))
theorem law_eq {cs : Nat → Addr} {nms : Nat → Option (List Str)} : b_law cs nms = oSeq (oFor lwIt (gNm 1) (lwBody cs nms)) (lwEnd cs nms) := rfl

variable {cs : Nat → Addr} {nms : Nat → Option (List Str)}
theorem oIx_list {xs : List PyData} {i : Int} {j : Nat} {x : PyData} (h : i = (j : Nat)) (e : xs[j]? = some x) : oIx (.list xs) (.int i) = some x := by
  subst h
  exact oIx_at e
def txE : En → Rs PyData := (eCall 2 G_law_text (aOwn 2 (aCons (eCall 2 G_law_take (aOwn 2 (aCons (eBin oIx (eNew (nLst (lCons (eC (.int 3)) (lCons (eC (.int 13)) lNil)))) (eCall 2 G_law_take (aOwn 2 (aCons (eC (.int 2)) aNil)))) aNil))) aNil)))
theorem text_turn {S K A T B5 B6 B7 B8 B9 : Option Sl} {p : Int} (hp : 0 ≤ p) : ∃ (x : Str) (p' : Int), 0 ≤ p' ∧ Txt x ∧ x.length ≤ 92 ∧
    txE [S, K, some (.l 0 [.int p]), A, T, B5, B6, B7, B8, B9] = .ok (.str x) [S, K, some (.l 0 [.int p']), A, T, B5, B6, B7, B8, B9] := by
  have d1 : 0 ≤ p % 2 := Int.emod_nonneg _ (by decide)
  have d2 : p % 2 < 2 := Int.emod_lt_of_pos _ (by decide)
  have q1 : 0 ≤ p / 2 := Int.ediv_nonneg hp (by decide)
  have hm : ∃ m : Int, (m = 3 ∨ m = 13) ∧ oIx (.list [.int 3, .int 13]) (.int (p % 2)) = some (.int m) := by
    obtain ⟨i, hi⟩ := Int.eq_ofNat_of_zero_le d1
    have : i < 2 := by omega
    match i, this with
    | 0, _ => exact ⟨3, .inl rfl, oIx_list hi rfl⟩
    | 1, _ => exact ⟨13, .inr rfl, oIx_list hi rfl⟩
  obtain ⟨m, hm, ix⟩ := hm
  have m0 : 0 < m := by omega
  have e1 : 0 ≤ p / 2 % m := Int.emod_nonneg _ (by omega)
  have e2 : p / 2 % m < m := Int.emod_lt_of_pos _ m0
  obtain ⟨d, hd⟩ := Int.eq_ofNat_of_zero_le e1
  have t1 := g_take p 2 (by decide) (lt4000 (by decide))
  have t2 := g_take (p / 2) m m0 (lt4000 (show m.natAbs < 2 ^ 200 by omega))
  obtain ⟨x, p', h1, h2, h3, h4⟩ := g_text (p := p / 2 / m) (m := d) (Int.ediv_nonneg q1 (by omega)) (by omega)
  rw [hd] at t2
  refine ⟨x, p', h1, h2, by omega, ?_⟩
  clear d1 d2 q1 hm m0 e1 e2 hd h1 h2 h3 hp
  unfold txE
  walk_at "evs"
theorem text_three {S K A B5 B6 B7 B8 B9 : Option Sl} {p : Int} (hp : 0 ≤ p) : ∃ (x y z : Str) (p' : Int), 0 ≤ p' ∧ (Txt x ∧ x.length ≤ 92) ∧ (Txt y ∧ y.length ≤ 92) ∧ (Txt z ∧ z.length ≤ 92) ∧
    lw1 cs nms [S, K, some (.l 0 [.int p]), A, none, B5, B6, B7, B8, B9] = .nx [S, K, some (.l 0 [.int p']), some (.d (.list [.str x, .str y, .str z])), none, B5, B6, B7, B8, B9] := by
  obtain ⟨x, p1, h1, hx, lx, e1⟩ := text_turn (S := S) (K := K) (A := A) (T := some (.d (.int 0))) (B5 := B5) (B6 := B6) (B7 := B7) (B8 := B8) (B9 := B9) hp
  obtain ⟨y, p2, h2, hy, ly, e2⟩ := text_turn (S := S) (K := K) (A := A) (T := some (.d (.int 1))) (B5 := B5) (B6 := B6) (B7 := B7) (B8 := B8) (B9 := B9) h1
  obtain ⟨z, p3, h3, hz, lz, e3⟩ := text_turn (S := S) (K := K) (A := A) (T := some (.d (.int 2))) (B5 := B5) (B6 := B6) (B7 := B7) (B8 := B8) (B9 := B9) h2
  refine ⟨x, y, z, p3, h3, ⟨hx, lx⟩, ⟨hy, ly⟩, ⟨hz, lz⟩, ?_⟩
  have rg : iRg1 (eC (.int 3)) [S, K, some (.l 0 [.int p]), A, none, B5, B6, B7, B8, B9] = .ok [.int 0, .int 1, .int 2] [S, K, some (.l 0 [.int p]), A, none, B5, B6, B7, B8, B9] := iRg1_ok (j := 3) rfl (by decide +kernel)
  clear h1 h2 h3 hx hy hz lx ly lz hp
  have eq : lw1 cs nms = oSet 3 (eNew (eLc [4] (iRg1 (eC (.int 3))) (gNm 4) gYes txE)) := rfl
  rw [eq]
  simp only [oSet, eNew, eLc, rg, Rs.bind, lcO, gYes, wipeE, gNm, List.set_cons_succ, List.set_cons_zero, e1, e2, e3, List.length_cons, List.length_nil, lz0, lz1, lz2, if_true, Nat.zero_add, Nat.reduceAdd, List.nil_append, List.cons_append, Rs.st]
theorem nat_len : ∀ (l : List Nat) (b n : Nat), l.Pairwise (· < ·) → (∀ x ∈ l, b ≤ x ∧ x < n) → l.length ≤ n - b
  | [], b, n, _, _ => Nat.zero_le _
  | x :: l, b, n, hp, h => by
    obtain ⟨h1, h2⟩ := List.pairwise_cons.mp hp
    have hx := h x List.mem_cons_self
    have := nat_len l (x + 1) n h2 fun y hy => ⟨h1 y hy, (h y (List.mem_cons_of_mem _ hy)).2⟩
    rw [List.length_cons]
    omega
theorem rows_len {rows : List Ent} {n : Nat} (hp : rows.Pairwise fun r r' => r.2.2 < r'.2.2) (h : ∀ r ∈ rows, r.2.2 < n) : rows.length ≤ n := by
  have := nat_len (rows.map (·.2.2)) 0 n (List.pairwise_map.mpr hp) fun x hx => by
    obtain ⟨r, hr, rfl⟩ := List.mem_map.mp hx
    exact ⟨Nat.zero_le _, h r hr⟩
  rw [List.length_map] at this
  omega
theorem MapOf.small {n : Nat} : ∀ {rs : List Ent} {es : List E4}, MapOf n rs es → n ≤ 1000 → (∀ r ∈ rs, r.2.2 + r.2.1.length ≤ 1000) → ∀ e ∈ es, small e
  | _, _, .nil, _, _, e, h => by cases h
  | _, _, .cons (r := r) (e := e') g t, hn, hr, e, h => by
    rcases List.mem_cons.mp h with rfl | h
    · have h1 := hr r List.mem_cons_self
      unfold entOfB at g
      simp only [Bool.and_eq_true, decide_eq_true_eq] at g
      obtain ⟨g1, g2, g3, g4, g5⟩ := g
      unfold My.small
      omega
    · exact MapOf.small t hn (fun r h => hr r (List.mem_cons_of_mem _ h)) e h
theorem led_call {A B C D E F : Option Sl} {GL : List Sl → Rs PyData} {d1 : List PyData} {x y z : Str} (ld : GL [.d (.list d1), .d (.int (x.length : Nat))] = .ok (.bool true) [none, none]) (i0 : oIx (.list [.str x, .str y, .str z]) (.int 0) = some (.str x)) (lenx : oLen [.str x] = some (.int (x.length : Nat))) :
    eCall 2 GL (aCons (eVar 5) (aCons (eB oLen (lCons (eBin oIx (eVar 3) (eC (.int 0))) lNil)) aNil)) [A, B, C, some (.d (.list [.str x, .str y, .str z])), none, some (.d (.list d1)), D, E, none, F] = .ok (.bool true) [A, B, C, some (.d (.list [.str x, .str y, .str z])), none, some (.d (.list d1)), D, E, none, F] := by
  walk_at "evs"
theorem oLen_str {x : Str} (h : x.length ≤ sizeLine) : oLen [.str x] = some (.int (x.length : Nat)) := if_pos h
theorem rng_led {n : Nat} (h : n ≤ 1000) : rngOk (-1) ((n : Int) + 2) = true := by
  unfold rngOk
  simp only [Bool.and_eq_true, decide_eq_true_eq]
  omega
theorem le_line {n : Nat} (h : n ≤ 1000) : n ≤ sizeLine := Nat.le_trans h (by decide)
theorem tup_two {a b c d : PyData} : oAdd (.tuple [a, b]) (.tuple [c, d]) = some (.tuple [a, b, c, d]) := by
  show (if (2 : Nat) + 2 ≤ sizeLine then some (PyData.tuple _) else none) = _
  rw [if_pos (by decide)]
  rfl
theorem turn {S : Option Sl} {ns : List Int} {k : Nat} {a2 a3 a5 a6 a7 a9 : Option Sl} (hk : k < 1000) (hn3 : nms 3 = none) (hn6 : nms 6 = some [("at" : Str)]) : ∃ b2 b3 b5 b6 b7 b9,
    lwBody cs nms [some (.d (.dict [(.none, .list (ns.map .int))])), some (.d (.int (k : Nat))), a2, a3, none, a5, a6, a7, none, a9] = .nx [some (.d (.dict [(.none, .list (ns.map .int))])), some (.d (.int (k : Nat))), b2, b3, none, b5, b6, b7, none, b9] := by
  obtain ⟨c, hc, gc⟩ := g_cell (ns := ns) hk
  generalize ns.map PyData.int = sc at *
  have s0 : lw0 cs nms [some (.d (.dict [(.none, .list sc)])), some (.d (.int (k : Nat))), a2, a3, none, a5, a6, a7, none, a9] = .nx [some (.d (.dict [(.none, .list sc)])), some (.d (.int (k : Nat))), some (.l 0 [.int c]), a3, none, a5, a6, a7, none, a9] := by
    unfold lw0
    walk_at "evs"
  obtain ⟨x, y, z, p1, hp1, ⟨hx, lx⟩, ⟨hy, ly⟩, ⟨hz, lz⟩, s1⟩ := text_three (cs := cs) (nms := nms) (S := some (.d (.dict [(.none, .list sc)]))) (K := some (.d (.int (k : Nat)))) (A := a3) (B5 := a5) (B6 := a6) (B7 := a7) (B8 := none) (B9 := a9) hc
  obtain ⟨rx, Rx, qx, px⟩ := txt_reads hx
  obtain ⟨ry, Ry, qy, py⟩ := txt_reads hy
  have wx := w_self Rx (by omega)
  have wy := w_self Ry (by omega)
  have rlx : rx.length ≤ 92 := Nat.le_trans (rows_len px fun r hr => by have := qx r hr; omega) lx
  have rly : ry.length ≤ 92 := Nat.le_trans (rows_len py fun r hr => by have := qy r hr; omega) ly
  have lenx : oLen [.str x] = some (.int (x.length : Nat)) := oLen_str (le_line (by omega))
  have leny : oLen [.str y] = some (.int (y.length : Nat)) := oLen_str (le_line (by omega))
  have lenz : oLen [.str z] = some (.int (z.length : Nat)) := oLen_str (le_line (by omega))
  have i0 : oIx (.list [.str x, .str y, .str z]) (.int 0) = some (.str x) := rfl
  have i1 : oIx (.list [.str x, .str y, .str z]) (.int 1) = some (.str y) := rfl
  have i2 : oIx (.list [.str x, .str y, .str z]) (.int 2) = some (.str z) := rfl
  obtain ⟨one, p2, hp2, m1, g1⟩ := g_map (p := p1) (x := x) (size := y.length) (rows := rx) hp1 wx (by omega) (fun r h => (qx r h).1) (by omega)
  obtain ⟨two, p3, hp3, m2, g2⟩ := g_map (p := p2) (x := y) (size := z.length) (rows := ry) hp2 wy (by omega) (fun r h => (qy r h).1) (by omega)
  obtain ⟨p4, hp4, mg⟩ := g_map_good (p := p3) (x := x) (y := y) (rows := rx) (es := one) hp3 Rx (by omega) (by omega) m1 (by omega) (fun r h => ⟨(qx r h).1, (qx r h).2.1⟩) px
  have o1 : one.length = rx.length := m1.len
  have o2 : two.length = ry.length := m2.len
  have sm1 : ∀ e ∈ one, small e := m1.small (by omega) fun r h => by have := qx r h; omega
  have sm2 : ∀ e ∈ two, small e := m2.small (by omega) fun r h => by have := qy r h; omega
  have ld := g_led (cs := cs) (nms := nms) one x.length (le_line (by omega)) (rng_led (by omega)) hn3
  have af1 := g_after_good (cs := cs) (nms := nms) (one := one) (two := two) hn3 sm1 sm2 (by omega) (by omega)
  have af2 := g_after_good (cs := cs) (nms := nms) (one := one.map fun e => (e.1, e.2.1, 0, (y.length : Int))) (two := two) hn3 (fun e h => by
    obtain ⟨e', h', rfl⟩ := List.mem_map.mp h
    have := sm1 e' h'
    unfold small at this ⊢
    dsimp only
    omega) sm2 (by rw [List.length_map]; omega) (by omega)
  have wb := w_bad Rx (by omega)
  have ak := g_asked2 (cs := cs) (nms := nms) (d := .list (one.map e4)) wb
  have exd : excD cs nms 6 [.int (x.length : Nat)] = .dict [(.bool true, .int (cs 6 : Nat)), (.str "at", .int (x.length : Nat))] := by
    unfold excD
    rw [hn6]
    rfl
  rw [exd] at ak
  have ad : oAdd (.str x) (.str "# a") = some (.str (x ++ "# a")) := oAdd_str (le_line (by show x.length + 3 ≤ _; omega))
  have on := g_only (cs := cs) (n := 6) (by decide) (b := true) (r := [(.str "at", .int (x.length : Nat))])
  rw [show n10.getD 6 "" = ("NoText" : Str) from rfl] at on
  have lc := lcO_map (vs := [8]) (g := gNm 8) (ge := eBin oAdd (eSl (eVar 8) pNo (pSome (eC (.int 2)))) (eTp (lCons (eC (.int 0)) (lCons (eB oLen (lCons (eBin oIx (eVar 3) (eC (.int 1))) lNil)) lNil)))) (η0 := [some (.d (.dict [(.none, .list sc)])), some (.d (.int (k : Nat))), some (.l 0 [.int p4]), some (.d (.list [.str x, .str y, .str z])), none, some (.d (.list (one.map e4))), some (.d (.list (two.map e4))), a7, none, a9])
    (f := fun d => e4 ((un4 d).1, (un4 d).2.1, 0, (y.length : Int))) rfl (one.map e4) (le_line (by rw [List.length_map]; omega)) fun d hd => by
      obtain ⟨e, _, rfl⟩ := List.mem_map.mp hd
      refine ⟨[some (.d (.dict [(.none, .list sc)])), some (.d (.int (k : Nat))), some (.l 0 [.int p4]), some (.d (.list [.str x, .str y, .str z])), none, some (.d (.list (one.map e4))), some (.d (.list (two.map e4))), a7, some (.d (e4 e)), a9], rfl, ?_, rfl⟩
      have sl : oSl (e4 e) none (some 2) = some (.tuple [.int e.1, .int e.2.1]) := rfl
      have a4 : oAdd (.tuple [.int e.1, .int e.2.1]) (.tuple [.int 0, .int (y.length : Nat)]) = some (e4 (e.1, e.2.1, 0, (y.length : Int))) := tup_two
      rw [un_e4]
      clear ak on ad exd wb af1 af2 ld mg s0 s1 g1 g2 gc lenx lenz hk hn3 hn6 hp1 hp2 hp3 hp4 lx ly lz qx qy wx wy rlx rly o1 o2 sm1 sm2
      walk_at "evs"
  have lcm : (one.map e4).map (fun d => e4 ((un4 d).1, (un4 d).2.1, 0, (y.length : Int))) = (one.map fun e => (e.1, e.2.1, (0 : Int), (y.length : Int))).map e4 := by
    rw [List.map_map, List.map_map]
    rfl
  rw [lcm] at lc
  generalize (one.map fun e => (e.1, e.2.1, (0 : Int), (y.length : Int))).map e4 = wh at *
  generalize one.map e4 = d1 at *
  generalize two.map e4 = d2 at *
  have s2 : lw2 cs nms [some (.d (.dict [(.none, .list sc)])), some (.d (.int (k : Nat))), some (.l 0 [.int p1]), some (.d (.list [.str x, .str y, .str z])), none, a5, a6, a7, none, a9] = .nx [some (.d (.dict [(.none, .list sc)])), some (.d (.int (k : Nat))), some (.l 0 [.int p2]), some (.d (.list [.str x, .str y, .str z])), none, some (.d (.list d1)), a6, a7, none, a9] := by
    clear hk hn3 hn6 hp1 hp2 hp3 hp4 lx ly lz qx qy wx wy rlx rly o1 o2 sm1 sm2 lc s0 s1
    unfold lw2
    walk_at "evs"
  have s3 : lw3 cs nms [some (.d (.dict [(.none, .list sc)])), some (.d (.int (k : Nat))), some (.l 0 [.int p2]), some (.d (.list [.str x, .str y, .str z])), none, some (.d (.list d1)), a6, a7, none, a9] = .nx [some (.d (.dict [(.none, .list sc)])), some (.d (.int (k : Nat))), some (.l 0 [.int p3]), some (.d (.list [.str x, .str y, .str z])), none, some (.d (.list d1)), some (.d (.list d2)), a7, none, a9] := by
    clear hk hn3 hn6 hp1 hp2 hp3 hp4 lx ly lz qx qy wx wy rlx rly o1 o2 sm1 sm2 lc s0 s1 s2
    unfold lw3
    walk_at "evs"
  have s4 : lw4 cs nms [some (.d (.dict [(.none, .list sc)])), some (.d (.int (k : Nat))), some (.l 0 [.int p3]), some (.d (.list [.str x, .str y, .str z])), none, some (.d (.list d1)), some (.d (.list d2)), a7, none, a9] = .nx [some (.d (.dict [(.none, .list sc)])), some (.d (.int (k : Nat))), some (.l 0 [.int p4]), some (.d (.list [.str x, .str y, .str z])), none, some (.d (.list d1)), some (.d (.list d2)), a7, none, a9] := by
    clear hk hn3 hn6 hp1 hp2 hp3 hp4 lx ly lz qx qy wx wy rlx rly o1 o2 sm1 sm2 lc s0 s1 s2 s3
    have c1 : eCall 4 G_law_map_good (aOwn 2 (aCons (eBin oIx (eVar 3) (eC (.int 0))) (aCons (eBin oIx (eVar 3) (eC (.int 1))) (aCons (eVar 5) aNil)))) [some (.d (.dict [(.none, .list sc)])), some (.d (.int (k : Nat))), some (.l 0 [.int p3]), some (.d (.list [.str x, .str y, .str z])), none, some (.d (.list d1)), some (.d (.list d2)), a7, none, a9] = .ok (.bool true) [some (.d (.dict [(.none, .list sc)])), some (.d (.int (k : Nat))), some (.l 0 [.int p4]), some (.d (.list [.str x, .str y, .str z])), none, some (.d (.list d1)), some (.d (.list d2)), a7, none, a9] := by
      walk_at "evs"
    have c2 := led_call (A := some (.d (.dict [(.none, .list sc)]))) (B := some (.d (.int (k : Nat)))) (C := some (.l 0 [.int p4])) (D := some (.d (.list d2))) (E := a7) (F := a9) ld i0 lenx
    unfold lw4
    simp only [oIf, tOrO, DA.tNot, tOf, Rs.bind, ofO, c1, c2, asB, Bool.not_true, Rs.st, oNx, Bool.false_eq_true, if_false]
  have s5 : lw5 cs nms [some (.d (.dict [(.none, .list sc)])), some (.d (.int (k : Nat))), some (.l 0 [.int p4]), some (.d (.list [.str x, .str y, .str z])), none, some (.d (.list d1)), some (.d (.list d2)), a7, none, a9] = .nx [some (.d (.dict [(.none, .list sc)])), some (.d (.int (k : Nat))), some (.l 0 [.int p4]), some (.d (.list [.str x, .str y, .str z])), none, some (.d (.list d1)), some (.d (.list d2)), some (.d (.list wh)), none, a9] := by
    have is : iSeq (eVar 5) [some (.d (.dict [(.none, .list sc)])), some (.d (.int (k : Nat))), some (.l 0 [.int p4]), some (.d (.list [.str x, .str y, .str z])), none, some (.d (.list d1)), some (.d (.list d2)), a7, none, a9] = .ok d1 [some (.d (.dict [(.none, .list sc)])), some (.d (.int (k : Nat))), some (.l 0 [.int p4]), some (.d (.list [.str x, .str y, .str z])), none, some (.d (.list d1)), some (.d (.list d2)), a7, none, a9] := rfl
    unfold lw5
    simp only [oSet, eNew, eLc, is, Rs.bind, lc, Rs.st, List.set_cons_succ, List.set_cons_zero]
  have s6 : lw6 cs nms [some (.d (.dict [(.none, .list sc)])), some (.d (.int (k : Nat))), some (.l 0 [.int p4]), some (.d (.list [.str x, .str y, .str z])), none, some (.d (.list d1)), some (.d (.list d2)), some (.d (.list wh)), none, a9] = .nx [some (.d (.dict [(.none, .list sc)])), some (.d (.int (k : Nat))), some (.l 0 [.int p4]), some (.d (.list [.str x, .str y, .str z])), none, some (.d (.list d1)), some (.d (.list d2)), some (.d (.list wh)), none, a9] := by
    clear hk hn3 hn6 hp1 hp2 hp3 hp4 lx ly lz qx qy wx wy rlx rly o1 o2 sm1 sm2 lc s0 s1 s2 s3 s4 s5
    unfold lw6
    walk_at "evs"
  have s7 : lw7 cs nms [some (.d (.dict [(.none, .list sc)])), some (.d (.int (k : Nat))), some (.l 0 [.int p4]), some (.d (.list [.str x, .str y, .str z])), none, some (.d (.list d1)), some (.d (.list d2)), some (.d (.list wh)), none, a9] = .nx [some (.d (.dict [(.none, .list sc)])), some (.d (.int (k : Nat))), some (.l 0 [.int p4]), some (.d (.list [.str x, .str y, .str z])), none, some (.d (.list d1)), some (.d (.list d2)), some (.d (.list wh)), none, some (.d (.dict [(.bool true, .int (cs 6 : Nat)), (.str "at", .int (x.length : Nat))]))] := by
    have j1 : oIx (.list [.none, .dict [(.bool true, .int (cs 6 : Nat)), (.str "at", .int (x.length : Nat))]]) (.int 1) = some (.dict [(.bool true, .int (cs 6 : Nat)), (.str "at", .int (x.length : Nat))]) := rfl
    clear hk hn3 hn6 hp1 hp2 hp3 hp4 lx ly lz qx qy wx wy rlx rly o1 o2 sm1 sm2 lc s0 s1 s2 s3 s4 s5 s6
    unfold lw7
    walk_at "evs"
  have s8 : lw8 cs nms [some (.d (.dict [(.none, .list sc)])), some (.d (.int (k : Nat))), some (.l 0 [.int p4]), some (.d (.list [.str x, .str y, .str z])), none, some (.d (.list d1)), some (.d (.list d2)), some (.d (.list wh)), none, some (.d (.dict [(.bool true, .int (cs 6 : Nat)), (.str "at", .int (x.length : Nat))]))] = .nx [some (.d (.dict [(.none, .list sc)])), some (.d (.int (k : Nat))), some (.l 0 [.int p4]), some (.d (.list [.str x, .str y, .str z])), none, some (.d (.list d1)), some (.d (.list d2)), some (.d (.list wh)), none, some (.d (.dict [(.bool true, .int (cs 6 : Nat)), (.str "at", .int (x.length : Nat))]))] := by
    have gf : getF "at" [((.str "at" : PyData), PyData.int (x.length : Nat))] = some (.int (x.length : Nat)) := rfl
    have ne : oNe (.int (x.length : Nat)) (.int (x.length : Nat)) = some (.bool false) := by
      show some (PyData.bool (!decide ((x.length : Int) = x.length))) = _
      rw [decide_eq_true rfl]
      rfl
    clear hk hn3 hn6 hp1 hp2 hp3 hp4 lx ly lz qx qy wx wy rlx rly o1 o2 sm1 sm2 lc s0 s1 s2 s3 s4 s5 s6 s7
    unfold lw8
    walk_at "evs"
  refine ⟨?my_1, ?my_2, ?my_3, ?my_4, ?my_5, ?my_6, ?_⟩
  rotate_left 6
  unfold lwBody
  rw [oSeq_nx s0, oSeq_nx s1, oSeq_nx s2, oSeq_nx s3, oSeq_nx s4, oSeq_nx s5, oSeq_nx s6, oSeq_nx s7]
  exact s8
end My

namespace My
open PySem PySem.Spec PyProof.Rows L2 XR SX DA
local macro_rules | `(tactic| walk_at "evs") => `(tactic| simp (config := {decide := false}) only [fnOf, oSeq, Ot.seq, oSet, Rs.st, Rs.bind, eVar, eC, eBin, eUn, ofO, eAnd, eOr, eNot, eIf, oRet, oRetN, oIf, oNx, oAsg, gTp, gCn, gNm, gNl, lCons, lNil, lStar, eB, eNew, eLc, eLcX, iSeq, eCall, callO, aCons, aNil, aOwn, mkArgs, putB, apart, eTyIs, eIsi, eChain, eChain3, eTp, tOf, DA.tNot, tAndO, tOrO, DA.tTru, asB, pSome, pNo, eSl, oSl_list, oSl_tup, oRaise, nLst, nAdd, oNew, oDrop, eXat, eq_self, eCallN, eOwnIs, slNo, isNo, fits_ll, fits_kk, tag_l, tag_k, Bool.true_and, Bool.and_true, Bool.false_and, Bool.and_false, gdL, DA.isL, oApp,
  oAdd_int, oLe_int, oLt_int, oEq_int,
  List.map_cons, List.map_nil, List.length_cons, List.length_nil, List.length_append, List.length_map, List.replicate_succ, List.replicate_zero, List.cons_append, List.nil_append, List.set_cons_zero, List.set_cons_succ, List.getElem?_cons_zero, List.getElem?_cons_succ, exits, exitAt, Sl.own, Sl.retag, List.headD_cons, List.tail_cons, Option.map_some, Option.bind_some, if_true, if_false, Nat.sub_self, Nat.reduceAdd, Nat.reduceSub, Nat.zero_add, and_self, Bool.false_eq_true, reduceCtorEq, Bool.not_false, Bool.not_true, sz0, sz1, sz2, sz3, sz4, sz5, sz6, sz7, sz8, sz9, sz10, sz11, sz12, sz13, sz14, sz15, sz16, sz17, sz18, sz19, sz20, lz0, lz1, lz2, lz3, lz4, lz5, lz6, lz7, lz8, lz9, lz10, lz11, lz12, lz13, lz14, lz15, lz16, lz17, lz18, lz19, lz20, lz21, lz22, lz23, lz24, lz25, lz26, lz27, lz28, lz29, lz30, sz21, sz22, sz23, sz24, sz25, sz26, sz27, sz28, sz29, sz30, and_true, true_and, ite_true, ite_false, decide_true, decide_false, List.all_nil, List.all_cons, *])
variable {cs : Nat → Addr} {nms : Nat → Option (List Str)}
theorem law_turns {ns : List Int} (hn3 : nms 3 = none) (hn6 : nms 6 = some [("at" : Str)]) : ∀ (ks : List Int) (a1 a2 a3 a5 a6 a7 a9 : Option Sl), (∀ k ∈ ks, 0 ≤ k ∧ k < 1000) → ∃ b1 b2 b3 b5 b6 b7 b9,
    forO (gNm 1) (lwBody cs nms) (ks.map PyData.int) [some (.d (.dict [(.none, .list (ns.map .int))])), a1, a2, a3, none, a5, a6, a7, none, a9] = .nx [some (.d (.dict [(.none, .list (ns.map .int))])), b1, b2, b3, none, b5, b6, b7, none, b9]
  | [], a1, a2, a3, a5, a6, a7, a9, _ => ⟨a1, a2, a3, a5, a6, a7, a9, rfl⟩
  | k :: ks, a1, a2, a3, a5, a6, a7, a9, h => by
    obtain ⟨h1, h2⟩ := h k List.mem_cons_self
    obtain ⟨j, rfl⟩ := Int.eq_ofNat_of_zero_le h1
    obtain ⟨b2, b3, b5, b6, b7, b9, st⟩ := turn (cs := cs) (nms := nms) (S := none) (ns := ns) (k := j) (a2 := a2) (a3 := a3) (a5 := a5) (a6 := a6) (a7 := a7) (a9 := a9) (by omega) hn3 hn6
    obtain ⟨c1, c2, c3, c5, c6, c7, c9, ih⟩ := law_turns hn3 hn6 ks (some (.d (.int (j : Nat)))) b2 b3 b5 b6 b7 b9 fun k hk => h k (List.mem_cons_of_mem _ hk)
    refine ⟨c1, c2, c3, c5, c6, c7, c9, ?_⟩
    rw [List.map_cons]
    unfold forO
    simp only [gNm, List.set_cons_succ, List.set_cons_zero]
    rw [st]
    exact ih
theorem law_end {A B C D E F G H I J : Option Sl} : lwEnd cs nms [A, B, C, D, E, F, G, H, I, J] = .rt (.bool true) [A, B, C, D, E, F, G, H, I, J] := by
  have a := g_after [] [] (by decide) (by decide)
  have l := g_lead [(1, 3, 4, 4)] 2
  have la : leadF 2 [((1 : Int), (3 : Int), (4 : Int), (4 : Int))] = some (4, 4) := by decide
  rw [la] at l
  have pm1 : permI [1, 0] [.int 2, .list [.tuple [.int 1, .int 3, .int 4, .int 4]]] = [.list [.tuple [.int 1, .int 3, .int 4, .int 4]], .int 2] := rfl
  have pm2 : permI [0, 1] [.list [], .list []] = [.list [], .list []] := rfl
  have e1 : oEq (.list []) (.list []) = some (.bool true) := rfl
  have e2 : oEq (.tuple [.int 4, .int 4]) (.tuple [.int 4, .int 4]) = some (.bool true) := (eq_self (d := p2 (4, 4)) (shaped_of' (p2_lay (4, 4)).1 (Nat.le_trans (p2_lay (4, 4)).2 (by decide)))).1
  have a' : G_after [.d (.list []), .d (.list [])] = .ok (.list []) [none, none] := a
  have l' : G_lead [.d (.list [.tuple [.int 1, .int 3, .int 4, .int 4]]), .d (.int 2)] = .ok (.tuple [.int 4, .int 4]) [none, none] := l
  clear a l la
  unfold lwEnd
  generalize G_after = GA at a' ⊢
  generalize G_lead = GL at l' ⊢
  walk_at "evs"
theorem fnOf1 {N : Nat} {B : En → Ot} {x d : PyData} {η η' : En} (h : B η = .rt d η') (e : η = [some (.d x)] ++ List.replicate (N - 1) none := by rfl) : fnOf N B [.d x] = .ok d [none] := by
  subst e
  unfold fnOf
  show (match B ([some (.d x)] ++ List.replicate (N - 1) none) with
    | .rt d η => (match exits 0 [.d x] η with
      | some es => Rs.ok d es
      | none => .no)
    | .nx η => (match exits 0 [.d x] η with
      | some es => .ok .none es
      | none => .no)
    | .ex n xs η => (match exits 0 [.d x] η with
      | some es => .ex n xs es
      | none => .no)
    | _ => .no) = _
  rw [h]
  rfl
/-- the law, over data -/
theorem g_law {ns : List Int} (hl : ns.length ≤ 1000) (hn3 : nms 3 = none) (hn6 : nms 6 = some [("at" : Str)]) : G_law cs nms [.d (.dict [(.none, .list (ns.map .int))])] = .ok (.bool true) [none] := by
  obtain ⟨m, hm1, hm2⟩ : ∃ m : Nat, m ≤ 4 ∧ lwIt [some (.d (.dict [(.none, .list (ns.map .int))])), none, none, none, none, none, none, none, none, none] = .ok ((intsIn 0 m).map .int) [some (.d (.dict [(.none, .list (ns.map .int))])), none, none, none, none, none, none, none, none, none] := by
    have ln : oLen [.dict [(.none, .list (ns.map .int))]] = some (.int (ns.length : Nat)) := by
      show some (PyData.int ((ns.map PyData.int).length : Nat)) = _
      rw [List.length_map]
    have mn : oMin [.int 4, .int (ns.length : Nat)] = some (.int (min 4 (ns.length : Nat))) := oMin_int
    have mx : oMax [.int 1, .int (min 4 (ns.length : Nat))] = some (.int (max 1 (min 4 (ns.length : Int)))) := congrArg (fun z => some (PyData.int z)) mx_int
    refine ⟨(max 1 (min 4 (ns.length : Int))).toNat, by omega, ?_⟩
    have e : (max 1 (min 4 (ns.length : Int))) = (((max 1 (min 4 (ns.length : Int))).toNat : Nat) : Int) := by omega
    have hz : max 1 (min 4 (ns.length : Int)) ≤ 4 ∧ 0 ≤ max 1 (min 4 (ns.length : Int)) := by omega
    rw [← rng_ints, ← e]
    generalize max 1 (min 4 (ns.length : Int)) = M at *
    have rk : rngOk 0 M = true := by
      unfold rngOk
      simp only [Bool.and_eq_true, decide_eq_true_eq]
      omega
    unfold lwIt
    refine iRg1_ok ?_ rk
    clear e hz rk
    generalize ns.map PyData.int = sc at *
    walk_at "evs"
  obtain ⟨b1, b2, b3, b5, b6, b7, b9, lp⟩ := law_turns (cs := cs) (nms := nms) (ns := ns) hn3 hn6 (intsIn 0 m) none none none none none none none fun k hk => by have := mem_ints.mp hk; omega
  have s1 := oFor_ok hm2 lp
  have bd : ∃ η', b_law cs nms [some (.d (.dict [(.none, .list (ns.map .int))])), none, none, none, none, none, none, none, none, none] = .rt (.bool true) η' := by
    rw [law_eq, oSeq_nx s1]
    exact ⟨_, law_end⟩
  obtain ⟨η', bd⟩ := bd
  exact fnOf1 bd
end My

/-! the end of a law whose promise wants that no repr is under way -/
namespace DA
open PySem PySem.Spec PyProof.Rows L2 XR
section
variable {P : Program} {w : World} {K : PySem.W.Frag} {mg mb : Str → Option Value} {EX : Exs} {fa a : Addr} {fd : FuncData} {x : Str} {s1 : Shared} {vs : List Value} {ns : List Int} {k : Nat} {G : List Sl → Rs PyData}
/-- what is tracked as the law begins: the script, where it is none of the module's own things -/
def scH (K : PySem.W.Frag) (a : Addr) (o : Obj) (ns : List Int) : Hp := fun b => if b = a ∧ K.lookup a = none then some (.frz o (.lst (ns.map V.int))) else none
theorem scH_some {o : Obj} {b : Addr} {u : HO} (h : scH K a o ns b = some u) : b = a ∧ K.lookup a = none ∧ u = .frz o (.lst (ns.map V.int)) := by
  unfold scH at h
  split at h
  · next c => exact ⟨c.1, c.2, (Option.some.inj h).symm⟩
  · cases h
theorem scH_at {o : Obj} (h : K.lookup a = none) : scH K a o ns a = some (.frz o (.lst (ns.map V.int))) := if_pos ⟨rfl, h⟩
theorem ints_dq {Hv : Hp} : ∀ ns : List Int, DqAll K Hv (ns.map V.int) (ns.map PyData.int)
  | [] => .nil
  | n :: ns => .cons (.int n) (ints_dq ns)
/-- a list that nobody changes, as data: told by what is read of it -/
theorem start_G (KX : K.In s1.heap) (n1 : s1.heap.Ns mainGlobals mg) (n2 : s1.heap.Ns builtinsNs mb) (n3 : ∀ y : Str, y ≠ "__name__" → mb y = bootBuiltins y) (nl : s1.heap.NoLimit) (g0 : s1.gens = #[])
    (ob : s1.heap.get? a = some { cls := .type "list", data := .seq vs.toArray }) (it : IntsAre vs ns) (sz : ns.length ≤ sizeLine) (rm : Room k callerA) {sp : Sp}
    (F : ∀ base : Heap, K.In base → base.Ns mainGlobals mg → FnOkG P w K mg base (L2.CX P w) k fa fd [x] sp) (bd : ∀ (s : Shared) (u : Value), BindsTo s fd ⟨[u], []⟩ [(x, u)])
    (yes : ∀ H : Hp, Only H → SqL K H a (ns.map V.int) → sp [.ref a] H (fun v _ => v = .bl true) fun _ _ _ => False) :
    codeAny (model P w) callerA (.call (.ref fa) ⟨[.ref a], []⟩) (fun r t => r = .ok (.ret (.bool true)) ∧ OldK s1.heap t.heap ∧ t.os = s1.os ∧ AllBare t.gens) s1 := by
  obtain ⟨H, eH⟩ : ∃ H, H = scH K a { cls := .type "list", data := .seq vs.toArray } ns := ⟨_, rfl⟩
  have only : Only H := fun b => by
    cases q : H b with
    | none => exact .inl rfl
    | some u =>
      rw [eH] at q
      obtain ⟨_, _, rfl⟩ := scH_some q
      exact .inr ⟨_, _, rfl⟩
  have vals := vals_ints it
  have seq : SqL K H a (ns.map V.int) := by
    cases q : K.lookup a with
    | none => exact .inl (.inr ⟨_, by rw [eH]; exact scH_at q⟩)
    | some o =>
      have e := KX a o q
      rw [ob] at e
      cases e
      exact .inr ⟨_, vs.toArray, _, q, rfl, rfl, rfl, by rw [List.size_toArray, it.length]; exact sz, by simpa using vals⟩
  have good : HOk P w H s1.heap := fun b u q => by
    rw [eH] at q
    obtain ⟨rfl, _, rfl⟩ := scH_some q
    exact ⟨ob, by rw [List.length_map]; exact sz, vs, _, vals, ob⟩
  -- what isn't tracked stays in sight
  have free : ∀ {b : Addr} {o : Obj}, s1.heap.get? b = some o → (b = a → K.lookup a ≠ none) → (hidT s1.heap H).get? b = some o := fun {b o} e h => hidT_get e (by
    cases q : H b with
    | none => rfl
    | some u =>
      rw [eH] at q
      obtain ⟨z1, z2, _⟩ := scH_some q
      exact absurd z2 (h z1))
  have spaces : ∀ {b : Addr} {m : Str → Option Value}, s1.heap.Ns b m → (hidT s1.heap H).Ns b m := fun {b m} ⟨o, es, ep, e, d, r⟩ => ⟨o, es, ep, free e (fun z => by
    subst z
    rw [ob] at e
    cases e
    exact absurd d (by intro z; cases z)), d, r⟩
  have kin : K.In (hidT s1.heap H) := fun b o e => free (KX b o e) fun z => by rw [← z, e]; exact fun q => by cases q
  obtain ⟨mc, c1, c2⟩ := nl
  have env : Env0 P w K mg (hidT s1.heap H) callerA [] s1 H := { frames := rfl, mod := ⟨kin, spaces n1, ⟨mb, spaces n2, n3⟩, ⟨mc, spaces c1, c2⟩⟩, bs := fun b o e => of_hidT e, bsz := Nat.le_of_eq (hidT_size _ _), funs := trivial, frf := fun b z => (nomatch z), hok := good, bare := .of_eq g0 }
  refine codeAny_mono ((F _ kin (spaces n1)).run callerA [] s1 H ⟨[.ref a], []⟩ [.ref a] [.ref a] _ _ rfl rm env (bd s1 (.ref a)) (.cons rfl .nil) (yes H only seq)) fun r t q => ?_
  match r, q with
  | .error e, ⟨_, _, _, _, _, _, _, _, _, _, _, _, z⟩ => exact z.elim
  | .ok (.ret u), ⟨v, H2, q1, q2, q3, q4, q5, q6⟩ =>
    have q6 : v = .bl true := q6
    subst q6
    have q5 : u = Value.bool true := q5
    subst q5
    refine ⟨rfl, OldK.of_keep fun b o e => ?_, q1, q2⟩
    cases z : H b with
    | none => exact q3.keep b o e z (fun m => (nomatch m)) (fun m => (nomatch m))
    | some y =>
      have z' := z
      rw [eH] at z'
      obtain ⟨_, _, rfl⟩ := scH_some z'
      have e1 := (good b _ z).1
      have e2 := (q4 b _ (q3.frzs b _ _ z)).1
      rw [e] at e1
      cases e1
      exact e2
end
/-- the goal behind the top, for a promise over data that wants that no repr is under way -/
theorem walk_G {l : PySem.W.OpenLaw} {n k : Nat} {qr : Program} {loose : List Str} {XP : (Str → Option Value) → Heap → Prop} {YP : World → Heap → Prop} {d : DefRec} {K : Params → PySem.W.Frag} {x : Str} {sp : PySem.W.Frag → Sp}
    (m1 : l.most = some n) (m2 : n ≤ sizeLine) (nd : d.params.defaults = []) (rm : Room k callerA) (Y : ∀ (w : World) (h : Heap), YP w h → (K w.params).In h)
    (F : ∀ (w : World) (mg : Str → Option Value) (fa : Addr) (h : Heap), (K w.params).In h → h.Ns mainGlobals mg → mg d.name = some (.ref fa) →
      ∃ fd : FuncData, (∀ (s : Shared) (u : Value), BindsTo s fd ⟨[u], []⟩ [(x, u)]) ∧ ∀ base : Heap, (K w.params).In base → base.Ns mainGlobals mg → FnOkG l.prog w (K w.params) mg base (L2.CX l.prog w) k fa fd [x] (sp (K w.params)))
    (yes : ∀ (K : PySem.W.Frag) (H : Hp) (a : Addr) (ns : List Int), ns.length ≤ n → Only H → SqL K H a (ns.map V.int) → sp K [.ref a] H (fun v _ => v = .bl true) fun _ _ _ => False) :
    PySem.W.WalkO qr loose XP YP l.row.toRowW d [] (fun f vs => PySem.call f vs) :=
  Att.attach_call m1 nd fun w s0 s1 mg mb fa o pm cd doc a vs ns Gr Yh ho hd hcd hmg hobj hints hlen hg => by
    have KX := Y w _ Yh
    obtain ⟨fd, hb, hF⟩ := F w mg fa _ KX Gr.T.g hmg
    exact start_G KX Gr.T.g Gr.T.b Gr.T.builtins Gr.T.nolimit hg hobj hints (Nat.le_trans hlen m2) rm hF hb fun H hO hS => yes _ H a ns hlen hO hS
end DA

/-! things called by names in another order; the script as data -/
namespace DA
open PySem PySem.Spec PyProof.Rows L2 XR
def permV (is : List Nat) (l : List V) : List V := is.map fun i => l.getD i .non
def permU (is : List Nat) (l : List Value) : List Value := is.map fun i => l.getD i .none
section
variable {P : Program} {w : World} {K : PySem.W.Frag} {mg : Str → Option Value} {base : Heap} {EX : Exs} {x qual : Str} {st : Stmt} {f : Addr} {fd : FuncData} {ps ks : List Str} {k n : Nat} {G : List Sl → Rs PyData} {is : List Nat}
theorem vals_getD : ∀ {zs : List V} {ws : List Value} (i : Nat), Vals zs ws → RelV (zs.getD i .non) (ws.getD i .none)
  | [], _, i, h => by
    cases h
    rfl
  | z :: zs, _, 0, h => by
    cases h with
    | cons a b => exact a
  | z :: zs, _, i + 1, h => by
    cases h with
    | cons a b =>
      have := vals_getD i b
      simpa using this
theorem vals_perm {zs : List V} {ws : List Value} (h : Vals zs ws) : ∀ is : List Nat, Vals (permV is zs) (permU is ws)
  | [] => .nil
  | i :: is => .cons (vals_getD i h) (vals_perm h is)
theorem dq_getD {Hv : Hp} : ∀ {zs : List V} {ds : List PyData} (i : Nat), DqAll K Hv zs ds → Dq K Hv (zs.getD i .non) (ds.getD i .none)
  | [], _, i, h => by
    cases h
    exact .non
  | z :: zs, _, 0, h => by
    cases h with
    | cons a b => exact a
  | z :: zs, _, i + 1, h => by
    cases h with
    | cons a b =>
      have := dq_getD i b
      simpa using this
theorem dq_perm {Hv : Hp} {zs : List V} {ds : List PyData} (h : DqAll K Hv zs ds) : ∀ is : List Nat, DqAll K Hv (permV is zs) (permI is ds)
  | [] => .nil
  | i :: is => .cons (dq_getD i h) (dq_perm h is)
/-- a def with its promise, called by names that stand in the order is -/
theorem DfN.mk' (F : Fun K x qual st f fd) (g : mg x = some (.ref f)) (b : ∀ (s : Shared) (ws : List Value), ws.length = ks.length → BindsTo s fd ⟨[], ks.zip ws⟩ (ps.zip (permU is ws))) (ok : FnOk P w K mg base (L2.CX P w) k f fd ps (spG K EX n G)) : DfN P w K mg base EX k x n ks (permI is) G := by
  refine ⟨f, fd, ps, fun _ ws => permU is ws, fun _ zs => permV is zs, g, F.kp, ⟨fun s us ws X l1 l2 => ?_, fun r1 r2 => vals_perm r2 is⟩, ok, fun Hv zs ds h _ => dq_perm h is⟩
  match us, l1 with
  | [], _ => exact b s ws l2
theorem DfG.mk' (F : Fun K x qual st f fd) (g : mg x = some (.ref f)) (b : Binds K fd ps []) (hn : ps.length = n) (ok : FnOkG P w K mg base (L2.CX P w) k f fd ps (spG K EX n G)) : DfG P w K mg base EX k x n G := ⟨f, fd, ps, g, F.kp, b, hn, ok⟩
/-- the script, as data -/
theorem script_G {H : Hp} {a : Addr} {ns : List Int} {Q : VK} {E : XK} (hS : SqL K H a (ns.map V.int)) (hG : G [.d (.dict [(.none, .list (ns.map PyData.int))])] = .ok (.bool true) [none]) (hQ : ∀ H', Q (.bl true) H') : spG K EX 1 G [.ref a] H Q E := by
  have hv : ∀ h', (∀ b, h' b = H b) → Dq K h' (.ref a) (.dict [(.none, .list (ns.map PyData.int))]) := fun h' e => .scr (same_sql (fun b u q => (e b).trans q) hS) (ints_dq ns)
  refine ⟨fun _ => False, fun _ => none, fun _ _ => none, fun _ _ => 0, [.d (.dict [(.none, .list (ns.map PyData.int))])], rfl, rfl, ?_, ?_, ?_⟩
  · refine ⟨rfl, fun i s e => ?_, fun i j s t n m e1 e2 h1 h2 _ => ?_, fun b u e => (by cases e), fun b e => e.elim⟩
    · match i, e with
      | 0, e =>
        cases e
        refine ⟨.ref a, rfl, hv _ fun b => ?_⟩
        unfold vis
        refine if_neg fun z => z.elim (fun ⟨i, s, n, e, hn, _⟩ => ?_) fun z => z
        match i, e with
        | 0, e =>
          cases e
          exact absurd hn (Nat.not_lt_zero _)
    · match i, e1 with
      | 0, e1 =>
        cases e1
        exact absurd h1 (Nat.not_lt_zero _)
  · intro j s e o
    match j, e with
    | 0, e =>
      cases e
      cases o
  · rw [hG]
    intro μ v H' _ h
    rw [dq_bl h]
    exact hQ H'
theorem FnOkG.imp {CX : CXT} {sp sp' : Sp} (F : FnOkG P w K mg base CX k f fd ps sp) (h : ∀ vs H Q E, sp' vs H Q E → sp vs H Q E) : FnOkG P w K mg base CX k f fd ps sp' :=
  ⟨fun vs H Q E q => F.len vs H Q E (h _ _ _ _ q), fun A outer s H args us vs Q E hg hr he hb hv hs => F.run A outer s H args us vs Q E hg hr he hb hv (h _ _ _ _ hs)⟩
theorem FnOkG.of {CX : CXT} {sp : Sp} (F : FnOk P w K mg base CX k f fd ps sp) : FnOkG P w K mg base CX k f fd ps sp :=
  ⟨F.len, fun A outer s H args us vs Q E _ hr he hb hv hs => F.run A outer s H args us vs Q E hr he hb hv hs⟩
/-- what a law promises of its script -/
def spTop (K : PySem.W.Frag) : Sp := fun vs H Q _ => ∃ (a : Addr) (ns : List Int), vs = [.ref a] ∧ SqL K H a (ns.map V.int) ∧ ns.length ≤ 63 ∧ ∀ H', Q (.bl true) H'
theorem fin_G (F : FnOkG P w K mg base (L2.CX P w) k f fd ps (spG K EX 1 G)) (h : ∀ ns : List Int, ns.length ≤ 63 → G [.d (.dict [(.none, .list (ns.map PyData.int))])] = .ok (.bool true) [none]) : FnOkG P w K mg base (L2.CX P w) k f fd ps (spTop K) :=
  F.imp fun vs H Q E ⟨a, ns, e, hS, hl, hQ⟩ => by
    subst e
    exact script_G hS (h ns hl) hQ
end
end DA

namespace My
open PySem PySem.Spec PyProof.Rows L2 XR DA
theorem kit_ref {K : PySem.W.Frag} {t : Value} {C : Addr} {b : Bool} (h1 : PySem.W.isClsIn K C = true) (h2 : PySem.W.typeIn K (.ref C) = some (.type "type")) (h3 : PySem.W.subIn K t (.ref C) = some b) (hb : (t == .ref C) = true → b = true) : PySem.W.kitOne K t (.ref C) = some b := by
  unfold PySem.W.kitOne
  by_cases e : (t == .ref C) = true
  · rw [if_pos e, hb e]
  · rw [if_neg e]
    show (if ((PySem.W.clsIn K C).isSome && PySem.W.typeIn K (.ref C) == some (.type "type")) = true then PySem.W.subIn K t (.ref C) else none) = some b
    have h1' : (PySem.W.clsIn K C).isSome = true := h1
    rw [if_pos (by rw [h1', h2] <;> rfl)]
    exact h3
theorem exm_ref {K : PySem.W.Frag} {t : Value} {C : Addr} {b : Bool} (h0 : PySem.W.subIn K (.ref C) (.type "BaseException") = some true) (h1 : PySem.W.isClsIn K C = true) (h2 : PySem.W.typeIn K (.ref C) = some (.type "type")) (h3 : PySem.W.subIn K t (.ref C) = some b) : PySem.W.exmOne K t (.ref C) = some b := by
  show (if (PySem.W.subIn K (.ref C) (.type "BaseException") == some true) = true then (if ((PySem.W.clsIn K C).isSome && PySem.W.typeIn K (.ref C) == some (.type "type")) = true then PySem.W.subIn K t (.ref C) else none) else none) = some b
  have h1' : (PySem.W.clsIn K C).isSome = true := h1
  rw [if_pos (by rw [h0] <;> rfl), if_pos (by rw [h1', h2] <;> rfl)]
  exact h3
theorem kit_self {K : PySem.W.Frag} {t : Value} : PySem.W.kitOne K t t = some true := by
  unfold PySem.W.kitOne
  rw [if_pos (beq_self_eq_true t)]
theorem kit_bi {K : PySem.W.Frag} {C : Addr} {T : String} {b : Bool} (hm : PySem.W.kitMeta T = true) (h3 : PySem.W.subIn K (.ref C) (.type T) = some b) : PySem.W.kitOne K (.ref C) (.type T) = some b := by
  unfold PySem.W.kitOne
  rw [if_neg (by intro z; have := beq_iff_eq.mp z; cases this)]
  show (if PySem.W.kitMeta T = true then PySem.W.subIn K (.ref C) (.type T) else none) = some b
  rw [if_pos hm]
  exact h3
theorem ne_ref {a b : Addr} (h : a ≠ b) {x : Bool} : ((Value.ref a == Value.ref b) = true → x = true) := fun z => absurd (Value.ref.inj (beq_iff_eq.mp z)) h
/-- of unlike classes neither is below the other: so they stand apart -/
theorem sub_ne {K : PySem.W.Frag} {a b : Addr} (h : PySem.W.subIn K (.ref a) (.ref b) = some false) (g : PySem.W.subIn K (.ref a) (.type "BaseException") = some true) (s : PySem.W.selfFirst K a = true) : a ≠ b := by
  intro e
  subst e
  unfold PySem.W.selfFirst at s
  replace h : PySem.W.mroIn K a (.ref a) = some false := h
  unfold PySem.W.mroIn at h
  cases hc : PySem.W.clsIn K a with
  | none => rw [hc] at s; cases s
  | some cd =>
    rw [hc] at s h
    simp only [Option.any_some, Option.bind_some, beq_iff_eq] at s h
    cases hm : cd.mro with
    | nil => rw [hm] at s; cases s
    | cons x r =>
      rw [hm] at s h
      have s' : some x = some (Value.ref a) := s
      cases s'
      simp at h

theorem all_mk {P : Program} {w : World} {K : PySem.W.Frag} {h : Heap} {mg : Str → Option Value} {fa c0 c1 c2 c3 c4 c5 c6 c7 c8 c9 cL : Addr} {tk0 : Tok}
    {nmT qT : Str} {NT : Addr} {bsT : List Value} {snT : List Str} {subT : List Value} {abT : Bool} {colT : Option Bool} {ddT : Option Addr} {m0T m1T m2T m3T m5T : Option Value} {ocT kVT docT pmT cdvT ctT oTT : Value} {odT anT oDT : Option Addr} {oslT slT : Array (Option Value)} {nT : Nat} {fT dT : Addr}
    {t12 t18 : Tok}
    {kKp0 kKp1 kKp2 kKp3 kKp4 kKp5 kKp6 kKp7 kKp8 kKp9 : Tok} {aKp : Addr} {oKp : Option Addr} {nKp : Nat} {slKp : Array (Option Value)}
    {kLo0 kLo1 kLo2 kLo3 kLo4 kLo5 : Tok} {aLo : Addr} {oLo : Option Addr} {nLo : Nat} {slLo : Array (Option Value)}
    {kSh0 kSh1 kSh2 kSh3 kSh4 kSh5 kSh6 kSh7 kSh8 kSh9 kSh10 kSh11 kSh12 kSh13 kSh14 kSh15 kSh16 kSh17 kSh18 kSh19 : Tok} {aSh : Addr} {oSh : Option Addr} {nSh : Nat} {slSh : Array (Option Value)}
    {aocPl akVPl adocPl apmPl acdPl actPl : Value} {aodPl aanPl : Option Addr} {aslPl : Array (Option Value)} {afPl : Addr}
    {aocPf akVPf adocPf apmPf acdPf actPf : Value} {aodPf aanPf : Option Addr} {aslPf : Array (Option Value)} {afPf : Addr}
    {aocPx akVPx adocPx apmPx acdPx actPx : Value} {aodPx aanPx : Option Addr} {aslPx : Array (Option Value)} {afPx : Addr}
    {aocPn akVPn adocPn apmPn acdPn actPn : Value} {aodPn aanPn : Option Addr} {aslPn : Array (Option Value)} {afPn : Addr}
    {aocPp akVPp adocPp apmPp acdPp actPp : Value} {aodPp aanPp : Option Addr} {aslPp : Array (Option Value)} {afPp : Addr}
    {aocPu akVPu adocPu apmPu acdPu actPu : Value} {aodPu aanPu : Option Addr} {aslPu : Array (Option Value)} {afPu : Addr}
    {aocPr akVPr adocPr apmPr acdPr actPr : Value} {aodPr aanPr : Option Addr} {aslPr : Array (Option Value)} {afPr : Addr}
    {aocPs akVPs adocPs apmPs acdPs actPs : Value} {aodPs aanPs : Option Addr} {aslPs : Array (Option Value)} {afPs : Addr}
    {aocPg akVPg adocPg apmPg acdPg actPg : Value} {aodPg aanPg : Option Addr} {aslPg : Array (Option Value)} {afPg : Addr}
    {aocPw akVPw adocPw apmPw acdPw actPw : Value} {aodPw aanPw : Option Addr} {aslPw : Array (Option Value)} {afPw : Addr}
    {aocLo2 akVLo2 adocLo2 apmLo2 acdLo2 actLo2 : Value} {aodLo2 aanLo2 : Option Addr} {aslLo2 : Array (Option Value)} {afLo2 : Addr}
    {aocleast_stretch akVleast_stretch adocleast_stretch apmleast_stretch acdleast_stretch actleast_stretch : Value} {aodleast_stretch aanleast_stretch : Option Addr} {aslleast_stretch : Array (Option Value)} {afleast_stretch : Addr}
    {aocis_whole akVis_whole adocis_whole apmis_whole acdis_whole actis_whole : Value} {aodis_whole aanis_whole : Option Addr} {aslis_whole : Array (Option Value)} {afis_whole : Addr}
    {aocis_entry akVis_entry adocis_entry apmis_entry acdis_entry actis_entry : Value} {aodis_entry aanis_entry : Option Addr} {aslis_entry : Array (Option Value)} {afis_entry : Addr}
    {aocis_entry_of akVis_entry_of adocis_entry_of apmis_entry_of acdis_entry_of actis_entry_of : Value} {aodis_entry_of aanis_entry_of : Option Addr} {aslis_entry_of : Array (Option Value)} {afis_entry_of : Addr}
    {aocis_map akVis_map adocis_map apmis_map acdis_map actis_map : Value} {aodis_map aanis_map : Option Addr} {aslis_map : Array (Option Value)} {afis_map : Addr}
    {aoclead akVlead adoclead apmlead acdlead actlead : Value} {aodlead aanlead : Option Addr} {asllead : Array (Option Value)} {aflead : Addr}
    {aocstretch_of akVstretch_of adocstretch_of apmstretch_of acdstretch_of actstretch_of : Value} {aodstretch_of aanstretch_of : Option Addr} {aslstretch_of : Array (Option Value)} {afstretch_of : Addr}
    {aocafter akVafter adocafter apmafter acdafter actafter : Value} {aodafter aanafter : Option Addr} {aslafter : Array (Option Value)} {afafter : Addr}
    {aoclaw_mixed akVlaw_mixed adoclaw_mixed apmlaw_mixed acdlaw_mixed actlaw_mixed : Value} {aodlaw_mixed aanlaw_mixed : Option Addr} {asllaw_mixed : Array (Option Value)} {aflaw_mixed : Addr}
    {aoclaw_cell akVlaw_cell adoclaw_cell apmlaw_cell acdlaw_cell actlaw_cell : Value} {aodlaw_cell aanlaw_cell : Option Addr} {asllaw_cell : Array (Option Value)} {aflaw_cell : Addr}
    {aoclaw_take akVlaw_take adoclaw_take apmlaw_take acdlaw_take actlaw_take : Value} {aodlaw_take aanlaw_take : Option Addr} {asllaw_take : Array (Option Value)} {aflaw_take : Addr}
    {aoclaw_text akVlaw_text adoclaw_text apmlaw_text acdlaw_text actlaw_text : Value} {aodlaw_text aanlaw_text : Option Addr} {asllaw_text : Array (Option Value)} {aflaw_text : Addr}
    {aoclaw_map akVlaw_map adoclaw_map apmlaw_map acdlaw_map actlaw_map : Value} {aodlaw_map aanlaw_map : Option Addr} {asllaw_map : Array (Option Value)} {aflaw_map : Addr}
    {aoclaw_asked akVlaw_asked adoclaw_asked apmlaw_asked acdlaw_asked actlaw_asked : Value} {aodlaw_asked aanlaw_asked : Option Addr} {asllaw_asked : Array (Option Value)} {aflaw_asked : Addr}
    {aoclaw_bent akVlaw_bent adoclaw_bent apmlaw_bent acdlaw_bent actlaw_bent : Value} {aodlaw_bent aanlaw_bent : Option Addr} {asllaw_bent : Array (Option Value)} {aflaw_bent : Addr}
    {aoclaw_map_good akVlaw_map_good adoclaw_map_good apmlaw_map_good acdlaw_map_good actlaw_map_good : Value} {aodlaw_map_good aanlaw_map_good : Option Addr} {asllaw_map_good : Array (Option Value)} {aflaw_map_good : Addr}
    {aoclaw_led_good akVlaw_led_good adoclaw_led_good apmlaw_led_good acdlaw_led_good actlaw_led_good : Value} {aodlaw_led_good aanlaw_led_good : Option Addr} {asllaw_led_good : Array (Option Value)} {aflaw_led_good : Addr}
    {aoclaw_after_good akVlaw_after_good adoclaw_after_good apmlaw_after_good acdlaw_after_good actlaw_after_good : Value} {aodlaw_after_good aanlaw_after_good : Option Addr} {asllaw_after_good : Array (Option Value)} {aflaw_after_good : Addr}
    {aoclaw akVlaw adoclaw apmlaw acdlaw actlaw : Value} {aodlaw aanlaw : Option Addr} {asllaw : Array (Option Value)} {aflaw : Addr}
    (X : K.In h) (G : h.Ns mainGlobals mg) (hfa : mg "law" = some (.ref fa))
    (g0 : PySem.W.nsIn K mainGlobals "NoCount" = some (some (.ref c0)))
    (g1 : PySem.W.nsIn K mainGlobals "NoLetters" = some (some (.ref c1)))
    (g2 : PySem.W.nsIn K mainGlobals "NoLine" = some (some (.ref c2)))
    (g3 : PySem.W.nsIn K mainGlobals "NoMap" = some (some (.ref c3)))
    (g4 : PySem.W.nsIn K mainGlobals "NoNaming" = some (some (.ref c4)))
    (g5 : PySem.W.nsIn K mainGlobals "NoPath" = some (some (.ref c5)))
    (g6 : PySem.W.nsIn K mainGlobals "NoText" = some (some (.ref c6)))
    (g7 : PySem.W.nsIn K mainGlobals "NoTree" = some (some (.ref c7)))
    (g8 : PySem.W.nsIn K mainGlobals "NoTurning" = some (some (.ref c8)))
    (g9 : PySem.W.nsIn K mainGlobals "TooMany" = some (some (.ref c9)))
    (gL : PySem.W.nsIn K mainGlobals "LeanError" = some (some (.ref cL)))
    (z_ValueError : PySem.W.nsIn K mainGlobals "ValueError" = some none)
    (sn : PySem.W.specialIn K (.builtin "object.__class__") "__get__" = some (some (.builtin "getset_descriptor.__get__")))
    (st : PySem.W.takesIn K (.builtin "object.__class__") = some true)
    (hc0 : PySem.W.isClsIn K c0 = true)
    (hg0 : PySem.W.findIn K (.ref c0) "__getattribute__" = some (some (.builtin "BaseException.__getattribute__")))
    (hk0 : PySem.W.findIn K (.ref c0) "__getattr__" = some none)
    (hs0 : PySem.W.subIn K (.ref c0) (.type "BaseException") = some true)
    (hd0 : PySem.W.hasDictIn K c0 = true)
    (ha0 : PySem.W.findIn K (.ref c0) "__class__" = some (some (.builtin "object.__class__")))
    (hm0 : PySem.W.mroIn K c0 (.type "object") = some true)
    (ht0 : PySem.W.typeIn K (.ref c0) = some (.type "type"))
    (sV0 : PySem.W.subIn K (.ref c0) (.type "ValueError") = some true)
    (sL0 : PySem.W.subIn K (.ref c0) (.ref cL) = some true)
    (s0_1 : PySem.W.subIn K (.ref c0) (.ref c1) = some false)
    (s0_2 : PySem.W.subIn K (.ref c0) (.ref c2) = some false)
    (s0_3 : PySem.W.subIn K (.ref c0) (.ref c3) = some false)
    (s0_4 : PySem.W.subIn K (.ref c0) (.ref c4) = some false)
    (s0_5 : PySem.W.subIn K (.ref c0) (.ref c5) = some false)
    (s0_6 : PySem.W.subIn K (.ref c0) (.ref c6) = some false)
    (s0_7 : PySem.W.subIn K (.ref c0) (.ref c7) = some false)
    (s0_8 : PySem.W.subIn K (.ref c0) (.ref c8) = some false)
    (s0_9 : PySem.W.subIn K (.ref c0) (.ref c9) = some false)
    (sf0 : PySem.W.selfFirst K c0 = true)
    (hc1 : PySem.W.isClsIn K c1 = true)
    (hg1 : PySem.W.findIn K (.ref c1) "__getattribute__" = some (some (.builtin "BaseException.__getattribute__")))
    (hk1 : PySem.W.findIn K (.ref c1) "__getattr__" = some none)
    (hs1 : PySem.W.subIn K (.ref c1) (.type "BaseException") = some true)
    (hd1 : PySem.W.hasDictIn K c1 = true)
    (ha1 : PySem.W.findIn K (.ref c1) "__class__" = some (some (.builtin "object.__class__")))
    (hm1 : PySem.W.mroIn K c1 (.type "object") = some true)
    (ht1 : PySem.W.typeIn K (.ref c1) = some (.type "type"))
    (sV1 : PySem.W.subIn K (.ref c1) (.type "ValueError") = some true)
    (sL1 : PySem.W.subIn K (.ref c1) (.ref cL) = some true)
    (s1_0 : PySem.W.subIn K (.ref c1) (.ref c0) = some false)
    (s1_2 : PySem.W.subIn K (.ref c1) (.ref c2) = some false)
    (s1_3 : PySem.W.subIn K (.ref c1) (.ref c3) = some false)
    (s1_4 : PySem.W.subIn K (.ref c1) (.ref c4) = some false)
    (s1_5 : PySem.W.subIn K (.ref c1) (.ref c5) = some false)
    (s1_6 : PySem.W.subIn K (.ref c1) (.ref c6) = some false)
    (s1_7 : PySem.W.subIn K (.ref c1) (.ref c7) = some false)
    (s1_8 : PySem.W.subIn K (.ref c1) (.ref c8) = some false)
    (s1_9 : PySem.W.subIn K (.ref c1) (.ref c9) = some false)
    (sf1 : PySem.W.selfFirst K c1 = true)
    (hc2 : PySem.W.isClsIn K c2 = true)
    (hg2 : PySem.W.findIn K (.ref c2) "__getattribute__" = some (some (.builtin "BaseException.__getattribute__")))
    (hk2 : PySem.W.findIn K (.ref c2) "__getattr__" = some none)
    (hs2 : PySem.W.subIn K (.ref c2) (.type "BaseException") = some true)
    (hd2 : PySem.W.hasDictIn K c2 = true)
    (ha2 : PySem.W.findIn K (.ref c2) "__class__" = some (some (.builtin "object.__class__")))
    (hm2 : PySem.W.mroIn K c2 (.type "object") = some true)
    (ht2 : PySem.W.typeIn K (.ref c2) = some (.type "type"))
    (sV2 : PySem.W.subIn K (.ref c2) (.type "ValueError") = some true)
    (sL2 : PySem.W.subIn K (.ref c2) (.ref cL) = some true)
    (s2_0 : PySem.W.subIn K (.ref c2) (.ref c0) = some false)
    (s2_1 : PySem.W.subIn K (.ref c2) (.ref c1) = some false)
    (s2_3 : PySem.W.subIn K (.ref c2) (.ref c3) = some false)
    (s2_4 : PySem.W.subIn K (.ref c2) (.ref c4) = some false)
    (s2_5 : PySem.W.subIn K (.ref c2) (.ref c5) = some false)
    (s2_6 : PySem.W.subIn K (.ref c2) (.ref c6) = some false)
    (s2_7 : PySem.W.subIn K (.ref c2) (.ref c7) = some false)
    (s2_8 : PySem.W.subIn K (.ref c2) (.ref c8) = some false)
    (s2_9 : PySem.W.subIn K (.ref c2) (.ref c9) = some false)
    (sf2 : PySem.W.selfFirst K c2 = true)
    (hc3 : PySem.W.isClsIn K c3 = true)
    (hg3 : PySem.W.findIn K (.ref c3) "__getattribute__" = some (some (.builtin "BaseException.__getattribute__")))
    (hk3 : PySem.W.findIn K (.ref c3) "__getattr__" = some none)
    (hs3 : PySem.W.subIn K (.ref c3) (.type "BaseException") = some true)
    (hd3 : PySem.W.hasDictIn K c3 = true)
    (ha3 : PySem.W.findIn K (.ref c3) "__class__" = some (some (.builtin "object.__class__")))
    (hm3 : PySem.W.mroIn K c3 (.type "object") = some true)
    (ht3 : PySem.W.typeIn K (.ref c3) = some (.type "type"))
    (sV3 : PySem.W.subIn K (.ref c3) (.type "ValueError") = some true)
    (sL3 : PySem.W.subIn K (.ref c3) (.ref cL) = some true)
    (s3_0 : PySem.W.subIn K (.ref c3) (.ref c0) = some false)
    (s3_1 : PySem.W.subIn K (.ref c3) (.ref c1) = some false)
    (s3_2 : PySem.W.subIn K (.ref c3) (.ref c2) = some false)
    (s3_4 : PySem.W.subIn K (.ref c3) (.ref c4) = some false)
    (s3_5 : PySem.W.subIn K (.ref c3) (.ref c5) = some false)
    (s3_6 : PySem.W.subIn K (.ref c3) (.ref c6) = some false)
    (s3_7 : PySem.W.subIn K (.ref c3) (.ref c7) = some false)
    (s3_8 : PySem.W.subIn K (.ref c3) (.ref c8) = some false)
    (s3_9 : PySem.W.subIn K (.ref c3) (.ref c9) = some false)
    (sf3 : PySem.W.selfFirst K c3 = true)
    (hc4 : PySem.W.isClsIn K c4 = true)
    (hg4 : PySem.W.findIn K (.ref c4) "__getattribute__" = some (some (.builtin "BaseException.__getattribute__")))
    (hk4 : PySem.W.findIn K (.ref c4) "__getattr__" = some none)
    (hs4 : PySem.W.subIn K (.ref c4) (.type "BaseException") = some true)
    (hd4 : PySem.W.hasDictIn K c4 = true)
    (ha4 : PySem.W.findIn K (.ref c4) "__class__" = some (some (.builtin "object.__class__")))
    (hm4 : PySem.W.mroIn K c4 (.type "object") = some true)
    (ht4 : PySem.W.typeIn K (.ref c4) = some (.type "type"))
    (sV4 : PySem.W.subIn K (.ref c4) (.type "ValueError") = some true)
    (sL4 : PySem.W.subIn K (.ref c4) (.ref cL) = some true)
    (s4_0 : PySem.W.subIn K (.ref c4) (.ref c0) = some false)
    (s4_1 : PySem.W.subIn K (.ref c4) (.ref c1) = some false)
    (s4_2 : PySem.W.subIn K (.ref c4) (.ref c2) = some false)
    (s4_3 : PySem.W.subIn K (.ref c4) (.ref c3) = some false)
    (s4_5 : PySem.W.subIn K (.ref c4) (.ref c5) = some false)
    (s4_6 : PySem.W.subIn K (.ref c4) (.ref c6) = some false)
    (s4_7 : PySem.W.subIn K (.ref c4) (.ref c7) = some false)
    (s4_8 : PySem.W.subIn K (.ref c4) (.ref c8) = some false)
    (s4_9 : PySem.W.subIn K (.ref c4) (.ref c9) = some false)
    (sf4 : PySem.W.selfFirst K c4 = true)
    (hc5 : PySem.W.isClsIn K c5 = true)
    (hg5 : PySem.W.findIn K (.ref c5) "__getattribute__" = some (some (.builtin "BaseException.__getattribute__")))
    (hk5 : PySem.W.findIn K (.ref c5) "__getattr__" = some none)
    (hs5 : PySem.W.subIn K (.ref c5) (.type "BaseException") = some true)
    (hd5 : PySem.W.hasDictIn K c5 = true)
    (ha5 : PySem.W.findIn K (.ref c5) "__class__" = some (some (.builtin "object.__class__")))
    (hm5 : PySem.W.mroIn K c5 (.type "object") = some true)
    (ht5 : PySem.W.typeIn K (.ref c5) = some (.type "type"))
    (sV5 : PySem.W.subIn K (.ref c5) (.type "ValueError") = some true)
    (sL5 : PySem.W.subIn K (.ref c5) (.ref cL) = some true)
    (s5_0 : PySem.W.subIn K (.ref c5) (.ref c0) = some false)
    (s5_1 : PySem.W.subIn K (.ref c5) (.ref c1) = some false)
    (s5_2 : PySem.W.subIn K (.ref c5) (.ref c2) = some false)
    (s5_3 : PySem.W.subIn K (.ref c5) (.ref c3) = some false)
    (s5_4 : PySem.W.subIn K (.ref c5) (.ref c4) = some false)
    (s5_6 : PySem.W.subIn K (.ref c5) (.ref c6) = some false)
    (s5_7 : PySem.W.subIn K (.ref c5) (.ref c7) = some false)
    (s5_8 : PySem.W.subIn K (.ref c5) (.ref c8) = some false)
    (s5_9 : PySem.W.subIn K (.ref c5) (.ref c9) = some false)
    (sf5 : PySem.W.selfFirst K c5 = true)
    (hc6 : PySem.W.isClsIn K c6 = true)
    (hg6 : PySem.W.findIn K (.ref c6) "__getattribute__" = some (some (.builtin "BaseException.__getattribute__")))
    (hk6 : PySem.W.findIn K (.ref c6) "__getattr__" = some none)
    (hs6 : PySem.W.subIn K (.ref c6) (.type "BaseException") = some true)
    (hd6 : PySem.W.hasDictIn K c6 = true)
    (ha6 : PySem.W.findIn K (.ref c6) "__class__" = some (some (.builtin "object.__class__")))
    (hm6 : PySem.W.mroIn K c6 (.type "object") = some true)
    (ht6 : PySem.W.typeIn K (.ref c6) = some (.type "type"))
    (sV6 : PySem.W.subIn K (.ref c6) (.type "ValueError") = some true)
    (sL6 : PySem.W.subIn K (.ref c6) (.ref cL) = some true)
    (s6_0 : PySem.W.subIn K (.ref c6) (.ref c0) = some false)
    (s6_1 : PySem.W.subIn K (.ref c6) (.ref c1) = some false)
    (s6_2 : PySem.W.subIn K (.ref c6) (.ref c2) = some false)
    (s6_3 : PySem.W.subIn K (.ref c6) (.ref c3) = some false)
    (s6_4 : PySem.W.subIn K (.ref c6) (.ref c4) = some false)
    (s6_5 : PySem.W.subIn K (.ref c6) (.ref c5) = some false)
    (s6_7 : PySem.W.subIn K (.ref c6) (.ref c7) = some false)
    (s6_8 : PySem.W.subIn K (.ref c6) (.ref c8) = some false)
    (s6_9 : PySem.W.subIn K (.ref c6) (.ref c9) = some false)
    (sf6 : PySem.W.selfFirst K c6 = true)
    (hc7 : PySem.W.isClsIn K c7 = true)
    (hg7 : PySem.W.findIn K (.ref c7) "__getattribute__" = some (some (.builtin "BaseException.__getattribute__")))
    (hk7 : PySem.W.findIn K (.ref c7) "__getattr__" = some none)
    (hs7 : PySem.W.subIn K (.ref c7) (.type "BaseException") = some true)
    (hd7 : PySem.W.hasDictIn K c7 = true)
    (ha7 : PySem.W.findIn K (.ref c7) "__class__" = some (some (.builtin "object.__class__")))
    (hm7 : PySem.W.mroIn K c7 (.type "object") = some true)
    (ht7 : PySem.W.typeIn K (.ref c7) = some (.type "type"))
    (sV7 : PySem.W.subIn K (.ref c7) (.type "ValueError") = some true)
    (sL7 : PySem.W.subIn K (.ref c7) (.ref cL) = some true)
    (s7_0 : PySem.W.subIn K (.ref c7) (.ref c0) = some false)
    (s7_1 : PySem.W.subIn K (.ref c7) (.ref c1) = some false)
    (s7_2 : PySem.W.subIn K (.ref c7) (.ref c2) = some false)
    (s7_3 : PySem.W.subIn K (.ref c7) (.ref c3) = some false)
    (s7_4 : PySem.W.subIn K (.ref c7) (.ref c4) = some false)
    (s7_5 : PySem.W.subIn K (.ref c7) (.ref c5) = some false)
    (s7_6 : PySem.W.subIn K (.ref c7) (.ref c6) = some false)
    (s7_8 : PySem.W.subIn K (.ref c7) (.ref c8) = some false)
    (s7_9 : PySem.W.subIn K (.ref c7) (.ref c9) = some false)
    (sf7 : PySem.W.selfFirst K c7 = true)
    (hc8 : PySem.W.isClsIn K c8 = true)
    (hg8 : PySem.W.findIn K (.ref c8) "__getattribute__" = some (some (.builtin "BaseException.__getattribute__")))
    (hk8 : PySem.W.findIn K (.ref c8) "__getattr__" = some none)
    (hs8 : PySem.W.subIn K (.ref c8) (.type "BaseException") = some true)
    (hd8 : PySem.W.hasDictIn K c8 = true)
    (ha8 : PySem.W.findIn K (.ref c8) "__class__" = some (some (.builtin "object.__class__")))
    (hm8 : PySem.W.mroIn K c8 (.type "object") = some true)
    (ht8 : PySem.W.typeIn K (.ref c8) = some (.type "type"))
    (sV8 : PySem.W.subIn K (.ref c8) (.type "ValueError") = some true)
    (sL8 : PySem.W.subIn K (.ref c8) (.ref cL) = some true)
    (s8_0 : PySem.W.subIn K (.ref c8) (.ref c0) = some false)
    (s8_1 : PySem.W.subIn K (.ref c8) (.ref c1) = some false)
    (s8_2 : PySem.W.subIn K (.ref c8) (.ref c2) = some false)
    (s8_3 : PySem.W.subIn K (.ref c8) (.ref c3) = some false)
    (s8_4 : PySem.W.subIn K (.ref c8) (.ref c4) = some false)
    (s8_5 : PySem.W.subIn K (.ref c8) (.ref c5) = some false)
    (s8_6 : PySem.W.subIn K (.ref c8) (.ref c6) = some false)
    (s8_7 : PySem.W.subIn K (.ref c8) (.ref c7) = some false)
    (s8_9 : PySem.W.subIn K (.ref c8) (.ref c9) = some false)
    (sf8 : PySem.W.selfFirst K c8 = true)
    (hc9 : PySem.W.isClsIn K c9 = true)
    (hg9 : PySem.W.findIn K (.ref c9) "__getattribute__" = some (some (.builtin "BaseException.__getattribute__")))
    (hk9 : PySem.W.findIn K (.ref c9) "__getattr__" = some none)
    (hs9 : PySem.W.subIn K (.ref c9) (.type "BaseException") = some true)
    (hd9 : PySem.W.hasDictIn K c9 = true)
    (ha9 : PySem.W.findIn K (.ref c9) "__class__" = some (some (.builtin "object.__class__")))
    (hm9 : PySem.W.mroIn K c9 (.type "object") = some true)
    (ht9 : PySem.W.typeIn K (.ref c9) = some (.type "type"))
    (sV9 : PySem.W.subIn K (.ref c9) (.type "ValueError") = some true)
    (sL9 : PySem.W.subIn K (.ref c9) (.ref cL) = some true)
    (s9_0 : PySem.W.subIn K (.ref c9) (.ref c0) = some false)
    (s9_1 : PySem.W.subIn K (.ref c9) (.ref c1) = some false)
    (s9_2 : PySem.W.subIn K (.ref c9) (.ref c2) = some false)
    (s9_3 : PySem.W.subIn K (.ref c9) (.ref c3) = some false)
    (s9_4 : PySem.W.subIn K (.ref c9) (.ref c4) = some false)
    (s9_5 : PySem.W.subIn K (.ref c9) (.ref c5) = some false)
    (s9_6 : PySem.W.subIn K (.ref c9) (.ref c6) = some false)
    (s9_7 : PySem.W.subIn K (.ref c9) (.ref c7) = some false)
    (s9_8 : PySem.W.subIn K (.ref c9) (.ref c8) = some false)
    (sf9 : PySem.W.selfFirst K c9 = true)
    (cL1 : PySem.W.isClsIn K cL = true)
    (cL2 : PySem.W.typeIn K (.ref cL) = some (.type "type"))
    (bL : PySem.W.subIn K (.ref cL) (.type "BaseException") = some true)
    (z_isinstance : PySem.W.nsIn K mainGlobals "isinstance" = some none)
    (z_zip : PySem.W.nsIn K mainGlobals "zip" = some none)
    (xT : K.lookup c6 = some (excClassObj nmT qT c6 NT bsT (.ref cL :: [.type "ValueError", .type "Exception", .type "BaseException", .type "object"]) true snT subT abT colT ddT m0T m1T m2T m3T m5T "ValueError.__new__"))
    (saT : PySem.W.findIn K (.ref c6) "__setattr__" = some (some (.builtin "object.__setattr__")))
    (kcT : PySem.W.keepIn K (.ref c6) = true)
    (icT : PySem.W.findIn K (.ref c6) "__init__" = some (some (.ref fT)))
    (tiT : PySem.W.typeIn K (.ref fT) = some (.type "function"))
    (lfT : K.lookup fT = some ⟨ocT, odT, .func (PySem.W.fnOf "__init__" "NoText.__init__" (defArgs iText) (defBody iText) (defScope iText) (.ref dT) kVT docT pmT anT cdvT ctT), oslT⟩)
    (cfT : PySem.W.codeIn K cdvT "NoText.__init__" = true)
    (kfT : PySem.W.keepIn K (.ref fT) = true)
    (ldT : K.lookup dT = some ⟨oTT, oDT, .seq ([.int 0 tk0] : List Value).toArray nT, slT⟩)
    (nTat : PySem.W.findIn K (.ref c6) "at" = some none)
    (q12 : PySem.W.nsIn K mainGlobals "MOST_LETTERS" = some (some (.int 12 t12)))
    (q18 : PySem.W.nsIn K mainGlobals "MOST_FIGURES" = some (some (.int 18 t18)))
    (qKp : PySem.W.nsIn K mainGlobals "KEPT" = some (some (.ref aKp)))
    (lKp : K.lookup aKp = some ⟨.type "tuple", oKp, .seq ([.str "let" kKp0, .str "if" kKp1, .str "else" kKp2, .str "while" kKp3, .str "return" kKp4, .str "fail" kKp5, .str "try" kKp6, .str "catch" kKp7, .str "out" kKp8, .str "fn" kKp9] : List Value).toArray nKp, slKp⟩)
    (qLo : PySem.W.nsIn K mainGlobals "LONG_SIGNS" = some (some (.ref aLo)))
    (lLo : K.lookup aLo = some ⟨.type "tuple", oLo, .seq ([.str "<=" kLo0, .str ">=" kLo1, .str "==" kLo2, .str "!=" kLo3, .str "&&" kLo4, .str "||" kLo5] : List Value).toArray nLo, slLo⟩)
    (qSh : PySem.W.nsIn K mainGlobals "SHORT_SIGNS" = some (some (.ref aSh)))
    (lSh : K.lookup aSh = some ⟨.type "tuple", oSh, .seq ([.str "+" kSh0, .str "-" kSh1, .str "*" kSh2, .str "/" kSh3, .str "~" kSh4, .str "<" kSh5, .str ">" kSh6, .str "!" kSh7, .str "?" kSh8, .str ":" kSh9, .str "." kSh10, .str "," kSh11, .str "=" kSh12, .str "(" kSh13, .str ")" kSh14, .str "{" kSh15, .str "}" kSh16, .str "[" kSh17, .str "]" kSh18, .str ";" kSh19] : List Value).toArray nSh, slSh⟩)
    (z_len : PySem.W.nsIn K mainGlobals "len" = some none)
    (z_range : PySem.W.nsIn K mainGlobals "range" = some none)
    (z_enumerate : PySem.W.nsIn K mainGlobals "enumerate" = some none)
    (z_sorted : PySem.W.nsIn K mainGlobals "sorted" = some none)
    (z_sum : PySem.W.nsIn K mainGlobals "sum" = some none)
    (z_all : PySem.W.nsIn K mainGlobals "all" = some none)
    (z_any : PySem.W.nsIn K mainGlobals "any" = some none)
    (z_int : PySem.W.nsIn K mainGlobals "int" = some none)
    (z_str : PySem.W.nsIn K mainGlobals "str" = some none)
    (z_list : PySem.W.nsIn K mainGlobals "list" = some none)
    (z_tuple : PySem.W.nsIn K mainGlobals "tuple" = some none)
    (z_set : PySem.W.nsIn K mainGlobals "set" = some none)
    (z_dict : PySem.W.nsIn K mainGlobals "dict" = some none)
    (z_bool : PySem.W.nsIn K mainGlobals "bool" = some none)
    (z_min : PySem.W.nsIn K mainGlobals "min" = some none)
    (z_max : PySem.W.nsIn K mainGlobals "max" = some none)
    (z_abs : PySem.W.nsIn K mainGlobals "abs" = some none)
    (z_type : PySem.W.nsIn K mainGlobals "type" = some none)
    (z_reversed : PySem.W.nsIn K mainGlobals "reversed" = some none)
    (z_repr : PySem.W.nsIn K mainGlobals "repr" = some none)
    (aPl : PySem.W.nsIn K mainGlobals "is_letter" = some (some (.ref afPl)))
    (alPl : K.lookup afPl = some ⟨aocPl, aodPl, .func (PySem.W.fnOf "is_letter" "is_letter" (defArgs sLetter) (defBody sLetter) (defScope sLetter) .none akVPl adocPl apmPl aanPl acdPl actPl), aslPl⟩)
    (acPl : PySem.W.codeIn K acdPl "is_letter" = true)
    (akPl : PySem.W.keepIn K (.ref afPl) = true)
    (aPf : PySem.W.nsIn K mainGlobals "is_figure" = some (some (.ref afPf)))
    (alPf : K.lookup afPf = some ⟨aocPf, aodPf, .func (PySem.W.fnOf "is_figure" "is_figure" (defArgs sFigure) (defBody sFigure) (defScope sFigure) .none akVPf adocPf apmPf aanPf acdPf actPf), aslPf⟩)
    (acPf : PySem.W.codeIn K acdPf "is_figure" = true)
    (akPf : PySem.W.keepIn K (.ref afPf) = true)
    (aPx : PySem.W.nsIn K mainGlobals "is_letter_or_figure" = some (some (.ref afPx)))
    (alPx : K.lookup afPx = some ⟨aocPx, aodPx, .func (PySem.W.fnOf "is_letter_or_figure" "is_letter_or_figure" (defArgs sLF) (defBody sLF) (defScope sLF) .none akVPx adocPx apmPx aanPx acdPx actPx), aslPx⟩)
    (acPx : PySem.W.codeIn K acdPx "is_letter_or_figure" = true)
    (akPx : PySem.W.keepIn K (.ref afPx) = true)
    (aPn : PySem.W.nsIn K mainGlobals "is_name" = some (some (.ref afPn)))
    (alPn : K.lookup afPn = some ⟨aocPn, aodPn, .func (PySem.W.fnOf "is_name" "is_name" (defArgs sName) (defBody sName) (defScope sName) .none akVPn adocPn apmPn aanPn acdPn actPn), aslPn⟩)
    (acPn : PySem.W.codeIn K acdPn "is_name" = true)
    (akPn : PySem.W.keepIn K (.ref afPn) = true)
    (aPp : PySem.W.nsIn K mainGlobals "is_plain_number" = some (some (.ref afPp)))
    (alPp : K.lookup afPp = some ⟨aocPp, aodPp, .func (PySem.W.fnOf "is_plain_number" "is_plain_number" (defArgs sPlain) (defBody sPlain) (defScope sPlain) .none akVPp adocPp apmPp aanPp acdPp actPp), aslPp⟩)
    (acPp : PySem.W.codeIn K acdPp "is_plain_number" = true)
    (akPp : PySem.W.keepIn K (.ref afPp) = true)
    (aPu : PySem.W.nsIn K mainGlobals "is_number" = some (some (.ref afPu)))
    (alPu : K.lookup afPu = some ⟨aocPu, aodPu, .func (PySem.W.fnOf "is_number" "is_number" (defArgs sNumber) (defBody sNumber) (defScope sNumber) .none akVPu adocPu apmPu aanPu acdPu actPu), aslPu⟩)
    (acPu : PySem.W.codeIn K acdPu "is_number" = true)
    (akPu : PySem.W.keepIn K (.ref afPu) = true)
    (aPr : PySem.W.nsIn K mainGlobals "run_end" = some (some (.ref afPr)))
    (alPr : K.lookup afPr = some ⟨aocPr, aodPr, .func (PySem.W.fnOf "run_end" "run_end" (defArgs sRunEnd) (defBody sRunEnd) (defScope sRunEnd) .none akVPr adocPr apmPr aanPr acdPr actPr), aslPr⟩)
    (acPr : PySem.W.codeIn K acdPr "run_end" = true)
    (akPr : PySem.W.keepIn K (.ref afPr) = true)
    (aPs : PySem.W.nsIn K mainGlobals "sort_of" = some (some (.ref afPs)))
    (alPs : K.lookup afPs = some ⟨aocPs, aodPs, .func (PySem.W.fnOf "sort_of" "sort_of" (defArgs sSort) (defBody sSort) (defScope sSort) .none akVPs adocPs apmPs aanPs acdPs actPs), aslPs⟩)
    (acPs : PySem.W.codeIn K acdPs "sort_of" = true)
    (akPs : PySem.W.keepIn K (.ref afPs) = true)
    (aPg : PySem.W.nsIn K mainGlobals "sign_end" = some (some (.ref afPg)))
    (alPg : K.lookup afPg = some ⟨aocPg, aodPg, .func (PySem.W.fnOf "sign_end" "sign_end" (defArgs sSign) (defBody sSign) (defScope sSign) .none akVPg adocPg apmPg aanPg acdPg actPg), aslPg⟩)
    (acPg : PySem.W.codeIn K acdPg "sign_end" = true)
    (akPg : PySem.W.keepIn K (.ref afPg) = true)
    (aPw : PySem.W.nsIn K mainGlobals "words" = some (some (.ref afPw)))
    (alPw : K.lookup afPw = some ⟨aocPw, aodPw, .func (PySem.W.fnOf "words" "words" (defArgs sWords) (defBody sWords) (defScope sWords) .none akVPw adocPw apmPw aanPw acdPw actPw), aslPw⟩)
    (acPw : PySem.W.codeIn K acdPw "words" = true)
    (akPw : PySem.W.keepIn K (.ref afPw) = true)
    (aLo2 : PySem.W.nsIn K mainGlobals "_law_only" = some (some (.ref afLo2)))
    (alLo2 : K.lookup afLo2 = some ⟨aocLo2, aodLo2, .func (PySem.W.fnOf "_law_only" "_law_only" (defArgs sOnly) (defBody sOnly) (defScope sOnly) .none akVLo2 adocLo2 apmLo2 aanLo2 acdLo2 actLo2), aslLo2⟩)
    (acLo2 : PySem.W.codeIn K acdLo2 "_law_only" = true)
    (akLo2 : PySem.W.keepIn K (.ref afLo2) = true)
    (xc3 : PySem.W.excIn K c3 [.type "ValueError", .type "Exception", .type "BaseException", .type "object"] "ValueError.__new__" = true)
    (kb3 : PySem.W.keepIn K (.ref c3) = true)
    (aleast_stretch : PySem.W.nsIn K mainGlobals "least_stretch" = some (some (.ref afleast_stretch)))
    (alleast_stretch : K.lookup afleast_stretch = some ⟨aocleast_stretch, aodleast_stretch, .func (PySem.W.fnOf "least_stretch" "least_stretch" (defArgs s_least_stretch) (defBody s_least_stretch) (defScope s_least_stretch) .none akVleast_stretch adocleast_stretch apmleast_stretch aanleast_stretch acdleast_stretch actleast_stretch), aslleast_stretch⟩)
    (acleast_stretch : PySem.W.codeIn K acdleast_stretch "least_stretch" = true)
    (akleast_stretch : PySem.W.keepIn K (.ref afleast_stretch) = true)
    (ais_whole : PySem.W.nsIn K mainGlobals "is_whole" = some (some (.ref afis_whole)))
    (alis_whole : K.lookup afis_whole = some ⟨aocis_whole, aodis_whole, .func (PySem.W.fnOf "is_whole" "is_whole" (defArgs s_is_whole) (defBody s_is_whole) (defScope s_is_whole) .none akVis_whole adocis_whole apmis_whole aanis_whole acdis_whole actis_whole), aslis_whole⟩)
    (acis_whole : PySem.W.codeIn K acdis_whole "is_whole" = true)
    (akis_whole : PySem.W.keepIn K (.ref afis_whole) = true)
    (ais_entry : PySem.W.nsIn K mainGlobals "is_entry" = some (some (.ref afis_entry)))
    (alis_entry : K.lookup afis_entry = some ⟨aocis_entry, aodis_entry, .func (PySem.W.fnOf "is_entry" "is_entry" (defArgs s_is_entry) (defBody s_is_entry) (defScope s_is_entry) .none akVis_entry adocis_entry apmis_entry aanis_entry acdis_entry actis_entry), aslis_entry⟩)
    (acis_entry : PySem.W.codeIn K acdis_entry "is_entry" = true)
    (akis_entry : PySem.W.keepIn K (.ref afis_entry) = true)
    (ais_entry_of : PySem.W.nsIn K mainGlobals "is_entry_of" = some (some (.ref afis_entry_of)))
    (alis_entry_of : K.lookup afis_entry_of = some ⟨aocis_entry_of, aodis_entry_of, .func (PySem.W.fnOf "is_entry_of" "is_entry_of" (defArgs s_is_entry_of) (defBody s_is_entry_of) (defScope s_is_entry_of) .none akVis_entry_of adocis_entry_of apmis_entry_of aanis_entry_of acdis_entry_of actis_entry_of), aslis_entry_of⟩)
    (acis_entry_of : PySem.W.codeIn K acdis_entry_of "is_entry_of" = true)
    (akis_entry_of : PySem.W.keepIn K (.ref afis_entry_of) = true)
    (ais_map : PySem.W.nsIn K mainGlobals "is_map" = some (some (.ref afis_map)))
    (alis_map : K.lookup afis_map = some ⟨aocis_map, aodis_map, .func (PySem.W.fnOf "is_map" "is_map" (defArgs s_is_map) (defBody s_is_map) (defScope s_is_map) .none akVis_map adocis_map apmis_map aanis_map acdis_map actis_map), aslis_map⟩)
    (acis_map : PySem.W.codeIn K acdis_map "is_map" = true)
    (akis_map : PySem.W.keepIn K (.ref afis_map) = true)
    (alead : PySem.W.nsIn K mainGlobals "lead" = some (some (.ref aflead)))
    (allead : K.lookup aflead = some ⟨aoclead, aodlead, .func (PySem.W.fnOf "lead" "lead" (defArgs s_lead) (defBody s_lead) (defScope s_lead) .none akVlead adoclead apmlead aanlead acdlead actlead), asllead⟩)
    (aclead : PySem.W.codeIn K acdlead "lead" = true)
    (aklead : PySem.W.keepIn K (.ref aflead) = true)
    (astretch_of : PySem.W.nsIn K mainGlobals "stretch_of" = some (some (.ref afstretch_of)))
    (alstretch_of : K.lookup afstretch_of = some ⟨aocstretch_of, aodstretch_of, .func (PySem.W.fnOf "stretch_of" "stretch_of" (defArgs s_stretch_of) (defBody s_stretch_of) (defScope s_stretch_of) .none akVstretch_of adocstretch_of apmstretch_of aanstretch_of acdstretch_of actstretch_of), aslstretch_of⟩)
    (acstretch_of : PySem.W.codeIn K acdstretch_of "stretch_of" = true)
    (akstretch_of : PySem.W.keepIn K (.ref afstretch_of) = true)
    (aafter : PySem.W.nsIn K mainGlobals "after" = some (some (.ref afafter)))
    (alafter : K.lookup afafter = some ⟨aocafter, aodafter, .func (PySem.W.fnOf "after" "after" (defArgs s_after) (defBody s_after) (defScope s_after) .none akVafter adocafter apmafter aanafter acdafter actafter), aslafter⟩)
    (acafter : PySem.W.codeIn K acdafter "after" = true)
    (akafter : PySem.W.keepIn K (.ref afafter) = true)
    (alaw_mixed : PySem.W.nsIn K mainGlobals "_law_mixed" = some (some (.ref aflaw_mixed)))
    (allaw_mixed : K.lookup aflaw_mixed = some ⟨aoclaw_mixed, aodlaw_mixed, .func (PySem.W.fnOf "_law_mixed" "_law_mixed" (defArgs s_law_mixed) (defBody s_law_mixed) (defScope s_law_mixed) .none akVlaw_mixed adoclaw_mixed apmlaw_mixed aanlaw_mixed acdlaw_mixed actlaw_mixed), asllaw_mixed⟩)
    (aclaw_mixed : PySem.W.codeIn K acdlaw_mixed "_law_mixed" = true)
    (aklaw_mixed : PySem.W.keepIn K (.ref aflaw_mixed) = true)
    (alaw_cell : PySem.W.nsIn K mainGlobals "_law_cell" = some (some (.ref aflaw_cell)))
    (allaw_cell : K.lookup aflaw_cell = some ⟨aoclaw_cell, aodlaw_cell, .func (PySem.W.fnOf "_law_cell" "_law_cell" (defArgs s_law_cell) (defBody s_law_cell) (defScope s_law_cell) .none akVlaw_cell adoclaw_cell apmlaw_cell aanlaw_cell acdlaw_cell actlaw_cell), asllaw_cell⟩)
    (aclaw_cell : PySem.W.codeIn K acdlaw_cell "_law_cell" = true)
    (aklaw_cell : PySem.W.keepIn K (.ref aflaw_cell) = true)
    (alaw_take : PySem.W.nsIn K mainGlobals "_law_take" = some (some (.ref aflaw_take)))
    (allaw_take : K.lookup aflaw_take = some ⟨aoclaw_take, aodlaw_take, .func (PySem.W.fnOf "_law_take" "_law_take" (defArgs s_law_take) (defBody s_law_take) (defScope s_law_take) .none akVlaw_take adoclaw_take apmlaw_take aanlaw_take acdlaw_take actlaw_take), asllaw_take⟩)
    (aclaw_take : PySem.W.codeIn K acdlaw_take "_law_take" = true)
    (aklaw_take : PySem.W.keepIn K (.ref aflaw_take) = true)
    (alaw_text : PySem.W.nsIn K mainGlobals "_law_text" = some (some (.ref aflaw_text)))
    (allaw_text : K.lookup aflaw_text = some ⟨aoclaw_text, aodlaw_text, .func (PySem.W.fnOf "_law_text" "_law_text" (defArgs s_law_text) (defBody s_law_text) (defScope s_law_text) .none akVlaw_text adoclaw_text apmlaw_text aanlaw_text acdlaw_text actlaw_text), asllaw_text⟩)
    (aclaw_text : PySem.W.codeIn K acdlaw_text "_law_text" = true)
    (aklaw_text : PySem.W.keepIn K (.ref aflaw_text) = true)
    (alaw_map : PySem.W.nsIn K mainGlobals "_law_map" = some (some (.ref aflaw_map)))
    (allaw_map : K.lookup aflaw_map = some ⟨aoclaw_map, aodlaw_map, .func (PySem.W.fnOf "_law_map" "_law_map" (defArgs s_law_map) (defBody s_law_map) (defScope s_law_map) .none akVlaw_map adoclaw_map apmlaw_map aanlaw_map acdlaw_map actlaw_map), asllaw_map⟩)
    (aclaw_map : PySem.W.codeIn K acdlaw_map "_law_map" = true)
    (aklaw_map : PySem.W.keepIn K (.ref aflaw_map) = true)
    (alaw_asked : PySem.W.nsIn K mainGlobals "_law_asked" = some (some (.ref aflaw_asked)))
    (allaw_asked : K.lookup aflaw_asked = some ⟨aoclaw_asked, aodlaw_asked, .func (PySem.W.fnOf "_law_asked" "_law_asked" (defArgs s_law_asked) (defBody s_law_asked) (defScope s_law_asked) .none akVlaw_asked adoclaw_asked apmlaw_asked aanlaw_asked acdlaw_asked actlaw_asked), asllaw_asked⟩)
    (aclaw_asked : PySem.W.codeIn K acdlaw_asked "_law_asked" = true)
    (aklaw_asked : PySem.W.keepIn K (.ref aflaw_asked) = true)
    (alaw_bent : PySem.W.nsIn K mainGlobals "_law_bent" = some (some (.ref aflaw_bent)))
    (allaw_bent : K.lookup aflaw_bent = some ⟨aoclaw_bent, aodlaw_bent, .func (PySem.W.fnOf "_law_bent" "_law_bent" (defArgs s_law_bent) (defBody s_law_bent) (defScope s_law_bent) .none akVlaw_bent adoclaw_bent apmlaw_bent aanlaw_bent acdlaw_bent actlaw_bent), asllaw_bent⟩)
    (aclaw_bent : PySem.W.codeIn K acdlaw_bent "_law_bent" = true)
    (aklaw_bent : PySem.W.keepIn K (.ref aflaw_bent) = true)
    (alaw_map_good : PySem.W.nsIn K mainGlobals "_law_map_good" = some (some (.ref aflaw_map_good)))
    (allaw_map_good : K.lookup aflaw_map_good = some ⟨aoclaw_map_good, aodlaw_map_good, .func (PySem.W.fnOf "_law_map_good" "_law_map_good" (defArgs s_law_map_good) (defBody s_law_map_good) (defScope s_law_map_good) .none akVlaw_map_good adoclaw_map_good apmlaw_map_good aanlaw_map_good acdlaw_map_good actlaw_map_good), asllaw_map_good⟩)
    (aclaw_map_good : PySem.W.codeIn K acdlaw_map_good "_law_map_good" = true)
    (aklaw_map_good : PySem.W.keepIn K (.ref aflaw_map_good) = true)
    (alaw_led_good : PySem.W.nsIn K mainGlobals "_law_led_good" = some (some (.ref aflaw_led_good)))
    (allaw_led_good : K.lookup aflaw_led_good = some ⟨aoclaw_led_good, aodlaw_led_good, .func (PySem.W.fnOf "_law_led_good" "_law_led_good" (defArgs s_law_led_good) (defBody s_law_led_good) (defScope s_law_led_good) .none akVlaw_led_good adoclaw_led_good apmlaw_led_good aanlaw_led_good acdlaw_led_good actlaw_led_good), asllaw_led_good⟩)
    (aclaw_led_good : PySem.W.codeIn K acdlaw_led_good "_law_led_good" = true)
    (aklaw_led_good : PySem.W.keepIn K (.ref aflaw_led_good) = true)
    (alaw_after_good : PySem.W.nsIn K mainGlobals "_law_after_good" = some (some (.ref aflaw_after_good)))
    (allaw_after_good : K.lookup aflaw_after_good = some ⟨aoclaw_after_good, aodlaw_after_good, .func (PySem.W.fnOf "_law_after_good" "_law_after_good" (defArgs s_law_after_good) (defBody s_law_after_good) (defScope s_law_after_good) .none akVlaw_after_good adoclaw_after_good apmlaw_after_good aanlaw_after_good acdlaw_after_good actlaw_after_good), asllaw_after_good⟩)
    (aclaw_after_good : PySem.W.codeIn K acdlaw_after_good "_law_after_good" = true)
    (aklaw_after_good : PySem.W.keepIn K (.ref aflaw_after_good) = true)
    (alaw : PySem.W.nsIn K mainGlobals "law" = some (some (.ref aflaw)))
    (allaw : K.lookup aflaw = some ⟨aoclaw, aodlaw, .func (PySem.W.fnOf "law" "law" (defArgs s_law) (defBody s_law) (defScope s_law) .none akVlaw adoclaw apmlaw aanlaw acdlaw actlaw), asllaw⟩)
    (aclaw : PySem.W.codeIn K acdlaw "law" = true)
    (aklaw : PySem.W.keepIn K (.ref aflaw) = true)
    : ∃ fd : FuncData, (∀ (s : Shared) (u : Value), BindsTo s fd ⟨[u], []⟩ [("script", u)]) ∧ ∀ base : Heap, K.In base → base.Ns mainGlobals mg → FnOkG P w K mg base (L2.CX P w) 9 fa fd ["script"] (spTop K) := by
  have e := hfa.symm.trans (PySem.W.mg_of X G alaw)
  cases e
  refine ⟨PySem.W.fnOf "law" "law" (defArgs s_law) (defBody s_law) (defScope s_law) .none akVlaw adoclaw apmlaw aanlaw acdlaw actlaw, fun s u => .of_eq rfl, fun base _ _ => ?_⟩
  have Z : ∀ x ∈ bltN, mg x = none := fun x hx => by
    simp only [bltN, List.mem_cons, List.not_mem_nil, or_false] at hx
    rcases hx with rfl | rfl | rfl | rfl | rfl | rfl | rfl | rfl | rfl | rfl | rfl | rfl | rfl | rfl | rfl | rfl | rfl | rfl | rfl | rfl | rfl | rfl
    · exact PySem.W.mg_none_of X G z_len
    · exact PySem.W.mg_none_of X G z_range
    · exact PySem.W.mg_none_of X G z_enumerate
    · exact PySem.W.mg_none_of X G z_zip
    · exact PySem.W.mg_none_of X G z_sorted
    · exact PySem.W.mg_none_of X G z_sum
    · exact PySem.W.mg_none_of X G z_all
    · exact PySem.W.mg_none_of X G z_any
    · exact PySem.W.mg_none_of X G z_int
    · exact PySem.W.mg_none_of X G z_str
    · exact PySem.W.mg_none_of X G z_list
    · exact PySem.W.mg_none_of X G z_tuple
    · exact PySem.W.mg_none_of X G z_set
    · exact PySem.W.mg_none_of X G z_dict
    · exact PySem.W.mg_none_of X G z_bool
    · exact PySem.W.mg_none_of X G z_min
    · exact PySem.W.mg_none_of X G z_max
    · exact PySem.W.mg_none_of X G z_abs
    · exact PySem.W.mg_none_of X G z_isinstance
    · exact PySem.W.mg_none_of X G z_type
    · exact PySem.W.mg_none_of X G z_reversed
    · exact PySem.W.mg_none_of X G z_repr
  have T : Ten K mg (fun i => [c0, c1, c2, c3, c4, c5, c6, c7, c8, c9].getD i c0) cL := {
    g := fun i hi => match i, hi with
      | 0, _ => PySem.W.mg_of X G g0
      | 1, _ => PySem.W.mg_of X G g1
      | 2, _ => PySem.W.mg_of X G g2
      | 3, _ => PySem.W.mg_of X G g3
      | 4, _ => PySem.W.mg_of X G g4
      | 5, _ => PySem.W.mg_of X G g5
      | 6, _ => PySem.W.mg_of X G g6
      | 7, _ => PySem.W.mg_of X G g7
      | 8, _ => PySem.W.mg_of X G g8
      | 9, _ => PySem.W.mg_of X G g9
    gL := PySem.W.mg_of X G gL
    gI := PySem.W.mg_none_of X G z_isinstance
    gZ := PySem.W.mg_none_of X G z_zip
    gV := PySem.W.mg_none_of X G z_ValueError
    isOne := fun i j hi hj => match i, hi, j, hj with
      | 0, _, 0, _ => kit_self
      | 0, _, 1, _ => kit_ref hc1 ht1 s0_1 (ne_ref (sub_ne s0_1 hs0 sf0))
      | 0, _, 2, _ => kit_ref hc2 ht2 s0_2 (ne_ref (sub_ne s0_2 hs0 sf0))
      | 0, _, 3, _ => kit_ref hc3 ht3 s0_3 (ne_ref (sub_ne s0_3 hs0 sf0))
      | 0, _, 4, _ => kit_ref hc4 ht4 s0_4 (ne_ref (sub_ne s0_4 hs0 sf0))
      | 0, _, 5, _ => kit_ref hc5 ht5 s0_5 (ne_ref (sub_ne s0_5 hs0 sf0))
      | 0, _, 6, _ => kit_ref hc6 ht6 s0_6 (ne_ref (sub_ne s0_6 hs0 sf0))
      | 0, _, 7, _ => kit_ref hc7 ht7 s0_7 (ne_ref (sub_ne s0_7 hs0 sf0))
      | 0, _, 8, _ => kit_ref hc8 ht8 s0_8 (ne_ref (sub_ne s0_8 hs0 sf0))
      | 0, _, 9, _ => kit_ref hc9 ht9 s0_9 (ne_ref (sub_ne s0_9 hs0 sf0))
      | 1, _, 0, _ => kit_ref hc0 ht0 s1_0 (ne_ref (sub_ne s1_0 hs1 sf1))
      | 1, _, 1, _ => kit_self
      | 1, _, 2, _ => kit_ref hc2 ht2 s1_2 (ne_ref (sub_ne s1_2 hs1 sf1))
      | 1, _, 3, _ => kit_ref hc3 ht3 s1_3 (ne_ref (sub_ne s1_3 hs1 sf1))
      | 1, _, 4, _ => kit_ref hc4 ht4 s1_4 (ne_ref (sub_ne s1_4 hs1 sf1))
      | 1, _, 5, _ => kit_ref hc5 ht5 s1_5 (ne_ref (sub_ne s1_5 hs1 sf1))
      | 1, _, 6, _ => kit_ref hc6 ht6 s1_6 (ne_ref (sub_ne s1_6 hs1 sf1))
      | 1, _, 7, _ => kit_ref hc7 ht7 s1_7 (ne_ref (sub_ne s1_7 hs1 sf1))
      | 1, _, 8, _ => kit_ref hc8 ht8 s1_8 (ne_ref (sub_ne s1_8 hs1 sf1))
      | 1, _, 9, _ => kit_ref hc9 ht9 s1_9 (ne_ref (sub_ne s1_9 hs1 sf1))
      | 2, _, 0, _ => kit_ref hc0 ht0 s2_0 (ne_ref (sub_ne s2_0 hs2 sf2))
      | 2, _, 1, _ => kit_ref hc1 ht1 s2_1 (ne_ref (sub_ne s2_1 hs2 sf2))
      | 2, _, 2, _ => kit_self
      | 2, _, 3, _ => kit_ref hc3 ht3 s2_3 (ne_ref (sub_ne s2_3 hs2 sf2))
      | 2, _, 4, _ => kit_ref hc4 ht4 s2_4 (ne_ref (sub_ne s2_4 hs2 sf2))
      | 2, _, 5, _ => kit_ref hc5 ht5 s2_5 (ne_ref (sub_ne s2_5 hs2 sf2))
      | 2, _, 6, _ => kit_ref hc6 ht6 s2_6 (ne_ref (sub_ne s2_6 hs2 sf2))
      | 2, _, 7, _ => kit_ref hc7 ht7 s2_7 (ne_ref (sub_ne s2_7 hs2 sf2))
      | 2, _, 8, _ => kit_ref hc8 ht8 s2_8 (ne_ref (sub_ne s2_8 hs2 sf2))
      | 2, _, 9, _ => kit_ref hc9 ht9 s2_9 (ne_ref (sub_ne s2_9 hs2 sf2))
      | 3, _, 0, _ => kit_ref hc0 ht0 s3_0 (ne_ref (sub_ne s3_0 hs3 sf3))
      | 3, _, 1, _ => kit_ref hc1 ht1 s3_1 (ne_ref (sub_ne s3_1 hs3 sf3))
      | 3, _, 2, _ => kit_ref hc2 ht2 s3_2 (ne_ref (sub_ne s3_2 hs3 sf3))
      | 3, _, 3, _ => kit_self
      | 3, _, 4, _ => kit_ref hc4 ht4 s3_4 (ne_ref (sub_ne s3_4 hs3 sf3))
      | 3, _, 5, _ => kit_ref hc5 ht5 s3_5 (ne_ref (sub_ne s3_5 hs3 sf3))
      | 3, _, 6, _ => kit_ref hc6 ht6 s3_6 (ne_ref (sub_ne s3_6 hs3 sf3))
      | 3, _, 7, _ => kit_ref hc7 ht7 s3_7 (ne_ref (sub_ne s3_7 hs3 sf3))
      | 3, _, 8, _ => kit_ref hc8 ht8 s3_8 (ne_ref (sub_ne s3_8 hs3 sf3))
      | 3, _, 9, _ => kit_ref hc9 ht9 s3_9 (ne_ref (sub_ne s3_9 hs3 sf3))
      | 4, _, 0, _ => kit_ref hc0 ht0 s4_0 (ne_ref (sub_ne s4_0 hs4 sf4))
      | 4, _, 1, _ => kit_ref hc1 ht1 s4_1 (ne_ref (sub_ne s4_1 hs4 sf4))
      | 4, _, 2, _ => kit_ref hc2 ht2 s4_2 (ne_ref (sub_ne s4_2 hs4 sf4))
      | 4, _, 3, _ => kit_ref hc3 ht3 s4_3 (ne_ref (sub_ne s4_3 hs4 sf4))
      | 4, _, 4, _ => kit_self
      | 4, _, 5, _ => kit_ref hc5 ht5 s4_5 (ne_ref (sub_ne s4_5 hs4 sf4))
      | 4, _, 6, _ => kit_ref hc6 ht6 s4_6 (ne_ref (sub_ne s4_6 hs4 sf4))
      | 4, _, 7, _ => kit_ref hc7 ht7 s4_7 (ne_ref (sub_ne s4_7 hs4 sf4))
      | 4, _, 8, _ => kit_ref hc8 ht8 s4_8 (ne_ref (sub_ne s4_8 hs4 sf4))
      | 4, _, 9, _ => kit_ref hc9 ht9 s4_9 (ne_ref (sub_ne s4_9 hs4 sf4))
      | 5, _, 0, _ => kit_ref hc0 ht0 s5_0 (ne_ref (sub_ne s5_0 hs5 sf5))
      | 5, _, 1, _ => kit_ref hc1 ht1 s5_1 (ne_ref (sub_ne s5_1 hs5 sf5))
      | 5, _, 2, _ => kit_ref hc2 ht2 s5_2 (ne_ref (sub_ne s5_2 hs5 sf5))
      | 5, _, 3, _ => kit_ref hc3 ht3 s5_3 (ne_ref (sub_ne s5_3 hs5 sf5))
      | 5, _, 4, _ => kit_ref hc4 ht4 s5_4 (ne_ref (sub_ne s5_4 hs5 sf5))
      | 5, _, 5, _ => kit_self
      | 5, _, 6, _ => kit_ref hc6 ht6 s5_6 (ne_ref (sub_ne s5_6 hs5 sf5))
      | 5, _, 7, _ => kit_ref hc7 ht7 s5_7 (ne_ref (sub_ne s5_7 hs5 sf5))
      | 5, _, 8, _ => kit_ref hc8 ht8 s5_8 (ne_ref (sub_ne s5_8 hs5 sf5))
      | 5, _, 9, _ => kit_ref hc9 ht9 s5_9 (ne_ref (sub_ne s5_9 hs5 sf5))
      | 6, _, 0, _ => kit_ref hc0 ht0 s6_0 (ne_ref (sub_ne s6_0 hs6 sf6))
      | 6, _, 1, _ => kit_ref hc1 ht1 s6_1 (ne_ref (sub_ne s6_1 hs6 sf6))
      | 6, _, 2, _ => kit_ref hc2 ht2 s6_2 (ne_ref (sub_ne s6_2 hs6 sf6))
      | 6, _, 3, _ => kit_ref hc3 ht3 s6_3 (ne_ref (sub_ne s6_3 hs6 sf6))
      | 6, _, 4, _ => kit_ref hc4 ht4 s6_4 (ne_ref (sub_ne s6_4 hs6 sf6))
      | 6, _, 5, _ => kit_ref hc5 ht5 s6_5 (ne_ref (sub_ne s6_5 hs6 sf6))
      | 6, _, 6, _ => kit_self
      | 6, _, 7, _ => kit_ref hc7 ht7 s6_7 (ne_ref (sub_ne s6_7 hs6 sf6))
      | 6, _, 8, _ => kit_ref hc8 ht8 s6_8 (ne_ref (sub_ne s6_8 hs6 sf6))
      | 6, _, 9, _ => kit_ref hc9 ht9 s6_9 (ne_ref (sub_ne s6_9 hs6 sf6))
      | 7, _, 0, _ => kit_ref hc0 ht0 s7_0 (ne_ref (sub_ne s7_0 hs7 sf7))
      | 7, _, 1, _ => kit_ref hc1 ht1 s7_1 (ne_ref (sub_ne s7_1 hs7 sf7))
      | 7, _, 2, _ => kit_ref hc2 ht2 s7_2 (ne_ref (sub_ne s7_2 hs7 sf7))
      | 7, _, 3, _ => kit_ref hc3 ht3 s7_3 (ne_ref (sub_ne s7_3 hs7 sf7))
      | 7, _, 4, _ => kit_ref hc4 ht4 s7_4 (ne_ref (sub_ne s7_4 hs7 sf7))
      | 7, _, 5, _ => kit_ref hc5 ht5 s7_5 (ne_ref (sub_ne s7_5 hs7 sf7))
      | 7, _, 6, _ => kit_ref hc6 ht6 s7_6 (ne_ref (sub_ne s7_6 hs7 sf7))
      | 7, _, 7, _ => kit_self
      | 7, _, 8, _ => kit_ref hc8 ht8 s7_8 (ne_ref (sub_ne s7_8 hs7 sf7))
      | 7, _, 9, _ => kit_ref hc9 ht9 s7_9 (ne_ref (sub_ne s7_9 hs7 sf7))
      | 8, _, 0, _ => kit_ref hc0 ht0 s8_0 (ne_ref (sub_ne s8_0 hs8 sf8))
      | 8, _, 1, _ => kit_ref hc1 ht1 s8_1 (ne_ref (sub_ne s8_1 hs8 sf8))
      | 8, _, 2, _ => kit_ref hc2 ht2 s8_2 (ne_ref (sub_ne s8_2 hs8 sf8))
      | 8, _, 3, _ => kit_ref hc3 ht3 s8_3 (ne_ref (sub_ne s8_3 hs8 sf8))
      | 8, _, 4, _ => kit_ref hc4 ht4 s8_4 (ne_ref (sub_ne s8_4 hs8 sf8))
      | 8, _, 5, _ => kit_ref hc5 ht5 s8_5 (ne_ref (sub_ne s8_5 hs8 sf8))
      | 8, _, 6, _ => kit_ref hc6 ht6 s8_6 (ne_ref (sub_ne s8_6 hs8 sf8))
      | 8, _, 7, _ => kit_ref hc7 ht7 s8_7 (ne_ref (sub_ne s8_7 hs8 sf8))
      | 8, _, 8, _ => kit_self
      | 8, _, 9, _ => kit_ref hc9 ht9 s8_9 (ne_ref (sub_ne s8_9 hs8 sf8))
      | 9, _, 0, _ => kit_ref hc0 ht0 s9_0 (ne_ref (sub_ne s9_0 hs9 sf9))
      | 9, _, 1, _ => kit_ref hc1 ht1 s9_1 (ne_ref (sub_ne s9_1 hs9 sf9))
      | 9, _, 2, _ => kit_ref hc2 ht2 s9_2 (ne_ref (sub_ne s9_2 hs9 sf9))
      | 9, _, 3, _ => kit_ref hc3 ht3 s9_3 (ne_ref (sub_ne s9_3 hs9 sf9))
      | 9, _, 4, _ => kit_ref hc4 ht4 s9_4 (ne_ref (sub_ne s9_4 hs9 sf9))
      | 9, _, 5, _ => kit_ref hc5 ht5 s9_5 (ne_ref (sub_ne s9_5 hs9 sf9))
      | 9, _, 6, _ => kit_ref hc6 ht6 s9_6 (ne_ref (sub_ne s9_6 hs9 sf9))
      | 9, _, 7, _ => kit_ref hc7 ht7 s9_7 (ne_ref (sub_ne s9_7 hs9 sf9))
      | 9, _, 8, _ => kit_ref hc8 ht8 s9_8 (ne_ref (sub_ne s9_8 hs9 sf9))
      | 9, _, 9, _ => kit_self
    isL := fun i hi => match i, hi with
      | 0, _ => kit_ref cL1 cL2 sL0 (fun _ => rfl)
      | 1, _ => kit_ref cL1 cL2 sL1 (fun _ => rfl)
      | 2, _ => kit_ref cL1 cL2 sL2 (fun _ => rfl)
      | 3, _ => kit_ref cL1 cL2 sL3 (fun _ => rfl)
      | 4, _ => kit_ref cL1 cL2 sL4 (fun _ => rfl)
      | 5, _ => kit_ref cL1 cL2 sL5 (fun _ => rfl)
      | 6, _ => kit_ref cL1 cL2 sL6 (fun _ => rfl)
      | 7, _ => kit_ref cL1 cL2 sL7 (fun _ => rfl)
      | 8, _ => kit_ref cL1 cL2 sL8 (fun _ => rfl)
      | 9, _ => kit_ref cL1 cL2 sL9 (fun _ => rfl)
    isV := fun i hi => match i, hi with
      | 0, _ => kit_bi (by decide +kernel) sV0
      | 1, _ => kit_bi (by decide +kernel) sV1
      | 2, _ => kit_bi (by decide +kernel) sV2
      | 3, _ => kit_bi (by decide +kernel) sV3
      | 4, _ => kit_bi (by decide +kernel) sV4
      | 5, _ => kit_bi (by decide +kernel) sV5
      | 6, _ => kit_bi (by decide +kernel) sV6
      | 7, _ => kit_bi (by decide +kernel) sV7
      | 8, _ => kit_bi (by decide +kernel) sV8
      | 9, _ => kit_bi (by decide +kernel) sV9
    ek := fun i hi => match i, hi with
      | 0, _ => ⟨hc0, hg0, hk0, hs0, hd0, ha0, sn, st, hm0⟩
      | 1, _ => ⟨hc1, hg1, hk1, hs1, hd1, ha1, sn, st, hm1⟩
      | 2, _ => ⟨hc2, hg2, hk2, hs2, hd2, ha2, sn, st, hm2⟩
      | 3, _ => ⟨hc3, hg3, hk3, hs3, hd3, ha3, sn, st, hm3⟩
      | 4, _ => ⟨hc4, hg4, hk4, hs4, hd4, ha4, sn, st, hm4⟩
      | 5, _ => ⟨hc5, hg5, hk5, hs5, hd5, ha5, sn, st, hm5⟩
      | 6, _ => ⟨hc6, hg6, hk6, hs6, hd6, ha6, sn, st, hm6⟩
      | 7, _ => ⟨hc7, hg7, hk7, hs7, hd7, ha7, sn, st, hm7⟩
      | 8, _ => ⟨hc8, hg8, hk8, hs8, hd8, ha8, sn, st, hm8⟩
      | 9, _ => ⟨hc9, hg9, hk9, hs9, hd9, ha9, sn, st, hm9⟩ }
  have hexm : ∀ k as cls dd H, exs K (fun i => [c0, c1, c2, c3, c4, c5, c6, c7, c8, c9].getD i c0) (fun n => if n = 6 then some [("at" : Str)] else none) k as cls dd H → PySem.W.exmOne K cls (.ref cL) = some true := fun k as cls dd H h => by
    obtain ⟨rfl, _⟩ := h
    match k with
    | 0 => exact exm_ref bL cL1 cL2 sL0
    | 1 => exact exm_ref bL cL1 cL2 sL1
    | 2 => exact exm_ref bL cL1 cL2 sL2
    | 3 => exact exm_ref bL cL1 cL2 sL3
    | 4 => exact exm_ref bL cL1 cL2 sL4
    | 5 => exact exm_ref bL cL1 cL2 sL5
    | 6 => exact exm_ref bL cL1 cL2 sL6
    | 7 => exact exm_ref bL cL1 cL2 sL7
    | 8 => exact exm_ref bL cL1 cL2 sL8
    | 9 => exact exm_ref bL cL1 cL2 sL9
    | k + 10 => exact exm_ref bL cL1 cL2 sL0
  have gCatch := PySem.W.mg_of X G gL
  have oT : OexC K c6 := ⟨⟨_, _, _, _, _, _, _, _, _, _, _, _, _, _, _, xT, rfl⟩, saT, hs6, ht6, kcT⟩
  have FT : FunD K "__init__" "NoText.__init__" (defArgs iText) (defBody iText) (defScope iText) [.int 0] [] fT _ := ⟨⟨_, _, _, _, _, _, _, _, _, _, rfl, lfT, cfT, .inr ⟨by simp, _, _, _, _, rfl, ldT, rfl, .cons ⟨_, rfl⟩ .nil⟩, .inl rfl⟩, kfT⟩
  have C : TextC K mg ((fun i => [c0, c1, c2, c3, c4, c5, c6, c7, c8, c9].getD i c0) 6) fT _ := { o := oT, i := icT, t := tiT, F := FT, n := nTat, g := PySem.W.mg_of X G g6 }
  have GL : Glo K mg aKp aLo aSh := { mI := PySem.W.mg_none_of X G z_isinstance, mS := PySem.W.mg_none_of X G z_str, mA := PySem.W.mg_none_of X G z_all, mL := PySem.W.mg_none_of X G z_len, mN := PySem.W.mg_none_of X G z_int, c12 := ⟨_, PySem.W.mg_of X G q12⟩, c18 := ⟨_, PySem.W.mg_of X G q18⟩, gK := PySem.W.mg_of X G qKp, gLo := PySem.W.mg_of X G qLo, gSh := PySem.W.mg_of X G qSh, sK := fun H => .inr ⟨_, _, _, lKp, rfl, rfl, by show 10 ≤ sizeLine; decide, (.cons ⟨_, rfl⟩ (.cons ⟨_, rfl⟩ (.cons ⟨_, rfl⟩ (.cons ⟨_, rfl⟩ (.cons ⟨_, rfl⟩ (.cons ⟨_, rfl⟩ (.cons ⟨_, rfl⟩ (.cons ⟨_, rfl⟩ (.cons ⟨_, rfl⟩ (.cons ⟨_, rfl⟩ .nil))))))))))⟩, sLo := fun H => .inr ⟨_, _, _, lLo, rfl, rfl, by show 6 ≤ sizeLine; decide, (.cons ⟨_, rfl⟩ (.cons ⟨_, rfl⟩ (.cons ⟨_, rfl⟩ (.cons ⟨_, rfl⟩ (.cons ⟨_, rfl⟩ (.cons ⟨_, rfl⟩ .nil))))))⟩, sSh := fun H => .inr ⟨_, _, _, lSh, rfl, rfl, by show 20 ≤ sizeLine; decide, (.cons ⟨_, rfl⟩ (.cons ⟨_, rfl⟩ (.cons ⟨_, rfl⟩ (.cons ⟨_, rfl⟩ (.cons ⟨_, rfl⟩ (.cons ⟨_, rfl⟩ (.cons ⟨_, rfl⟩ (.cons ⟨_, rfl⟩ (.cons ⟨_, rfl⟩ (.cons ⟨_, rfl⟩ (.cons ⟨_, rfl⟩ (.cons ⟨_, rfl⟩ (.cons ⟨_, rfl⟩ (.cons ⟨_, rfl⟩ (.cons ⟨_, rfl⟩ (.cons ⟨_, rfl⟩ (.cons ⟨_, rfl⟩ (.cons ⟨_, rfl⟩ (.cons ⟨_, rfl⟩ (.cons ⟨_, rfl⟩ .nil))))))))))))))))))))⟩ }
  have F_Pl := fun_mk (st := sLetter) alPl acPl akPl
  have b_Pl := F_Pl.binds (ps := ["sign"]) fun _ _ _ _ _ _ us hl => match us, hl with | [_], _ => rfl
  have m_Pl := PySem.W.mg_of X G aPl
  have F_Pf := fun_mk (st := sFigure) alPf acPf akPf
  have b_Pf := F_Pf.binds (ps := ["sign"]) fun _ _ _ _ _ _ us hl => match us, hl with | [_], _ => rfl
  have m_Pf := PySem.W.mg_of X G aPf
  have F_Px := fun_mk (st := sLF) alPx acPx akPx
  have b_Px := F_Px.binds (ps := ["sign"]) fun _ _ _ _ _ _ us hl => match us, hl with | [_], _ => rfl
  have m_Px := PySem.W.mg_of X G aPx
  have F_Pn := fun_mk (st := sName) alPn acPn akPn
  have b_Pn := F_Pn.binds (ps := ["thing"]) fun _ _ _ _ _ _ us hl => match us, hl with | [_], _ => rfl
  have m_Pn := PySem.W.mg_of X G aPn
  have F_Pp := fun_mk (st := sPlain) alPp acPp akPp
  have b_Pp := F_Pp.binds (ps := ["word"]) fun _ _ _ _ _ _ us hl => match us, hl with | [_], _ => rfl
  have m_Pp := PySem.W.mg_of X G aPp
  have F_Pu := fun_mk (st := sNumber) alPu acPu akPu
  have b_Pu := F_Pu.binds (ps := ["word"]) fun _ _ _ _ _ _ us hl => match us, hl with | [_], _ => rfl
  have m_Pu := PySem.W.mg_of X G aPu
  have F_Pr := fun_mk (st := sRunEnd) alPr acPr akPr
  have b_Pr := F_Pr.binds (ps := ["text", "at"]) fun _ _ _ _ _ _ us hl => match us, hl with | [_, _], _ => rfl
  have m_Pr := PySem.W.mg_of X G aPr
  have F_Ps := fun_mk (st := sSort) alPs acPs akPs
  have b_Ps := F_Ps.binds (ps := ["word", "at"]) fun _ _ _ _ _ _ us hl => match us, hl with | [_, _], _ => rfl
  have m_Ps := PySem.W.mg_of X G aPs
  have F_Pg := fun_mk (st := sSign) alPg acPg akPg
  have b_Pg := F_Pg.binds (ps := ["text", "at"]) fun _ _ _ _ _ _ us hl => match us, hl with | [_, _], _ => rfl
  have m_Pg := PySem.W.mg_of X G aPg
  have F_Pw := fun_mk (st := sWords) alPw acPw akPw
  have b_Pw := F_Pw.binds (ps := ["text"]) fun _ _ _ _ _ _ us hl => match us, hl with | [_], _ => rfl
  have m_Pw := PySem.W.mg_of X G aPw
  have OPx : FnOk P w K mg base CX0 2 _ _ ["sign"] (spB isLF) := ok_LF F_Px F_Pl F_Pf m_Pl m_Pf b_Pl b_Pf
  have OPn : FnOk P w K mg base CX0 2 _ _ ["thing"] spName := ok_Name F_Pn GL F_Pl m_Pl b_Pl
  have OPu : FnOk P w K mg base CX0 3 _ _ ["word"] spNumber := ok_Number F_Pu GL F_Pf m_Pf b_Pf F_Pp m_Pp b_Pp
  have OPr : FnOk P w K mg base CX0 3 _ _ ["text", "at"] spRunEnd := ok_RunEnd F_Pr (PySem.W.mg_none_of X G z_len) F_Px m_Px b_Px OPx
  have OPs : FnOk P w K mg base (L2.CX P w) 4 _ _ ["word", "at"] (spSort _) := ok_Sort F_Ps GL C F_Pn m_Pn b_Pn OPn F_Pu m_Pu b_Pu OPu
  have OPg : FnOk P w K mg base (L2.CX P w) 3 _ _ ["text", "at"] (spSign _) := ok_Sign F_Pg GL C
  have OPw : FnOk P w K mg base (L2.CX P w) 5 _ _ ["text"] (spWords _) := ok_Words F_Pw GL F_Px m_Px b_Px OPx F_Pr m_Pr b_Pr OPr F_Ps m_Ps b_Ps OPs F_Pg m_Pg b_Pg OPg
  have O_words := words_data (cs := (fun i => [c0, c1, c2, c3, c4, c5, c6, c7, c8, c9].getD i c0)) (nms := (fun n => if n = 6 then some [("at" : Str)] else none)) OPw rfl rfl
  have D_words := Df.mk' F_Pw m_Pw b_Pw rfl O_words
  have F_Lo2 := fun_mk (st := sOnly) alLo2 acLo2 akLo2
  have b_Lo2 := F_Lo2.binds (ps := ["error", "word"]) fun _ _ _ _ _ _ us hl => match us, hl with | [_, _], _ => rfl
  have m_Lo2 := PySem.W.mg_of X G aLo2
  have OLo2 : FnOk P w K mg base CX0 1 _ _ ["error", "word"] (spOnly K (fun i => [c0, c1, c2, c3, c4, c5, c6, c7, c8, c9].getD i c0)) := ok_only F_Lo2 T
  have D_law_only := Df.mk' F_Lo2 m_Lo2 b_Lo2 rfl (only_data (EX := exs K (fun i => [c0, c1, c2, c3, c4, c5, c6, c7, c8, c9].getD i c0) (fun n => if n = 6 then some [("at" : Str)] else none)) OLo2)
  have R_NoMap : RaB K mg "NoMap" ((fun i => [c0, c1, c2, c3, c4, c5, c6, c7, c8, c9].getD i c0) 3) := ⟨⟨_, _, _, _, PySem.F.excBase_ValueError, xc3⟩, PySem.W.mg_of X G g3, kb3, hs3, ht3⟩
  have hex_NoMap : ∀ H, exs K (fun i => [c0, c1, c2, c3, c4, c5, c6, c7, c8, c9].getD i c0) (fun n => if n = 6 then some [("at" : Str)] else none) 3 [] (.ref ((fun i => [c0, c1, c2, c3, c4, c5, c6, c7, c8, c9].getD i c0) 3)) none H := fun H => ⟨rfl, rfl, rfl⟩
  have A_at : ∀ C : Addr, (fun (C : Int) => decide (C = (((fun i => [c0, c1, c2, c3, c4, c5, c6, c7, c8, c9].getD i c0) 6 : Nat) : Int))) (C : Nat) = true → ExcK K C ∧ PySem.W.findIn K (.ref C) "at" = some none := fun C h => by
    have h1 := of_decide_eq_true h
    have h2 : C = c6 := Int.ofNat.inj h1
    subst h2
    exact ⟨T.ek 6 (by decide), nTat⟩
  have F_least_stretch := fun_mk (st := s_least_stretch) alleast_stretch acleast_stretch akleast_stretch
  have b_least_stretch := F_least_stretch.binds (ps := ["stretches"]) fun _ _ _ _ _ _ us hl => match us, hl with | [_], _ => rfl
  have m_least_stretch := PySem.W.mg_of X G aleast_stretch
  have O_least_stretch : FnOk P w K mg base (L2.CX P w) 1 _ _ ["stretches"] (spG K (exs K (fun i => [c0, c1, c2, c3, c4, c5, c6, c7, c8, c9].getD i c0) (fun n => if n = 6 then some [("at" : Str)] else none)) 1 (G_least_stretch)) := ok_least_stretch (cs := (fun i => [c0, c1, c2, c3, c4, c5, c6, c7, c8, c9].getD i c0)) (nms := (fun n => if n = 6 then some [("at" : Str)] else none)) (F := F_least_stretch) (Z := Z)
  have D_least_stretch := Df.mk' F_least_stretch m_least_stretch b_least_stretch rfl O_least_stretch
  have F_is_whole := fun_mk (st := s_is_whole) alis_whole acis_whole akis_whole
  have b_is_whole := F_is_whole.binds (ps := ["thing"]) fun _ _ _ _ _ _ us hl => match us, hl with | [_], _ => rfl
  have m_is_whole := PySem.W.mg_of X G ais_whole
  have O_is_whole : FnOk P w K mg base (L2.CX P w) 1 _ _ ["thing"] (spG K (exs K (fun i => [c0, c1, c2, c3, c4, c5, c6, c7, c8, c9].getD i c0) (fun n => if n = 6 then some [("at" : Str)] else none)) 1 (G_is_whole)) := ok_is_whole (cs := (fun i => [c0, c1, c2, c3, c4, c5, c6, c7, c8, c9].getD i c0)) (nms := (fun n => if n = 6 then some [("at" : Str)] else none)) (F := F_is_whole) (Z := Z)
  have D_is_whole := Df.mk' F_is_whole m_is_whole b_is_whole rfl O_is_whole
  have F_is_entry := fun_mk (st := s_is_entry) alis_entry acis_entry akis_entry
  have b_is_entry := F_is_entry.binds (ps := ["thing"]) fun _ _ _ _ _ _ us hl => match us, hl with | [_], _ => rfl
  have m_is_entry := PySem.W.mg_of X G ais_entry
  have O_is_entry : FnOk P w K mg base (L2.CX P w) 2 _ _ ["thing"] (spG K (exs K (fun i => [c0, c1, c2, c3, c4, c5, c6, c7, c8, c9].getD i c0) (fun n => if n = 6 then some [("at" : Str)] else none)) 1 (G_is_entry)) := ok_is_entry (cs := (fun i => [c0, c1, c2, c3, c4, c5, c6, c7, c8, c9].getD i c0)) (nms := (fun n => if n = 6 then some [("at" : Str)] else none)) (F := F_is_entry) (Z := Z) (D_is_whole := D_is_whole)
  have D_is_entry := Df.mk' F_is_entry m_is_entry b_is_entry rfl O_is_entry
  have F_is_entry_of := fun_mk (st := s_is_entry_of) alis_entry_of acis_entry_of akis_entry_of
  have b_is_entry_of := F_is_entry_of.binds (ps := ["entry", "row", "size"]) fun _ _ _ _ _ _ us hl => match us, hl with | [_, _, _], _ => rfl
  have m_is_entry_of := PySem.W.mg_of X G ais_entry_of
  have O_is_entry_of : FnOk P w K mg base (L2.CX P w) 1 _ _ ["entry", "row", "size"] (spG K (exs K (fun i => [c0, c1, c2, c3, c4, c5, c6, c7, c8, c9].getD i c0) (fun n => if n = 6 then some [("at" : Str)] else none)) 3 (G_is_entry_of)) := ok_is_entry_of (cs := (fun i => [c0, c1, c2, c3, c4, c5, c6, c7, c8, c9].getD i c0)) (nms := (fun n => if n = 6 then some [("at" : Str)] else none)) (F := F_is_entry_of) (Z := Z)
  have D_is_entry_of := Df.mk' F_is_entry_of m_is_entry_of b_is_entry_of rfl O_is_entry_of
  have F_is_map := fun_mk (st := s_is_map) alis_map acis_map akis_map
  have b_is_map := F_is_map.binds (ps := ["thing", "text", "other"]) fun _ _ _ _ _ _ us hl => match us, hl with | [_, _, _], _ => rfl
  have m_is_map := PySem.W.mg_of X G ais_map
  have O_is_map : FnOk P w K mg base (L2.CX P w) 6 _ _ ["thing", "text", "other"] (spG K (exs K (fun i => [c0, c1, c2, c3, c4, c5, c6, c7, c8, c9].getD i c0) (fun n => if n = 6 then some [("at" : Str)] else none)) 3 (G_is_map)) := ok_is_map (cs := (fun i => [c0, c1, c2, c3, c4, c5, c6, c7, c8, c9].getD i c0)) (nms := (fun n => if n = 6 then some [("at" : Str)] else none)) (F := F_is_map) (Z := Z) (D_is_entry := D_is_entry) (D_is_entry_of := D_is_entry_of) (D_words := D_words)
  have D_is_map := Df.mk' F_is_map m_is_map b_is_map rfl O_is_map
  have N_is_map_other_thing_text := DfN.mk' (ks := ["other", "thing", "text"]) (is := [1, 2, 0]) F_is_map m_is_map (fun s ws hl => match ws, hl with | [_, _, _], _ => .of_eq rfl) O_is_map
  have F_lead := fun_mk (st := s_lead) allead aclead aklead
  have b_lead := F_lead.binds (ps := ["entries", "at"]) fun _ _ _ _ _ _ us hl => match us, hl with | [_, _], _ => rfl
  have m_lead := PySem.W.mg_of X G alead
  have O_lead : FnOk P w K mg base (L2.CX P w) 2 _ _ ["entries", "at"] (spG K (exs K (fun i => [c0, c1, c2, c3, c4, c5, c6, c7, c8, c9].getD i c0) (fun n => if n = 6 then some [("at" : Str)] else none)) 2 (G_lead)) := ok_lead (cs := (fun i => [c0, c1, c2, c3, c4, c5, c6, c7, c8, c9].getD i c0)) (nms := (fun n => if n = 6 then some [("at" : Str)] else none)) (F := F_lead) (Z := Z) (D_is_whole := D_is_whole) (R_NoMap := R_NoMap) (hex_NoMap := hex_NoMap)
  have D_lead := Df.mk' F_lead m_lead b_lead rfl O_lead
  have N_lead_at_entries := DfN.mk' (ks := ["at", "entries"]) (is := [1, 0]) F_lead m_lead (fun s ws hl => match ws, hl with | [_, _], _ => .of_eq rfl) O_lead
  have F_stretch_of := fun_mk (st := s_stretch_of) alstretch_of acstretch_of akstretch_of
  have b_stretch_of := F_stretch_of.binds (ps := ["entries", "first", "last"]) fun _ _ _ _ _ _ us hl => match us, hl with | [_, _, _], _ => rfl
  have m_stretch_of := PySem.W.mg_of X G astretch_of
  have O_stretch_of : FnOk P w K mg base (L2.CX P w) 2 _ _ ["entries", "first", "last"] (spG K (exs K (fun i => [c0, c1, c2, c3, c4, c5, c6, c7, c8, c9].getD i c0) (fun n => if n = 6 then some [("at" : Str)] else none)) 3 (G_stretch_of)) := ok_stretch_of (cs := (fun i => [c0, c1, c2, c3, c4, c5, c6, c7, c8, c9].getD i c0)) (nms := (fun n => if n = 6 then some [("at" : Str)] else none)) (F := F_stretch_of) (Z := Z) (D_least_stretch := D_least_stretch) (R_NoMap := R_NoMap) (hex_NoMap := hex_NoMap)
  have D_stretch_of := Df.mk' F_stretch_of m_stretch_of b_stretch_of rfl O_stretch_of
  have F_after := fun_mk (st := s_after) alafter acafter akafter
  have b_after := F_after.binds (ps := ["entries", "other"]) fun _ _ _ _ _ _ us hl => match us, hl with | [_, _], _ => rfl
  have m_after := PySem.W.mg_of X G aafter
  have O_after : FnOk P w K mg base (L2.CX P w) 3 _ _ ["entries", "other"] (spG K (exs K (fun i => [c0, c1, c2, c3, c4, c5, c6, c7, c8, c9].getD i c0) (fun n => if n = 6 then some [("at" : Str)] else none)) 2 (G_after)) := ok_after (cs := (fun i => [c0, c1, c2, c3, c4, c5, c6, c7, c8, c9].getD i c0)) (nms := (fun n => if n = 6 then some [("at" : Str)] else none)) (F := F_after) (Z := Z) (D_stretch_of := D_stretch_of)
  have D_after := Df.mk' F_after m_after b_after rfl O_after
  have N_after_entries_other := DfN.mk' (ks := ["entries", "other"]) (is := [0, 1]) F_after m_after (fun s ws hl => match ws, hl with | [_, _], _ => .of_eq rfl) O_after
  have F_law_mixed := fun_mk (st := s_law_mixed) allaw_mixed aclaw_mixed aklaw_mixed
  have b_law_mixed := F_law_mixed.binds (ps := ["cell", "k"]) fun _ _ _ _ _ _ us hl => match us, hl with | [_, _], _ => rfl
  have m_law_mixed := PySem.W.mg_of X G alaw_mixed
  have O_law_mixed : FnOk P w K mg base (L2.CX P w) 1 _ _ ["cell", "k"] (spG K (exs K (fun i => [c0, c1, c2, c3, c4, c5, c6, c7, c8, c9].getD i c0) (fun n => if n = 6 then some [("at" : Str)] else none)) 2 (G_law_mixed)) := ok_law_mixed (cs := (fun i => [c0, c1, c2, c3, c4, c5, c6, c7, c8, c9].getD i c0)) (nms := (fun n => if n = 6 then some [("at" : Str)] else none)) (F := F_law_mixed) (Z := Z)
  have D_law_mixed := Df.mk' F_law_mixed m_law_mixed b_law_mixed rfl O_law_mixed
  have F_law_cell := fun_mk (st := s_law_cell) allaw_cell aclaw_cell aklaw_cell
  have b_law_cell := F_law_cell.binds (ps := ["script", "k"]) fun _ _ _ _ _ _ us hl => match us, hl with | [_, _], _ => rfl
  have m_law_cell := PySem.W.mg_of X G alaw_cell
  have O_law_cell : FnOk P w K mg base (L2.CX P w) 2 _ _ ["script", "k"] (spG K (exs K (fun i => [c0, c1, c2, c3, c4, c5, c6, c7, c8, c9].getD i c0) (fun n => if n = 6 then some [("at" : Str)] else none)) 2 (G_law_cell)) := ok_law_cell (cs := (fun i => [c0, c1, c2, c3, c4, c5, c6, c7, c8, c9].getD i c0)) (nms := (fun n => if n = 6 then some [("at" : Str)] else none)) (F := F_law_cell) (Z := Z) (D_law_mixed := D_law_mixed)
  have D_law_cell := Df.mk' F_law_cell m_law_cell b_law_cell rfl O_law_cell
  have F_law_take := fun_mk (st := s_law_take) allaw_take aclaw_take aklaw_take
  have b_law_take := F_law_take.binds (ps := ["pile", "size"]) fun _ _ _ _ _ _ us hl => match us, hl with | [_, _], _ => rfl
  have m_law_take := PySem.W.mg_of X G alaw_take
  have O_law_take : FnOk P w K mg base (L2.CX P w) 1 _ _ ["pile", "size"] (spG K (exs K (fun i => [c0, c1, c2, c3, c4, c5, c6, c7, c8, c9].getD i c0) (fun n => if n = 6 then some [("at" : Str)] else none)) 2 (G_law_take)) := ok_law_take (cs := (fun i => [c0, c1, c2, c3, c4, c5, c6, c7, c8, c9].getD i c0)) (nms := (fun n => if n = 6 then some [("at" : Str)] else none)) (F := F_law_take) (Z := Z)
  have D_law_take := Df.mk' F_law_take m_law_take b_law_take rfl O_law_take
  have F_law_text := fun_mk (st := s_law_text) allaw_text aclaw_text aklaw_text
  have b_law_text := F_law_text.binds (ps := ["pile", "many"]) fun _ _ _ _ _ _ us hl => match us, hl with | [_, _], _ => rfl
  have m_law_text := PySem.W.mg_of X G alaw_text
  have O_law_text : FnOk P w K mg base (L2.CX P w) 2 _ _ ["pile", "many"] (spG K (exs K (fun i => [c0, c1, c2, c3, c4, c5, c6, c7, c8, c9].getD i c0) (fun n => if n = 6 then some [("at" : Str)] else none)) 2 (G_law_text)) := ok_law_text (cs := (fun i => [c0, c1, c2, c3, c4, c5, c6, c7, c8, c9].getD i c0)) (nms := (fun n => if n = 6 then some [("at" : Str)] else none)) (F := F_law_text) (Z := Z) (D_law_take := D_law_take)
  have D_law_text := Df.mk' F_law_text m_law_text b_law_text rfl O_law_text
  have F_law_map := fun_mk (st := s_law_map) allaw_map aclaw_map aklaw_map
  have b_law_map := F_law_map.binds (ps := ["pile", "text_own", "size"]) fun _ _ _ _ _ _ us hl => match us, hl with | [_, _, _], _ => rfl
  have m_law_map := PySem.W.mg_of X G alaw_map
  have O_law_map : FnOk P w K mg base (L2.CX P w) 6 _ _ ["pile", "text_own", "size"] (spG K (exs K (fun i => [c0, c1, c2, c3, c4, c5, c6, c7, c8, c9].getD i c0) (fun n => if n = 6 then some [("at" : Str)] else none)) 3 (G_law_map)) := ok_law_map (cs := (fun i => [c0, c1, c2, c3, c4, c5, c6, c7, c8, c9].getD i c0)) (nms := (fun n => if n = 6 then some [("at" : Str)] else none)) (F := F_law_map) (Z := Z) (D_law_take := D_law_take) (D_words := D_words)
  have D_law_map := Df.mk' F_law_map m_law_map b_law_map rfl O_law_map
  have F_law_asked := fun_mk (st := s_law_asked) allaw_asked aclaw_asked aklaw_asked
  have b_law_asked := F_law_asked.binds (ps := ["which", "one", "two"]) fun _ _ _ _ _ _ us hl => match us, hl with | [_, _, _], _ => rfl
  have m_law_asked := PySem.W.mg_of X G alaw_asked
  have O_law_asked : FnOk P w K mg base (L2.CX P w) 7 _ _ ["which", "one", "two"] (spG K (exs K (fun i => [c0, c1, c2, c3, c4, c5, c6, c7, c8, c9].getD i c0) (fun n => if n = 6 then some [("at" : Str)] else none)) 3 (G_law_asked (fun i => [c0, c1, c2, c3, c4, c5, c6, c7, c8, c9].getD i c0) (fun n => if n = 6 then some [("at" : Str)] else none))) := ok_law_asked (cs := (fun i => [c0, c1, c2, c3, c4, c5, c6, c7, c8, c9].getD i c0)) (nms := (fun n => if n = 6 then some [("at" : Str)] else none)) (F := F_law_asked) (Z := Z) (D_after := D_after) (D_is_map := D_is_map) (D_lead := D_lead) (gCatch := gCatch) (hexm := hexm)
  have D_law_asked := Df.mk' F_law_asked m_law_asked b_law_asked rfl O_law_asked
  have F_law_bent := fun_mk (st := s_law_bent) allaw_bent aclaw_bent aklaw_bent
  have b_law_bent := F_law_bent.binds (ps := ["pile", "some"]) fun _ _ _ _ _ _ us hl => match us, hl with | [_, _], _ => rfl
  have m_law_bent := PySem.W.mg_of X G alaw_bent
  have O_law_bent : FnOk P w K mg base (L2.CX P w) 2 _ _ ["pile", "some"] (spG K (exs K (fun i => [c0, c1, c2, c3, c4, c5, c6, c7, c8, c9].getD i c0) (fun n => if n = 6 then some [("at" : Str)] else none)) 2 (G_law_bent)) := ok_law_bent (cs := (fun i => [c0, c1, c2, c3, c4, c5, c6, c7, c8, c9].getD i c0)) (nms := (fun n => if n = 6 then some [("at" : Str)] else none)) (F := F_law_bent) (Z := Z) (D_law_take := D_law_take)
  have D_law_bent := Df.mk' F_law_bent m_law_bent b_law_bent rfl O_law_bent
  have F_law_map_good := fun_mk (st := s_law_map_good) allaw_map_good aclaw_map_good aklaw_map_good
  have b_law_map_good := F_law_map_good.binds (ps := ["pile", "text_own", "other_text", "some"]) fun _ _ _ _ _ _ us hl => match us, hl with | [_, _, _, _], _ => rfl
  have m_law_map_good := PySem.W.mg_of X G alaw_map_good
  have O_law_map_good : FnOk P w K mg base (L2.CX P w) 7 _ _ ["pile", "text_own", "other_text", "some"] (spG K (exs K (fun i => [c0, c1, c2, c3, c4, c5, c6, c7, c8, c9].getD i c0) (fun n => if n = 6 then some [("at" : Str)] else none)) 4 (G_law_map_good)) := ok_law_map_good (cs := (fun i => [c0, c1, c2, c3, c4, c5, c6, c7, c8, c9].getD i c0)) (nms := (fun n => if n = 6 then some [("at" : Str)] else none)) (F := F_law_map_good) (Z := Z) (D_law_bent := D_law_bent) (D_is_map := D_is_map) (N_is_map_other_thing_text := N_is_map_other_thing_text)
  have D_law_map_good := Df.mk' F_law_map_good m_law_map_good b_law_map_good rfl O_law_map_good
  have F_law_led_good := fun_mk (st := s_law_led_good) allaw_led_good aclaw_led_good aklaw_led_good
  have b_law_led_good := F_law_led_good.binds (ps := ["some", "size"]) fun _ _ _ _ _ _ us hl => match us, hl with | [_, _], _ => rfl
  have m_law_led_good := PySem.W.mg_of X G alaw_led_good
  have O_law_led_good : FnOk P w K mg base (L2.CX P w) 8 _ _ ["some", "size"] (spG K (exs K (fun i => [c0, c1, c2, c3, c4, c5, c6, c7, c8, c9].getD i c0) (fun n => if n = 6 then some [("at" : Str)] else none)) 2 (G_law_led_good (fun i => [c0, c1, c2, c3, c4, c5, c6, c7, c8, c9].getD i c0) (fun n => if n = 6 then some [("at" : Str)] else none))) := ok_law_led_good (cs := (fun i => [c0, c1, c2, c3, c4, c5, c6, c7, c8, c9].getD i c0)) (nms := (fun n => if n = 6 then some [("at" : Str)] else none)) (F := F_law_led_good) (Z := Z) (D_law_asked := D_law_asked) (D_law_only := D_law_only)
  have D_law_led_good := Df.mk' F_law_led_good m_law_led_good b_law_led_good rfl O_law_led_good
  have F_law_after_good := fun_mk (st := s_law_after_good) allaw_after_good aclaw_after_good aklaw_after_good
  have b_law_after_good := F_law_after_good.binds (ps := ["one", "two"]) fun _ _ _ _ _ _ us hl => match us, hl with | [_, _], _ => rfl
  have m_law_after_good := PySem.W.mg_of X G alaw_after_good
  have O_law_after_good : FnOkG P w K mg base (L2.CX P w) 8 _ _ ["one", "two"] (spG K (exs K (fun i => [c0, c1, c2, c3, c4, c5, c6, c7, c8, c9].getD i c0) (fun n => if n = 6 then some [("at" : Str)] else none)) 2 (G_law_after_good (fun i => [c0, c1, c2, c3, c4, c5, c6, c7, c8, c9].getD i c0) (fun n => if n = 6 then some [("at" : Str)] else none))) := ok_law_after_good (cs := (fun i => [c0, c1, c2, c3, c4, c5, c6, c7, c8, c9].getD i c0)) (nms := (fun n => if n = 6 then some [("at" : Str)] else none)) (F := F_law_after_good) (Z := Z) (D_law_asked := D_law_asked) (D_law_only := D_law_only)
  have D_law_after_good := DfG.mk' F_law_after_good m_law_after_good b_law_after_good rfl O_law_after_good
  have F_law := fun_mk (st := s_law) allaw aclaw aklaw
  have O_law : FnOkG P w K mg base (L2.CX P w) 9 _ _ ["script"] (spG K (exs K (fun i => [c0, c1, c2, c3, c4, c5, c6, c7, c8, c9].getD i c0) (fun n => if n = 6 then some [("at" : Str)] else none)) 1 (G_law (fun i => [c0, c1, c2, c3, c4, c5, c6, c7, c8, c9].getD i c0) (fun n => if n = 6 then some [("at" : Str)] else none))) := ok_law (cs := (fun i => [c0, c1, c2, c3, c4, c5, c6, c7, c8, c9].getD i c0)) (nms := (fun n => if n = 6 then some [("at" : Str)] else none)) (F := F_law) (Z := Z) (D_law_after_good := D_law_after_good) (D_law_asked := D_law_asked) (D_law_cell := D_law_cell) (D_law_led_good := D_law_led_good) (D_law_map := D_law_map) (D_law_map_good := D_law_map_good) (D_law_only := D_law_only) (D_law_take := D_law_take) (D_law_text := D_law_text) (D_after := D_after) (N_after_entries_other := N_after_entries_other) (N_lead_at_entries := N_lead_at_entries) (A_at := A_at)
  exact fin_G O_law fun ns hl => g_law (by omega) rfl rfl
end My
open PySem PySem.W PyProof.Rows
set_option maxRecDepth 100000 in
set_option maxHeartbeats 0 in
theorem PySem.Challenge.cw_leanscript_k70_maps_and_what_they_lead_t_holds : PySem.Challenge.rw_leanscript_k70_maps_and_what_they_lead_t.Holds := by
  w_on; o_law; k_head; (case hw => w_witness2)
  k_fill
  refine DA.walk_G (l := PySem.Challenge.rw_leanscript_k70_maps_and_what_they_lead_t) (n := 63) (k := 9) (x := "script") (sp := DA.spTop) rfl (by decide) rfl ⟨rfl, by decide, by decide⟩ (fun w h Y => PySem.W.kIn_of Y) ?F (fun K H a ns hl _ hS => ⟨a, ns, rfl, hS, hl, fun _ => rfl⟩)
  case F =>
    intro w mg fa h KX G hmg
    refine' My.all_mk KX G hmg ?my_g0 ?my_g1 ?my_g2 ?my_g3 ?my_g4 ?my_g5 ?my_g6 ?my_g7 ?my_g8 ?my_g9 ?my_gL ?my_z_ValueError ?my_sn ?my_st ?my_hc0 ?my_hg0 ?my_hk0 ?my_hs0 ?my_hd0 ?my_ha0 ?my_hm0 ?my_ht0 ?my_sV0 ?my_sL0 ?my_s0_1 ?my_s0_2 ?my_s0_3 ?my_s0_4 ?my_s0_5 ?my_s0_6 ?my_s0_7 ?my_s0_8 ?my_s0_9 ?my_sf0 ?my_hc1 ?my_hg1 ?my_hk1 ?my_hs1 ?my_hd1 ?my_ha1 ?my_hm1 ?my_ht1 ?my_sV1 ?my_sL1 ?my_s1_0 ?my_s1_2 ?my_s1_3 ?my_s1_4 ?my_s1_5 ?my_s1_6 ?my_s1_7 ?my_s1_8 ?my_s1_9 ?my_sf1 ?my_hc2 ?my_hg2 ?my_hk2 ?my_hs2 ?my_hd2 ?my_ha2 ?my_hm2 ?my_ht2 ?my_sV2 ?my_sL2 ?my_s2_0 ?my_s2_1 ?my_s2_3 ?my_s2_4 ?my_s2_5 ?my_s2_6 ?my_s2_7 ?my_s2_8 ?my_s2_9 ?my_sf2 ?my_hc3 ?my_hg3 ?my_hk3 ?my_hs3 ?my_hd3 ?my_ha3 ?my_hm3 ?my_ht3 ?my_sV3 ?my_sL3 ?my_s3_0 ?my_s3_1 ?my_s3_2 ?my_s3_4 ?my_s3_5 ?my_s3_6 ?my_s3_7 ?my_s3_8 ?my_s3_9 ?my_sf3 ?my_hc4 ?my_hg4 ?my_hk4 ?my_hs4 ?my_hd4 ?my_ha4 ?my_hm4 ?my_ht4 ?my_sV4 ?my_sL4 ?my_s4_0 ?my_s4_1 ?my_s4_2 ?my_s4_3 ?my_s4_5 ?my_s4_6 ?my_s4_7 ?my_s4_8 ?my_s4_9 ?my_sf4 ?my_hc5 ?my_hg5 ?my_hk5 ?my_hs5 ?my_hd5 ?my_ha5 ?my_hm5 ?my_ht5 ?my_sV5 ?my_sL5 ?my_s5_0 ?my_s5_1 ?my_s5_2 ?my_s5_3 ?my_s5_4 ?my_s5_6 ?my_s5_7 ?my_s5_8 ?my_s5_9 ?my_sf5 ?my_hc6 ?my_hg6 ?my_hk6 ?my_hs6 ?my_hd6 ?my_ha6 ?my_hm6 ?my_ht6 ?my_sV6 ?my_sL6 ?my_s6_0 ?my_s6_1 ?my_s6_2 ?my_s6_3 ?my_s6_4 ?my_s6_5 ?my_s6_7 ?my_s6_8 ?my_s6_9 ?my_sf6 ?my_hc7 ?my_hg7 ?my_hk7 ?my_hs7 ?my_hd7 ?my_ha7 ?my_hm7 ?my_ht7 ?my_sV7 ?my_sL7 ?my_s7_0 ?my_s7_1 ?my_s7_2 ?my_s7_3 ?my_s7_4 ?my_s7_5 ?my_s7_6 ?my_s7_8 ?my_s7_9 ?my_sf7 ?my_hc8 ?my_hg8 ?my_hk8 ?my_hs8 ?my_hd8 ?my_ha8 ?my_hm8 ?my_ht8 ?my_sV8 ?my_sL8 ?my_s8_0 ?my_s8_1 ?my_s8_2 ?my_s8_3 ?my_s8_4 ?my_s8_5 ?my_s8_6 ?my_s8_7 ?my_s8_9 ?my_sf8 ?my_hc9 ?my_hg9 ?my_hk9 ?my_hs9 ?my_hd9 ?my_ha9 ?my_hm9 ?my_ht9 ?my_sV9 ?my_sL9 ?my_s9_0 ?my_s9_1 ?my_s9_2 ?my_s9_3 ?my_s9_4 ?my_s9_5 ?my_s9_6 ?my_s9_7 ?my_s9_8 ?my_sf9 ?my_cL1 ?my_cL2 ?my_bL ?my_z_isinstance ?my_z_zip ?my_xT ?my_saT ?my_kcT ?my_icT ?my_tiT ?my_lfT ?my_cfT ?my_kfT ?my_ldT ?my_nTat ?my_q12 ?my_q18 ?my_qKp ?my_lKp ?my_qLo ?my_lLo ?my_qSh ?my_lSh ?my_z_len ?my_z_range ?my_z_enumerate ?my_z_sorted ?my_z_sum ?my_z_all ?my_z_any ?my_z_int ?my_z_str ?my_z_list ?my_z_tuple ?my_z_set ?my_z_dict ?my_z_bool ?my_z_min ?my_z_max ?my_z_abs ?my_z_type ?my_z_reversed ?my_z_repr ?my_aPl ?my_alPl ?my_acPl ?my_akPl ?my_aPf ?my_alPf ?my_acPf ?my_akPf ?my_aPx ?my_alPx ?my_acPx ?my_akPx ?my_aPn ?my_alPn ?my_acPn ?my_akPn ?my_aPp ?my_alPp ?my_acPp ?my_akPp ?my_aPu ?my_alPu ?my_acPu ?my_akPu ?my_aPr ?my_alPr ?my_acPr ?my_akPr ?my_aPs ?my_alPs ?my_acPs ?my_akPs ?my_aPg ?my_alPg ?my_acPg ?my_akPg ?my_aPw ?my_alPw ?my_acPw ?my_akPw ?my_aLo2 ?my_alLo2 ?my_acLo2 ?my_akLo2 ?my_xc3 ?my_kb3 ?my_aleast_stretch ?my_alleast_stretch ?my_acleast_stretch ?my_akleast_stretch ?my_ais_whole ?my_alis_whole ?my_acis_whole ?my_akis_whole ?my_ais_entry ?my_alis_entry ?my_acis_entry ?my_akis_entry ?my_ais_entry_of ?my_alis_entry_of ?my_acis_entry_of ?my_akis_entry_of ?my_ais_map ?my_alis_map ?my_acis_map ?my_akis_map ?my_alead ?my_allead ?my_aclead ?my_aklead ?my_astretch_of ?my_alstretch_of ?my_acstretch_of ?my_akstretch_of ?my_aafter ?my_alafter ?my_acafter ?my_akafter ?my_alaw_mixed ?my_allaw_mixed ?my_aclaw_mixed ?my_aklaw_mixed ?my_alaw_cell ?my_allaw_cell ?my_aclaw_cell ?my_aklaw_cell ?my_alaw_take ?my_allaw_take ?my_aclaw_take ?my_aklaw_take ?my_alaw_text ?my_allaw_text ?my_aclaw_text ?my_aklaw_text ?my_alaw_map ?my_allaw_map ?my_aclaw_map ?my_aklaw_map ?my_alaw_asked ?my_allaw_asked ?my_aclaw_asked ?my_aklaw_asked ?my_alaw_bent ?my_allaw_bent ?my_aclaw_bent ?my_aklaw_bent ?my_alaw_map_good ?my_allaw_map_good ?my_aclaw_map_good ?my_aklaw_map_good ?my_alaw_led_good ?my_allaw_led_good ?my_aclaw_led_good ?my_aklaw_led_good ?my_alaw_after_good ?my_allaw_after_good ?my_aclaw_after_good ?my_aklaw_after_good ?my_alaw ?my_allaw ?my_aclaw ?my_aklaw
    (case my_g0 => k_is)
    (case my_g1 => k_is)
    (case my_g2 => k_is)
    (case my_g3 => k_is)
    (case my_g4 => k_is)
    (case my_g5 => k_is)
    (case my_g6 => k_is)
    (case my_g7 => k_is)
    (case my_g8 => k_is)
    (case my_g9 => k_is)
    (case my_gL => k_is)
    (case my_z_ValueError => k_is)
    (case my_sn => k_is)
    (case my_st => k_is)
    (case my_hc0 => k_is)
    (case my_hg0 => k_is)
    (case my_hk0 => k_is)
    (case my_hs0 => k_is)
    (case my_hd0 => k_is)
    (case my_ha0 => k_is)
    (case my_hm0 => k_is)
    (case my_ht0 => k_is)
    (case my_sV0 => k_is)
    (case my_sL0 => k_is)
    (case my_s0_1 => k_is)
    (case my_s0_2 => k_is)
    (case my_s0_3 => k_is)
    (case my_s0_4 => k_is)
    (case my_s0_5 => k_is)
    (case my_s0_6 => k_is)
    (case my_s0_7 => k_is)
    (case my_s0_8 => k_is)
    (case my_s0_9 => k_is)
    (case my_sf0 => k_is)
    (case my_hc1 => k_is)
    (case my_hg1 => k_is)
    (case my_hk1 => k_is)
    (case my_hs1 => k_is)
    (case my_hd1 => k_is)
    (case my_ha1 => k_is)
    (case my_hm1 => k_is)
    (case my_ht1 => k_is)
    (case my_sV1 => k_is)
    (case my_sL1 => k_is)
    (case my_s1_0 => k_is)
    (case my_s1_2 => k_is)
    (case my_s1_3 => k_is)
    (case my_s1_4 => k_is)
    (case my_s1_5 => k_is)
    (case my_s1_6 => k_is)
    (case my_s1_7 => k_is)
    (case my_s1_8 => k_is)
    (case my_s1_9 => k_is)
    (case my_sf1 => k_is)
    (case my_hc2 => k_is)
    (case my_hg2 => k_is)
    (case my_hk2 => k_is)
    (case my_hs2 => k_is)
    (case my_hd2 => k_is)
    (case my_ha2 => k_is)
    (case my_hm2 => k_is)
    (case my_ht2 => k_is)
    (case my_sV2 => k_is)
    (case my_sL2 => k_is)
    (case my_s2_0 => k_is)
    (case my_s2_1 => k_is)
    (case my_s2_3 => k_is)
    (case my_s2_4 => k_is)
    (case my_s2_5 => k_is)
    (case my_s2_6 => k_is)
    (case my_s2_7 => k_is)
    (case my_s2_8 => k_is)
    (case my_s2_9 => k_is)
    (case my_sf2 => k_is)
    (case my_hc3 => k_is)
    (case my_hg3 => k_is)
    (case my_hk3 => k_is)
    (case my_hs3 => k_is)
    (case my_hd3 => k_is)
    (case my_ha3 => k_is)
    (case my_hm3 => k_is)
    (case my_ht3 => k_is)
    (case my_sV3 => k_is)
    (case my_sL3 => k_is)
    (case my_s3_0 => k_is)
    (case my_s3_1 => k_is)
    (case my_s3_2 => k_is)
    (case my_s3_4 => k_is)
    (case my_s3_5 => k_is)
    (case my_s3_6 => k_is)
    (case my_s3_7 => k_is)
    (case my_s3_8 => k_is)
    (case my_s3_9 => k_is)
    (case my_sf3 => k_is)
    (case my_hc4 => k_is)
    (case my_hg4 => k_is)
    (case my_hk4 => k_is)
    (case my_hs4 => k_is)
    (case my_hd4 => k_is)
    (case my_ha4 => k_is)
    (case my_hm4 => k_is)
    (case my_ht4 => k_is)
    (case my_sV4 => k_is)
    (case my_sL4 => k_is)
    (case my_s4_0 => k_is)
    (case my_s4_1 => k_is)
    (case my_s4_2 => k_is)
    (case my_s4_3 => k_is)
    (case my_s4_5 => k_is)
    (case my_s4_6 => k_is)
    (case my_s4_7 => k_is)
    (case my_s4_8 => k_is)
    (case my_s4_9 => k_is)
    (case my_sf4 => k_is)
    (case my_hc5 => k_is)
    (case my_hg5 => k_is)
    (case my_hk5 => k_is)
    (case my_hs5 => k_is)
    (case my_hd5 => k_is)
    (case my_ha5 => k_is)
    (case my_hm5 => k_is)
    (case my_ht5 => k_is)
    (case my_sV5 => k_is)
    (case my_sL5 => k_is)
    (case my_s5_0 => k_is)
    (case my_s5_1 => k_is)
    (case my_s5_2 => k_is)
    (case my_s5_3 => k_is)
    (case my_s5_4 => k_is)
    (case my_s5_6 => k_is)
    (case my_s5_7 => k_is)
    (case my_s5_8 => k_is)
    (case my_s5_9 => k_is)
    (case my_sf5 => k_is)
    (case my_hc6 => k_is)
    (case my_hg6 => k_is)
    (case my_hk6 => k_is)
    (case my_hs6 => k_is)
    (case my_hd6 => k_is)
    (case my_ha6 => k_is)
    (case my_hm6 => k_is)
    (case my_ht6 => k_is)
    (case my_sV6 => k_is)
    (case my_sL6 => k_is)
    (case my_s6_0 => k_is)
    (case my_s6_1 => k_is)
    (case my_s6_2 => k_is)
    (case my_s6_3 => k_is)
    (case my_s6_4 => k_is)
    (case my_s6_5 => k_is)
    (case my_s6_7 => k_is)
    (case my_s6_8 => k_is)
    (case my_s6_9 => k_is)
    (case my_sf6 => k_is)
    (case my_hc7 => k_is)
    (case my_hg7 => k_is)
    (case my_hk7 => k_is)
    (case my_hs7 => k_is)
    (case my_hd7 => k_is)
    (case my_ha7 => k_is)
    (case my_hm7 => k_is)
    (case my_ht7 => k_is)
    (case my_sV7 => k_is)
    (case my_sL7 => k_is)
    (case my_s7_0 => k_is)
    (case my_s7_1 => k_is)
    (case my_s7_2 => k_is)
    (case my_s7_3 => k_is)
    (case my_s7_4 => k_is)
    (case my_s7_5 => k_is)
    (case my_s7_6 => k_is)
    (case my_s7_8 => k_is)
    (case my_s7_9 => k_is)
    (case my_sf7 => k_is)
    (case my_hc8 => k_is)
    (case my_hg8 => k_is)
    (case my_hk8 => k_is)
    (case my_hs8 => k_is)
    (case my_hd8 => k_is)
    (case my_ha8 => k_is)
    (case my_hm8 => k_is)
    (case my_ht8 => k_is)
    (case my_sV8 => k_is)
    (case my_sL8 => k_is)
    (case my_s8_0 => k_is)
    (case my_s8_1 => k_is)
    (case my_s8_2 => k_is)
    (case my_s8_3 => k_is)
    (case my_s8_4 => k_is)
    (case my_s8_5 => k_is)
    (case my_s8_6 => k_is)
    (case my_s8_7 => k_is)
    (case my_s8_9 => k_is)
    (case my_sf8 => k_is)
    (case my_hc9 => k_is)
    (case my_hg9 => k_is)
    (case my_hk9 => k_is)
    (case my_hs9 => k_is)
    (case my_hd9 => k_is)
    (case my_ha9 => k_is)
    (case my_hm9 => k_is)
    (case my_ht9 => k_is)
    (case my_sV9 => k_is)
    (case my_sL9 => k_is)
    (case my_s9_0 => k_is)
    (case my_s9_1 => k_is)
    (case my_s9_2 => k_is)
    (case my_s9_3 => k_is)
    (case my_s9_4 => k_is)
    (case my_s9_5 => k_is)
    (case my_s9_6 => k_is)
    (case my_s9_7 => k_is)
    (case my_s9_8 => k_is)
    (case my_sf9 => k_is)
    (case my_cL1 => k_is)
    (case my_cL2 => k_is)
    (case my_bL => k_is)
    (case my_z_isinstance => k_is)
    (case my_z_zip => k_is)
    (case my_xT => k_is)
    (case my_saT => k_is)
    (case my_kcT => k_is)
    (case my_icT => k_is)
    (case my_tiT => k_is)
    (case my_lfT => k_is)
    (case my_cfT => k_is)
    (case my_kfT => k_is)
    (case my_ldT => k_is)
    (case my_nTat => k_is)
    (case my_q12 => k_is)
    (case my_q18 => k_is)
    (case my_qKp => k_is)
    (case my_lKp => k_is)
    (case my_qLo => k_is)
    (case my_lLo => k_is)
    (case my_qSh => k_is)
    (case my_lSh => k_is)
    (case my_z_len => k_is)
    (case my_z_range => k_is)
    (case my_z_enumerate => k_is)
    (case my_z_sorted => k_is)
    (case my_z_sum => k_is)
    (case my_z_all => k_is)
    (case my_z_any => k_is)
    (case my_z_int => k_is)
    (case my_z_str => k_is)
    (case my_z_list => k_is)
    (case my_z_tuple => k_is)
    (case my_z_set => k_is)
    (case my_z_dict => k_is)
    (case my_z_bool => k_is)
    (case my_z_min => k_is)
    (case my_z_max => k_is)
    (case my_z_abs => k_is)
    (case my_z_type => k_is)
    (case my_z_reversed => k_is)
    (case my_z_repr => k_is)
    (case my_aPl => k_is)
    (case my_alPl => k_is)
    (case my_acPl => k_is)
    (case my_akPl => k_is)
    (case my_aPf => k_is)
    (case my_alPf => k_is)
    (case my_acPf => k_is)
    (case my_akPf => k_is)
    (case my_aPx => k_is)
    (case my_alPx => k_is)
    (case my_acPx => k_is)
    (case my_akPx => k_is)
    (case my_aPn => k_is)
    (case my_alPn => k_is)
    (case my_acPn => k_is)
    (case my_akPn => k_is)
    (case my_aPp => k_is)
    (case my_alPp => k_is)
    (case my_acPp => k_is)
    (case my_akPp => k_is)
    (case my_aPu => k_is)
    (case my_alPu => k_is)
    (case my_acPu => k_is)
    (case my_akPu => k_is)
    (case my_aPr => k_is)
    (case my_alPr => k_is)
    (case my_acPr => k_is)
    (case my_akPr => k_is)
    (case my_aPs => k_is)
    (case my_alPs => k_is)
    (case my_acPs => k_is)
    (case my_akPs => k_is)
    (case my_aPg => k_is)
    (case my_alPg => k_is)
    (case my_acPg => k_is)
    (case my_akPg => k_is)
    (case my_aPw => k_is)
    (case my_alPw => k_is)
    (case my_acPw => k_is)
    (case my_akPw => k_is)
    (case my_aLo2 => k_is)
    (case my_alLo2 => k_is)
    (case my_acLo2 => k_is)
    (case my_akLo2 => k_is)
    (case my_xc3 => k_exc)
    (case my_kb3 => k_is)
    (case my_aleast_stretch => k_is)
    (case my_alleast_stretch => k_is)
    (case my_acleast_stretch => k_is)
    (case my_akleast_stretch => k_is)
    (case my_ais_whole => k_is)
    (case my_alis_whole => k_is)
    (case my_acis_whole => k_is)
    (case my_akis_whole => k_is)
    (case my_ais_entry => k_is)
    (case my_alis_entry => k_is)
    (case my_acis_entry => k_is)
    (case my_akis_entry => k_is)
    (case my_ais_entry_of => k_is)
    (case my_alis_entry_of => k_is)
    (case my_acis_entry_of => k_is)
    (case my_akis_entry_of => k_is)
    (case my_ais_map => k_is)
    (case my_alis_map => k_is)
    (case my_acis_map => k_is)
    (case my_akis_map => k_is)
    (case my_alead => k_is)
    (case my_allead => k_is)
    (case my_aclead => k_is)
    (case my_aklead => k_is)
    (case my_astretch_of => k_is)
    (case my_alstretch_of => k_is)
    (case my_acstretch_of => k_is)
    (case my_akstretch_of => k_is)
    (case my_aafter => k_is)
    (case my_alafter => k_is)
    (case my_acafter => k_is)
    (case my_akafter => k_is)
    (case my_alaw_mixed => k_is)
    (case my_allaw_mixed => k_is)
    (case my_aclaw_mixed => k_is)
    (case my_aklaw_mixed => k_is)
    (case my_alaw_cell => k_is)
    (case my_allaw_cell => k_is)
    (case my_aclaw_cell => k_is)
    (case my_aklaw_cell => k_is)
    (case my_alaw_take => k_is)
    (case my_allaw_take => k_is)
    (case my_aclaw_take => k_is)
    (case my_aklaw_take => k_is)
    (case my_alaw_text => k_is)
    (case my_allaw_text => k_is)
    (case my_aclaw_text => k_is)
    (case my_aklaw_text => k_is)
    (case my_alaw_map => k_is)
    (case my_allaw_map => k_is)
    (case my_aclaw_map => k_is)
    (case my_aklaw_map => k_is)
    (case my_alaw_asked => k_is)
    (case my_allaw_asked => k_is)
    (case my_aclaw_asked => k_is)
    (case my_aklaw_asked => k_is)
    (case my_alaw_bent => k_is)
    (case my_allaw_bent => k_is)
    (case my_aclaw_bent => k_is)
    (case my_aklaw_bent => k_is)
    (case my_alaw_map_good => k_is)
    (case my_allaw_map_good => k_is)
    (case my_aclaw_map_good => k_is)
    (case my_aklaw_map_good => k_is)
    (case my_alaw_led_good => k_is)
    (case my_allaw_led_good => k_is)
    (case my_aclaw_led_good => k_is)
    (case my_aklaw_led_good => k_is)
    (case my_alaw_after_good => k_is)
    (case my_allaw_after_good => k_is)
    (case my_aclaw_after_good => k_is)
    (case my_aklaw_after_good => k_is)
    (case my_alaw => k_is)
    (case my_allaw => k_is)
    (case my_aclaw => k_is)
    (case my_aklaw => k_is)
